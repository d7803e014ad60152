import PyProof.Rows.All
import KE.KDictList
import KE.KDictOf
import KE.KSortTup
import KE.KTreeD
import KE.KTryMore
import Wide.FinOn
import PySem.Challenge.RW_twoglass_k84_refused_as_the_glass_is
set_option Elab.async false
set_option linter.all false
set_option maxRecDepth 100000
section
open PySem PySem.W PyProof.Rows
theorem PySem.W.Fast.tw7773242840435894576 : True := trivial
theorem PySem.W.Fast.tw8562208639122845009 : True := trivial
theorem PySem.W.Fast.tw7187827526046212177 : True := trivial
theorem PySem.W.Fast.tw10861468242835473440 : True := trivial
theorem PySem.W.Fast.tw6892638787600006408 : True := trivial
theorem PySem.W.Fast.tw1572229863115804374 : True := trivial
theorem PySem.W.Fast.tw16163970602599698305 : True := trivial
theorem PySem.W.Fast.tw14218376405766421960 : True := trivial
theorem PySem.W.Fast.tw12477985922636683997 : True := trivial
theorem PySem.W.Fast.tw8502648033004835992 : True := trivial
theorem PySem.W.Fast.tw14491591844057214731 : True := trivial
theorem PySem.W.Fast.tw12007593864259769847 : True := trivial
theorem PySem.W.Fast.tw11576162227883691923 : True := trivial
theorem PySem.W.Fast.tw9050247225506395051 : True := trivial
theorem PySem.W.Fast.tw10998396832668806277 : True := trivial
theorem PySem.W.Fast.tw8259105429736729453 : True := trivial
theorem PySem.W.Fast.tw15920382942359382064 : True := trivial
theorem PySem.W.Fast.tw6559149162340651988 : True := trivial
theorem PySem.W.Fast.tw15155644694032263931 : True := trivial
theorem PySem.W.Fast.tw492248340188308031 : True := trivial
theorem PySem.W.Fast.tw11686962862761140538 : True := trivial
theorem PySem.W.Fast.tw1573527884177006863 : True := trivial
theorem PySem.W.Fast.tw11542458391558749985 : True := trivial
theorem PySem.W.Fast.tw16346663902382180738 : True := trivial
theorem PySem.W.Fast.tw4136001660800947606 : True := trivial
theorem PySem.W.Fast.tw14406330733650748227 : True := trivial
theorem PySem.W.Fast.tw8935164198894641214 : True := trivial
theorem PySem.W.Fast.tw5116059994741750038 : True := trivial
theorem PySem.W.Fast.tw2460130575338710615 : True := trivial
theorem PySem.W.Fast.tw9835817793384472216 : True := trivial
theorem PySem.W.Fast.tw859829069682145758 : True := trivial
theorem PySem.W.Fast.tw4829963830788217142 : True := trivial
theorem PySem.W.Fast.tw13559701362796605577 : True := trivial
theorem PySem.W.Fast.tw17572048792820231656 : True := trivial
theorem PySem.W.Fast.tw13878113818504037142 : True := trivial
theorem PySem.W.Fast.tw18182001929503220507 : True := trivial
theorem PySem.W.Fast.tw3397953845044785679 : True := trivial
theorem PySem.W.Fast.tw11393109593505457611 : True := trivial
theorem PySem.W.Fast.tw7079291676018199476 : True := trivial
theorem PySem.W.Fast.tw8896962831013050191 : True := trivial
theorem PySem.W.Fast.tw14728441472955081221 : True := trivial
theorem PySem.W.Fast.tw12712202062943266246 : True := trivial
theorem PySem.W.Fast.tw1387069327682746471 : True := trivial
theorem PySem.W.Fast.tw14861849033217281683 : True := trivial
theorem PySem.W.Fast.tw4447529518008861959 : True := trivial
theorem PySem.W.Fast.tw14643379944937344774 : True := trivial
theorem PySem.W.Fast.tw14401408978806246948 : True := trivial
theorem PySem.W.Fast.tw13961372839071901418 : True := trivial
theorem PySem.W.Fast.tw10999247814911204909 : True := trivial
theorem PySem.W.Fast.tw10645282507795671242 : True := trivial
theorem PySem.W.Fast.tw11161455369799041591 : True := trivial
theorem PySem.W.Fast.tw5496308011780862850 : True := trivial
theorem PySem.W.Fast.tw16464865933664556028 : True := trivial
theorem PySem.W.Fast.tw15536229990543910857 : True := trivial
theorem PySem.W.Fast.tw645839351214701518 : True := trivial
theorem PySem.W.Fast.tw4485651502581299540 : True := trivial
theorem PySem.W.Fast.tw447159335595515208 : True := trivial
theorem PySem.W.Fast.tw1821057133600437615 : True := trivial
theorem PySem.W.Fast.tw5059128475384614479 : True := trivial
theorem PySem.W.Fast.tw15822478693125199862 : True := trivial
theorem PySem.W.Fast.tw4205736827672043182 : True := trivial
theorem PySem.W.Fast.tw6404519743026582877 : True := trivial
theorem PySem.W.Fast.tw3050091350836985020 : True := trivial
theorem PySem.W.Fast.tw985607388656882946 : True := trivial
theorem PySem.W.Fast.tw8694050425688961552 : True := trivial
theorem PySem.W.Fast.tw17211971189730287885 : True := trivial
theorem PySem.W.Fast.tw1616616982818338506 : True := trivial
theorem PySem.W.Fast.tw17227758550481833372 : True := trivial
theorem PySem.W.Fast.tw15795587181785106521 : True := trivial
theorem PySem.W.Fast.tw9434101171468312986 : True := trivial
theorem PySem.W.Fast.tw14581746140258950195 : True := trivial
theorem PySem.W.Fast.tw8700480296741110854 : True := trivial
theorem PySem.W.Fast.tw1884083645737053843 : True := trivial
theorem PySem.W.Fast.tw6816372014461414265 : True := trivial
theorem PySem.W.Fast.tw14093649712129375564 : True := trivial
theorem PySem.W.Fast.tw13844161493186160628 : True := trivial
theorem PySem.W.Fast.tw14637886736429257702 : True := trivial
theorem PySem.W.Fast.tw12239107197788615863 : True := trivial
theorem PySem.W.Fast.tw9300114025957706073 : True := trivial
theorem PySem.W.Fast.tw13855965759504596507 : True := trivial
theorem PySem.W.Fast.tw3790401850588721239 : True := trivial
theorem PySem.W.Fast.tw2409278615004592334 : True := trivial
theorem PySem.W.Fast.tw9165117759673757841 : True := trivial
theorem PySem.W.Fast.tw12937365224810539756 : True := trivial
theorem PySem.W.Fast.tw10796765740253016188 : True := trivial
theorem PySem.W.Fast.tw7767585933031119893 : True := trivial
theorem PySem.W.Fast.tw13878076723287652292 : True := trivial
theorem PySem.W.Fast.tw14819057192269605989 : True := trivial
theorem PySem.W.Fast.tw3191116873796370375 : True := trivial
theorem PySem.W.Fast.tw16260317900683236582 : True := trivial
theorem PySem.W.Fast.tw12774340389612901451 : True := trivial
theorem PySem.W.Fast.tw1728666883475954356 : True := trivial
theorem PySem.W.Fast.tw12471412473451222779 : True := trivial
theorem PySem.W.Fast.tw7415560946233136921 : True := trivial
theorem PySem.W.Fast.tw15466627320811995439 : True := trivial
theorem PySem.W.Fast.tw3188057701630922091 : True := trivial
theorem PySem.W.Fast.tw11718409067892292920 : True := trivial
theorem PySem.W.Fast.tw2974331215946614812 : True := trivial
theorem PySem.W.Fast.tw3291499829015355783 : True := trivial
theorem PySem.W.Fast.tw6848319790715104683 : True := trivial
theorem PySem.W.Fast.tw14287841364887939555 : True := trivial
theorem PySem.W.Fast.tw11796187559318608145 : True := trivial
theorem PySem.W.Fast.tw10184336565606368435 : True := trivial
theorem PySem.W.Fast.tw3964929092845108323 : True := trivial
theorem PySem.W.Fast.tw15208553278666927412 : True := trivial
theorem PySem.W.Fast.tw11108407919254669618 : True := trivial
theorem PySem.W.Fast.tw11929925990838175993 : True := trivial
theorem PySem.W.Fast.tw4179207435353619499 : True := trivial
theorem PySem.W.Fast.tw1532562768808727955 : True := trivial
theorem PySem.W.Fast.tw6139255922346394252 : True := trivial
theorem PySem.W.Fast.tw15537136145277704027 : True := trivial
theorem PySem.W.Fast.tw9964845243099237850 : True := trivial
theorem PySem.W.Fast.tw5795644260973656116 : True := trivial
theorem PySem.W.Fast.tw12295208583883035308 : True := trivial
theorem PySem.W.Fast.tw9564458637203679357 : True := trivial
theorem PySem.W.Fast.tw4640519243985090227 : True := trivial
theorem PySem.W.Fast.tw1170495187607631015 : True := trivial
theorem PySem.W.Fast.tw1669842118303300303 : True := trivial
theorem PySem.W.Fast.tw3247595794823741889 : True := trivial
theorem PySem.W.Fast.tw12230070407452635606 : True := trivial
theorem PySem.W.Fast.tw15526681072336873099 : True := trivial
theorem PySem.W.Fast.tw487332870457925626 : True := trivial
theorem PySem.W.Fast.tw15435556571112051483 : True := trivial
theorem PySem.W.Fast.tw1830456652304505226 : True := trivial
theorem PySem.W.Fast.tw4653307482864339934 : True := trivial
theorem PySem.W.Fast.tw6796786061557569502 : True := trivial
theorem PySem.W.Fast.tw8030691804687110911 : True := trivial
theorem PySem.W.Fast.tw10208021238848436591 : True := trivial
theorem PySem.W.Fast.tw17783738181879638568 : True := trivial
theorem PySem.W.Fast.tw8807803759457327571 : True := trivial
theorem PySem.W.Fast.tw2840885768824493006 : True := trivial
theorem PySem.W.Fast.tw12023987333952458782 : True := trivial
theorem PySem.W.Fast.tw2967474848263085878 : True := trivial
theorem PySem.W.Fast.tw14354007296429298480 : True := trivial
theorem PySem.W.Fast.tw14641400916233075489 : True := trivial
theorem PySem.W.Fast.tw13638539226327387552 : True := trivial
theorem PySem.W.Fast.tw2461413805739189183 : True := trivial
theorem PySem.W.Fast.tw17855208159054265805 : True := trivial
theorem PySem.W.Fast.tw8072175113551295264 : True := trivial
theorem PySem.W.Fast.tw17540136538206584534 : True := trivial
theorem PySem.W.Fast.tw15547037045811908900 : True := trivial
theorem PySem.W.Fast.tw2463054570075218754 : True := trivial
theorem PySem.W.Fast.tw16693951090771400710 : True := trivial
theorem PySem.W.Fast.tw8441406875902015973 : True := trivial
theorem PySem.W.Fast.tw1839068600629092021 : True := trivial
theorem PySem.W.Fast.tw551173925959492975 : True := trivial
theorem PySem.W.Fast.tw4516179207081150425 : True := trivial
theorem PySem.W.Fast.tw16863889410346874879 : True := trivial
theorem PySem.W.Fast.tw6253345563739684536 : True := trivial
theorem PySem.W.Fast.tw17640210879962486504 : True := trivial
theorem PySem.W.Fast.tw4246053715381353542 : True := trivial
theorem PySem.W.Fast.tw14634594493939020621 : True := trivial
theorem PySem.W.Fast.tw8273922740657960473 : True := trivial
theorem PySem.W.Fast.tw14608623839260653276 : True := trivial
theorem PySem.W.Fast.tw17091534494948120144 : True := trivial
theorem PySem.W.Fast.tw6251193142827834758 : True := trivial
theorem PySem.W.Fast.tw14110079972545065966 : True := trivial
theorem PySem.W.Fast.tw8670730932742994615 : True := trivial
theorem PySem.W.Fast.tw10265755258900849576 : True := trivial
theorem PySem.W.Fast.tw16349308618773084155 : True := trivial
theorem PySem.W.Fast.tw7937703112977217040 : True := trivial
theorem PySem.W.Fast.tw10849143741591910064 : True := trivial
theorem PySem.W.Fast.tw13259011248128196270 : True := trivial
theorem PySem.W.Fast.tw12627624896091084955 : True := trivial
theorem PySem.W.Fast.tw8010988215736323718 : True := trivial
theorem PySem.W.Fast.tw10085454382428452958 : True := trivial
theorem PySem.W.Fast.tw7891867160232164984 : True := trivial
theorem PySem.W.Fast.tw1950400719186441256 : True := trivial
theorem PySem.W.Fast.tw15959624139563893839 : True := trivial
theorem PySem.W.Fast.tw6433984354195412780 : True := trivial
theorem PySem.W.Fast.tw16657019373262740948 : True := trivial
theorem PySem.W.Fast.tw14576597916622979318 : True := trivial
theorem PySem.W.Fast.tw560092623916318648 : True := trivial
theorem PySem.W.Fast.tw5139780075343147192 : True := trivial
theorem PySem.W.Fast.tw2958163861859484650 : True := trivial
theorem PySem.W.Fast.tw7004537183900496791 : True := trivial
theorem PySem.W.Fast.tw5313734078762752715 : True := trivial
theorem PySem.W.Fast.tw16060105285221544150 : True := trivial
theorem PySem.W.Fast.tw7007719944819605452 : True := trivial
theorem PySem.W.Fast.tw16284451033714790339 : True := trivial
theorem PySem.W.Fast.tw1356535409339275069 : True := trivial
theorem PySem.W.Fast.tw10549709636638613456 : True := trivial
theorem PySem.W.Fast.tw8781957088124764318 : True := trivial
theorem PySem.W.Fast.tw370861392385566385 : True := trivial
theorem PySem.W.Fast.tw6560029957788415075 : True := trivial
theorem PySem.W.Fast.tw402545981207188367 : True := trivial
theorem PySem.W.Fast.tw2753626596548159935 : True := trivial
theorem PySem.W.Fast.tw7051105125125187338 : True := trivial
theorem PySem.W.Fast.tw6378252158285355837 : True := trivial
theorem PySem.W.Fast.tw2220528103991439818 : True := trivial
theorem PySem.W.Fast.tw16456927988745117300 : True := trivial
theorem PySem.W.Fast.tw5122727741286605376 : True := trivial
theorem PySem.W.Fast.tw7958441138881977204 : True := trivial
theorem PySem.W.Fast.tw13177379574115299961 : True := trivial
theorem PySem.W.Fast.tw10334956291063451229 : True := trivial
theorem PySem.W.Fast.tw16293860404330816333 : True := trivial
theorem PySem.W.Fast.tw5559454554580390061 : True := trivial
theorem PySem.W.Fast.tw3149160153773780251 : True := trivial
theorem PySem.W.Fast.tw17995894470614310955 : True := trivial
theorem PySem.W.Fast.tw11469073957903599409 : True := trivial
theorem PySem.W.Fast.tw14360785117703183244 : True := trivial
theorem PySem.W.Fast.tw16380374394578508032 : True := trivial
theorem PySem.W.Fast.tw17852874380193471894 : True := trivial
theorem PySem.W.Fast.tw5686599884040087854 : True := trivial
theorem PySem.W.Fast.tw1922775175039965277 : True := trivial
theorem PySem.W.Fast.tw8415625509016504097 : True := trivial
theorem PySem.W.Fast.tw16192702653667768685 : True := trivial
theorem PySem.W.Fast.tw9747975463400716938 : True := trivial
theorem PySem.W.Fast.tw2553951487128703058 : True := trivial
theorem PySem.W.Fast.tw15223314922650888204 : True := trivial
theorem PySem.W.Fast.tw18074922823737326827 : True := trivial
theorem PySem.W.Fast.tw3181925351204139495 : True := trivial
theorem PySem.W.Fast.tw13230357830193096232 : True := trivial
theorem PySem.W.Fast.tw2247687500852697972 : True := trivial
theorem PySem.W.Fast.tw7763519259196926930 : True := trivial
theorem PySem.W.Fast.tw12495987457775795238 : True := trivial
theorem PySem.W.Fast.tw3184152235091752783 : True := trivial
theorem PySem.W.Fast.tw4249343938720616518 : True := trivial
theorem PySem.W.Fast.tw16935022233878209817 : True := trivial
theorem PySem.W.Fast.tw4788008684173034363 : True := trivial
theorem PySem.W.Fast.tw10623699256535586583 : True := trivial
theorem PySem.W.Fast.tw10072671238579494801 : True := trivial
theorem PySem.W.Fast.tw8799127327542926065 : True := trivial
theorem PySem.W.Fast.tw12518246515326005382 : True := trivial
theorem PySem.W.Fast.tw9703801042980880326 : True := trivial
theorem PySem.W.Fast.tw11750175393092806728 : True := trivial
theorem PySem.W.Fast.tw6941957616894447897 : True := trivial
theorem PySem.W.Fast.tw11277431434531994068 : True := trivial
theorem PySem.W.Fast.tw12971448537769658539 : True := trivial
theorem PySem.W.Fast.tw18131101088969592761 : True := trivial
theorem PySem.W.Fast.tw10607192404864206104 : True := trivial
theorem PySem.W.Fast.tw9389992662100806461 : True := trivial
theorem PySem.W.Fast.tw8523252916216996760 : True := trivial
theorem PySem.W.Fast.tw3234566056566036137 : True := trivial
theorem PySem.W.Fast.tw1586663817982152523 : True := trivial
theorem PySem.W.Fast.tw15523662949245133517 : True := trivial
theorem PySem.W.Fast.tw2814754101855758916 : True := trivial
theorem PySem.W.Fast.tw4744283184481366879 : True := trivial
theorem PySem.W.Fast.tw2634057169534522504 : True := trivial
theorem PySem.W.Fast.tw5241748974754384693 : True := trivial
theorem PySem.W.Fast.tw3598315827350941536 : True := trivial
theorem PySem.W.Fast.tw10190781514413407405 : True := trivial
theorem PySem.W.Fast.tw790791190121502506 : True := trivial
theorem PySem.W.Fast.tw17454252908618309005 : True := trivial
theorem PySem.W.Fast.tw15259913020240196157 : True := trivial
theorem PySem.W.Fast.tw3616253351657415853 : True := trivial
theorem PySem.W.Fast.tw2367130104019632010 : True := trivial
theorem PySem.W.Fast.tw15383032784316398915 : True := trivial
theorem PySem.W.Fast.tw387525571059855126 : True := trivial
theorem PySem.W.Fast.tw2253840687538206251 : True := trivial
theorem PySem.W.Fast.tw15894231964567767585 : True := trivial
theorem PySem.W.Fast.tw7750980358090611919 : True := trivial
theorem PySem.W.Fast.tw1659696701978867441 : True := trivial
theorem PySem.W.Fast.tw8248208130062760302 : True := trivial
theorem PySem.W.Fast.tw15609754817702016209 : True := trivial
theorem PySem.W.Fast.tw10162616005972374061 : True := trivial
theorem PySem.W.Fast.tw10704993255393048885 : True := trivial
theorem PySem.W.Fast.tw7867714735124361854 : True := trivial
theorem PySem.W.Fast.tw2981810149074887102 : True := trivial
theorem PySem.W.Fast.tw2791892116424854249 : True := trivial
theorem PySem.W.Fast.tw3692875680619768005 : True := trivial
theorem PySem.W.Fast.tw15390684084421901681 : True := trivial
theorem PySem.W.Fast.tw14654235192723456727 : True := trivial
theorem PySem.W.Fast.tw18081731733433188713 : True := trivial
theorem PySem.W.Fast.tw15655458266546412350 : True := trivial
theorem PySem.W.Fast.tw10724121503087557562 : True := trivial
theorem PySem.W.Fast.tw12662943773949126360 : True := trivial
theorem PySem.W.Fast.tw3802459741208441309 : True := trivial
theorem PySem.W.Fast.tw12481086445211941446 : True := trivial
theorem PySem.W.Fast.tw14516517197088817182 : True := trivial
theorem PySem.W.Fast.tw14093484481764231088 : True := trivial
theorem PySem.W.Fast.tw13484411863236722175 : True := trivial
theorem PySem.W.Fast.tw15961361146043444781 : True := trivial
theorem PySem.W.Fast.tw8274527607498850268 : True := trivial
theorem PySem.W.Fast.tw601647921546849450 : True := trivial
theorem PySem.W.Fast.tw17287777587985448103 : True := trivial
theorem PySem.W.Fast.tw14968570365699786325 : True := trivial
theorem PySem.W.Fast.tw9407073322911996237 : True := trivial
theorem PySem.W.Fast.tw10848274222993656703 : True := trivial
theorem PySem.W.Fast.tw16027324031403375606 : True := trivial
theorem PySem.W.Fast.tw2414372741704631722 : True := trivial
theorem PySem.W.Fast.tw9448100469801269132 : True := trivial
theorem PySem.W.Fast.tw11868519398317815820 : True := trivial
theorem PySem.W.Fast.tw12557358066568339048 : True := trivial
theorem PySem.W.Fast.tw8096188637923863062 : True := trivial
theorem PySem.W.Fast.tw7163428881053730816 : True := trivial
theorem PySem.W.Fast.tw7817934187911676672 : True := trivial
theorem PySem.W.Fast.tw3819963475339954787 : True := trivial
theorem PySem.W.Fast.tw11380821723228040710 : True := trivial
theorem PySem.W.Fast.tw8815409139088377530 : True := trivial
theorem PySem.W.Fast.tw11690596216711238784 : True := trivial
theorem PySem.W.Fast.tw12391160865810985482 : True := trivial
theorem PySem.W.Fast.tw1721953813124581598 : True := trivial
theorem PySem.W.Fast.tw11172566308044392695 : True := trivial
theorem PySem.W.Fast.tw8195109050721968803 : True := trivial
theorem PySem.W.Fast.tw6998081746645668944 : True := trivial
theorem PySem.W.Fast.tw5788161043507546163 : True := trivial
theorem PySem.W.Fast.tw2767940751807475387 : True := trivial
theorem PySem.W.Fast.tw15870803995249663343 : True := trivial
theorem PySem.W.Fast.tw16504632142358071449 : True := trivial
theorem PySem.W.Fast.tw14944600088724318629 : True := trivial
theorem PySem.W.Fast.tw12448506060651640286 : True := trivial
theorem PySem.W.Fast.tw11402961460514634008 : True := trivial
theorem PySem.W.Fast.tw17381708616470300358 : True := trivial
theorem PySem.W.Fast.tw7065414690295108374 : True := trivial
theorem PySem.W.Fast.tw14918242346555007783 : True := trivial
theorem PySem.W.Fast.tw12722182177264912745 : True := trivial
theorem PySem.W.Fast.tw2626671882349038218 : True := trivial
theorem PySem.W.Fast.tw9936474441159069014 : True := trivial
theorem PySem.W.Fast.tw14216471623656654389 : True := trivial
theorem PySem.W.Fast.tw9434811563666007218 : True := trivial
theorem PySem.W.Fast.tw3157374111818186566 : True := trivial
theorem PySem.W.Fast.tw10622726799893301086 : True := trivial
theorem PySem.W.Fast.tw2510465350260109868 : True := trivial
theorem PySem.W.Fast.tw1583312298189198608 : True := trivial
theorem PySem.W.Fast.tw5306867851151234292 : True := trivial
theorem PySem.W.Fast.tw12757744853634425021 : True := trivial
theorem PySem.W.Fast.tw10093969407509009603 : True := trivial
theorem PySem.W.Fast.tw10136207476281669889 : True := trivial
theorem PySem.W.Fast.tw6744565778664590752 : True := trivial
theorem PySem.W.Fast.tw15565978790285666749 : True := trivial
theorem PySem.W.Fast.tw13091508137964217931 : True := trivial
theorem PySem.W.Fast.tw14746464544665187801 : True := trivial
theorem PySem.W.Fast.tw18377911082519432848 : True := trivial
theorem PySem.W.Fast.tw13814019077585922248 : True := trivial
theorem PySem.W.Fast.tw3327244145372719368 : True := trivial
theorem PySem.W.Fast.tw11623292508367738879 : True := trivial
theorem PySem.W.Fast.tw5167786557930231031 : True := trivial
theorem PySem.W.Fast.tw12787472637025335397 : True := trivial
theorem PySem.W.Fast.tw13236834143083150053 : True := trivial
theorem PySem.W.Fast.tw2551479043700999044 : True := trivial
theorem PySem.W.Fast.tw10121664266186702686 : True := trivial
theorem PySem.W.Fast.tw4337488962513199167 : True := trivial
theorem PySem.W.Fast.tw14951291864287509719 : True := trivial
theorem PySem.W.Fast.tw17285220859357831358 : True := trivial
theorem PySem.W.Fast.tw14143363705730577990 : True := trivial
theorem PySem.W.Fast.tw332513648561601294 : True := trivial
theorem PySem.W.Fast.tw18270130802399546592 : True := trivial
theorem PySem.W.Fast.tw9248079642202632239 : True := trivial
theorem PySem.W.Fast.tw2672892682554711987 : True := trivial
theorem PySem.W.Fast.tw11956629859600369405 : True := trivial
theorem PySem.W.Fast.tw17405646321120868877 : True := trivial
theorem PySem.W.Fast.tw15803614053974497524 : True := trivial
theorem PySem.W.Fast.tw9667243524261696690 : True := trivial
theorem PySem.W.Fast.tw16685735057643242983 : True := trivial
theorem PySem.W.Fast.tw551050727098071636 : True := trivial
theorem PySem.W.Fast.tw4072982338377457784 : True := trivial
theorem PySem.W.Fast.tw7639777042943099631 : True := trivial
theorem PySem.W.Fast.tw17933026434629901907 : True := trivial
theorem PySem.W.Fast.tw15565083447138765263 : True := trivial
theorem PySem.W.Fast.tw7668412769978474104 : True := trivial
theorem PySem.W.Fast.tw9574027349292040766 : True := trivial
theorem PySem.W.Fast.tw5303267065780679890 : True := trivial
theorem PySem.W.Fast.tw2980452362773252622 : True := trivial
theorem PySem.W.Fast.tw12997348209656270411 : True := trivial
theorem PySem.W.Fast.tw8008179157982383510 : True := trivial
theorem PySem.W.Fast.tw9931667624113540181 : True := trivial
theorem PySem.W.Fast.tw17177818984618052669 : True := trivial
theorem PySem.W.Fast.tw4668023017008715889 : True := trivial
theorem PySem.W.Fast.tw13707964464918810081 : True := trivial
theorem PySem.W.Fast.tw12788765461935584524 : True := trivial
theorem PySem.W.Fast.tw14097236803827530902 : True := trivial
theorem PySem.W.Fast.tw1945740180108361510 : True := trivial
theorem PySem.W.Fast.tw1608111159992830720 : True := trivial
theorem PySem.W.Fast.tw16675843489770816502 : True := trivial
theorem PySem.W.Fast.tw4779029218693895808 : True := trivial
theorem PySem.W.Fast.tw750452713481745316 : True := trivial
theorem PySem.W.Fast.tw17019327788370966306 : True := trivial
theorem PySem.W.Fast.tw1773158645853403052 : True := trivial
theorem PySem.W.Fast.tw13647347082086117133 : True := trivial
theorem PySem.W.Fast.tw15483502420474225103 : True := trivial
theorem PySem.W.Fast.tw11991894215239415202 : True := trivial
theorem PySem.W.Fast.tw4512106330308983614 : True := trivial
theorem PySem.W.Fast.tw13638087230830346575 : True := trivial
theorem PySem.W.Fast.tw9372403332099895708 : True := trivial
theorem PySem.W.Fast.tw14302026384561738835 : True := trivial
theorem PySem.W.Fast.tw5142085137064914605 : True := trivial
theorem PySem.W.Fast.tw17259785183414004842 : True := trivial
theorem PySem.W.Fast.tw1569705529625736783 : True := trivial
theorem PySem.W.Fast.tw13364735776568269809 : True := trivial
theorem PySem.W.Fast.tw2708217231516580097 : True := trivial
theorem PySem.W.Fast.tw7276299450653076365 : True := trivial
theorem PySem.W.Fast.tw8268467102584256775 : True := trivial
theorem PySem.W.Fast.tw10330442100907356787 : True := trivial
theorem PySem.W.Fast.tw2903143305080276017 : True := trivial
theorem PySem.W.Fast.tw11248860815380386680 : True := trivial
theorem PySem.W.Fast.tw2267819564180380751 : True := trivial
theorem PySem.W.Fast.tw9278316771998721614 : True := trivial
theorem PySem.W.Fast.tw14992435430572838496 : True := trivial
theorem PySem.W.Fast.tw338335687926724899 : True := trivial
theorem PySem.W.Fast.tw17974453670164947233 : True := trivial
theorem PySem.W.Fast.tw2889428668478425982 : True := trivial
theorem PySem.W.Fast.tw6352484220586533036 : True := trivial
theorem PySem.W.Fast.tw12354150917954059005 : True := trivial
theorem PySem.W.Fast.tw27381187159207631 : True := trivial
theorem PySem.W.Fast.tw8864018391432732490 : True := trivial
theorem PySem.W.Fast.tw15376732852245399453 : True := trivial
theorem PySem.W.Fast.tw17591909962612449750 : True := trivial
theorem PySem.W.Fast.tw1828014468871089403 : True := trivial
theorem PySem.W.Fast.tw12175612001059177421 : True := trivial
theorem PySem.W.Fast.tw16146929049117764921 : True := trivial
theorem PySem.W.Fast.tw17576744460659899857 : True := trivial
theorem PySem.W.Fast.tw2323772610699712709 : True := trivial
theorem PySem.W.Fast.tw12446150999558442625 : True := trivial
theorem PySem.W.Fast.tw17855752030648487908 : True := trivial
theorem PySem.W.Fast.tw15952487990943684459 : True := trivial
theorem PySem.W.Fast.tw5972843172047108098 : True := trivial
theorem PySem.W.Fast.tw16435763683285454734 : True := trivial
theorem PySem.W.Fast.tw2854323960308232696 : True := trivial
theorem PySem.W.Fast.tw12626539364179395744 : True := trivial
theorem PySem.W.Fast.tw3884501951640514332 : True := trivial
theorem PySem.W.Fast.tw2842617681326686689 : True := trivial
theorem PySem.W.Fast.tw16135196921621469069 : True := trivial
theorem PySem.W.Fast.tw7252527894223627930 : True := trivial
theorem PySem.W.Fast.tw13883240801172273838 : True := trivial
theorem PySem.W.Fast.tw10449101233313762563 : True := trivial
theorem PySem.W.Fast.tw116621467359252278 : True := trivial
theorem PySem.W.Fast.tw9469962093476385285 : True := trivial
theorem PySem.W.Fast.tw16156492085530586079 : True := trivial
theorem PySem.W.Fast.tw6925711697707043594 : True := trivial
theorem PySem.W.Fast.tw1159508479330895863 : True := trivial
theorem PySem.W.Fast.tw5787791237135345118 : True := trivial
theorem PySem.W.Fast.tw7412979586734204366 : True := trivial
theorem PySem.W.Fast.tw17037145017590957960 : True := trivial
theorem PySem.W.Fast.tw14849757189912968765 : True := trivial
theorem PySem.W.Fast.tw9283073221129393625 : True := trivial
theorem PySem.W.Fast.tw4234560796893817498 : True := trivial
theorem PySem.W.Fast.tw10545334660583123937 : True := trivial
theorem PySem.W.Fast.tw14687792471379804351 : True := trivial
theorem PySem.W.Fast.tw9910110595645228918 : True := trivial
theorem PySem.W.Fast.tw2042421105800040071 : True := trivial
theorem PySem.W.Fast.tw5378221486935418607 : True := trivial
theorem PySem.W.Fast.tw13509468450312151748 : True := trivial
theorem PySem.W.Fast.tw2272230475761548433 : True := trivial
theorem PySem.W.Fast.tw8499195379863616842 : True := trivial
theorem PySem.W.Fast.tw3046884942960884962 : True := trivial
theorem PySem.W.Fast.tw1379978579827120120 : True := trivial
theorem PySem.W.Fast.tw1773669191835310968 : True := trivial
theorem PySem.W.Fast.tw10696770300785210561 : True := trivial
theorem PySem.W.Fast.tw16103164534207741405 : True := trivial
theorem PySem.W.Fast.tw15672746268806711451 : True := trivial
theorem PySem.W.Fast.tw2480759499266592781 : True := trivial
theorem PySem.W.Fast.tw17358957379765974049 : True := trivial
theorem PySem.W.Fast.tw2346586444995600030 : True := trivial
theorem PySem.W.Fast.tw10347508772379657656 : True := trivial
theorem PySem.W.Fast.tw12156530420841677200 : True := trivial
theorem PySem.W.Fast.tw7654710118169157295 : True := trivial
theorem PySem.W.Fast.tw18263711075495904750 : True := trivial
theorem PySem.W.Fast.tw13169090984325735388 : True := trivial
theorem PySem.W.Fast.tw7891238572178800506 : True := trivial
theorem PySem.W.Fast.tw16571847510008477196 : True := trivial
theorem PySem.W.Fast.tw6839085619561637636 : True := trivial
theorem PySem.W.Fast.tw7037344318576292102 : True := trivial
theorem PySem.W.Fast.tw9591221995615693610 : True := trivial
theorem PySem.W.Fast.tw14143369813255193224 : True := trivial
theorem PySem.W.Fast.tw6890895180565994099 : True := trivial
theorem PySem.W.Fast.tw14458158984498947989 : True := trivial
theorem PySem.W.Fast.tw6925940222385191477 : True := trivial
theorem PySem.W.Fast.tw3051432711948406001 : True := trivial
theorem PySem.W.Fast.tw5550401582955009534 : True := trivial
theorem PySem.W.Fast.tw5024307582418535906 : True := trivial
theorem PySem.W.Fast.tw9250156271726404671 : True := trivial
theorem PySem.W.Fast.tw5169900104542815904 : True := trivial
theorem PySem.W.Fast.tw15939323274895033829 : True := trivial
theorem PySem.W.Fast.tw13032357081918552973 : True := trivial
theorem PySem.W.Fast.tw17807987780214314458 : True := trivial
theorem PySem.W.Fast.tw8222315053589319133 : True := trivial
theorem PySem.W.Fast.tw4332086222131884131 : True := trivial
theorem PySem.W.Fast.tw14735840896345885214 : True := trivial
theorem PySem.W.Fast.tw4718233389657701522 : True := trivial
theorem PySem.W.Fast.tw1515128316545900895 : True := trivial
theorem PySem.W.Fast.tw9490552263825555635 : True := trivial
theorem PySem.W.Fast.tw4802028819265990687 : True := trivial
theorem PySem.W.Fast.tw14667944063024465624 : True := trivial
theorem PySem.W.Fast.tw17434572447475831531 : True := trivial
theorem PySem.W.Fast.tw5845295778727838222 : True := trivial
theorem PySem.W.Fast.tw17876345534277202197 : True := trivial
theorem PySem.W.Fast.tw17233142157793274119 : True := trivial
theorem PySem.W.Fast.tw12341487345930558833 : True := trivial
theorem PySem.W.Fast.tw9725930875848294022 : True := trivial
theorem PySem.W.Fast.tw18054147990390455846 : True := trivial
theorem PySem.W.Fast.tw10944508506324481903 : True := trivial
theorem PySem.W.Fast.tw6786717756781594966 : True := trivial
theorem PySem.W.Fast.tw7553603309641513021 : True := trivial
theorem PySem.W.Fast.tw11051161774437962214 : True := trivial
theorem PySem.W.Fast.tw16459593300610876898 : True := trivial
theorem PySem.W.Fast.tw6042925693310181957 : True := trivial
theorem PySem.W.Fast.tw4745465534693824538 : True := trivial
theorem PySem.W.Fast.tw16975042402011031837 : True := trivial
theorem PySem.W.Fast.tw13893807072854079728 : True := trivial
theorem PySem.W.Fast.tw1167236008217965881 : True := trivial
theorem PySem.W.Fast.tw407444724370887537 : True := trivial
theorem PySem.W.Fast.tw3677909513168613144 : True := trivial
theorem PySem.W.Fast.tw7788014346031045320 : True := trivial
theorem PySem.W.Fast.tw13835487214029918951 : True := trivial
theorem PySem.W.Fast.tw5569473184619284714 : True := trivial
theorem PySem.W.Fast.tw16787045217705016007 : True := trivial
theorem PySem.W.Fast.tw9772989290521547775 : True := trivial
theorem PySem.W.Fast.tw432660766261049303 : True := trivial
theorem PySem.W.Fast.tw13351572980716071041 : True := trivial
theorem PySem.W.Fast.tw18175901631285738437 : True := trivial
theorem PySem.W.Fast.tw1457296228765373108 : True := trivial
theorem PySem.W.Fast.tw2048376024870392926 : True := trivial
theorem PySem.W.Fast.tw15615682353692041691 : True := trivial
theorem PySem.W.Fast.tw2120913091764750890 : True := trivial
theorem PySem.W.Fast.tw18323320104679460341 : True := trivial
theorem PySem.W.Fast.tw15874299741306087958 : True := trivial
theorem PySem.W.Fast.tw13840583524517202182 : True := trivial
theorem PySem.W.Fast.tw12716861454574506695 : True := trivial
theorem PySem.W.Fast.tw11875130547475650150 : True := trivial
theorem PySem.W.Fast.tw9399150428550461036 : True := trivial
theorem PySem.W.Fast.tw11803841445848538676 : True := trivial
theorem PySem.W.Fast.tw6494801380146247146 : True := trivial
theorem PySem.W.Fast.tw5373568103495944703 : True := trivial
theorem PySem.W.Fast.tw2706889959526217744 : True := trivial
theorem PySem.W.Fast.tw11030810282859040379 : True := trivial
theorem PySem.W.Fast.tw7393178380225520766 : True := trivial
theorem PySem.W.Fast.tw7726500504621054517 : True := trivial
theorem PySem.W.Fast.tw6503402647670635506 : True := trivial
theorem PySem.W.Fast.tw12201546790466938960 : True := trivial
theorem PySem.W.Fast.tw960904036575667093 : True := trivial
theorem PySem.W.Fast.tw6256960850369666575 : True := trivial
theorem PySem.W.Fast.tw14910355440661013388 : True := trivial
theorem PySem.W.Fast.tw13063805095092371402 : True := trivial
theorem PySem.W.Fast.tw12150507358460271 : True := trivial
theorem PySem.W.Fast.tw11996988909327948475 : True := trivial
theorem PySem.W.Fast.tw12082683777013400812 : True := trivial
theorem PySem.W.Fast.tw4130333939337791339 : True := trivial
theorem PySem.W.Fast.tw11025659673804974870 : True := trivial
theorem PySem.W.Fast.tw9230143353589270262 : True := trivial
theorem PySem.W.Fast.tw9040303007833505620 : True := trivial
set_option maxHeartbeats 0 in
open_top hd84 for PySem.Challenge.rw_twoglass_k84_refused_as_the_glass_is
end
local macro_rules|`(tactic|omega)=>`(tactic|first|lia|omega (config:={}))
open List renaming filterMap_cons→Nh,mem_cons_self→Ni,mem_cons_of_mem→Nj,mem_append_left→Nk,getElem?_set_self→Nn,getElem?_set_ne→Np,mem_append_right→Nu,size_toArray→Nv,length_cons→Nw,map_cons→Nx,length_map→Ny,append_nil→ND,of_mem_zip→NF,length_take→NI,getElem?_append_right→NK,getElem?_replicate→NM,getElem?_append_left→NN,getElem?_map→NP,mem_of_getElem?→NQ,length_append→NR,length_drop→NT,length_singleton→NW,map_nil→NX,find?_cons→NY,any_cons→NZ,length_nil→N0,lookup_cons→N3,forIn_cons→N4,cons_append→N6,take_zero→N7,take_succ_cons→N8,drop_zero→N9,drop_succ_cons→Oa,all_cons→Oc,range_succ_eq_map→Od,getElem?_eq_getElem→Oe,getElem_of_mem→Oj,nil_append→Ol,map_congr_left→Om,map_append→Oo,length_range→Oq,getElem?_range→Ou,drop_eq_getElem_cons→Ov,append_assoc→Ow,drop_length→Ox,mem_cons→Oz,not_mem_nil→OA,getElem?_cons_zero→OB,getElem?_cons_succ→OC,zip_cons_cons→OJ,contains_cons→OL,nodup_append→OO,replicate_zero→OS,any_map→OT,zip_nil_right→OU,map_map→OW,mem_singleton→OY,foldl_nil→OZ,foldl_cons→O0,nodup_nil→O2,find?_cons_of_pos→O3,find?_cons_of_neg→O5,getElem?_eq_none→O6,getD_eq_getElem?_getD→O8,take_of_length_le→O9,set_cons_zero→Pa,set_cons_succ→Pb,mem_nil_iff→Pj,any_nil→Pk
open Int renaming toNat_natCast→NS,emod_nonneg→Ph
open Nat renaming lt_of_lt_of_le→M9,lt_irrefl→Nb,ne_of_lt→Nc,le_trans→Nf,le_of_lt→Ng,ne_of_gt→Nr,le_refl→Nt,le_of_eq→Nz,lt_succ_self→NB,zero_le→NC,le_succ→NE,lt_trans→N2,min_self→Of,sub_zero→Ot,le_add_right→OD,add_lt_add_left→OG,lt_add_of_pos_right→OH,zero_add→OI,sub_self→OQ,lt_or_ge→O7
open Bool renaming false_ne_true→Nq,and_eq_true→NU,false_eq_true→N5,and_true→Og,and_false→Oh,or_eq_true→Oi,or_eq_false_iff→OM,not_true→OV,not_eq_true'→OX,not_false→Pg
open Option renaming getD_none→NV,isSome_map→N1,getD_some→Oy
open PySem renaming Value→QM,NameKind→QN,Addr→QO,Expr→QP,Stmt→QQ,Shared→QR,World→QS,Program→QT,Paired→QU,Heap→QV,sizeLine→QW,mainGlobals→QX,bootBuiltins→QY,Around→QZ,Scope→Ra,Model→Rb,wpAny→Rc,starEach→Rf,wpAny_mono→Rg,CmpOp→Ri,compareOp→Rj,behindInMarks→Rk,wpAny_truthy_bool→Rl,wpAny_execs_nil→Rm,PassesOwn→Rn,wpAny_passesOwn→Ro,wpAny_pure→Rp,wpAny_bind→Rq,wpAny_pyIter_list→Rr,foldedSetIterable→Rt,binaryOp→Ru,sizeLine_eq→Rv,wpAny_loadPart→Rw,wpAny_lookBehind→Rx,pastItsLine_dict→Ry,Result→Rz,codeAny→RB,attributeBase→RC,plainObj_wpAny_Assign_Attribute→RD,callWith→RE,keywordEach→RF,cLine→RG,FuncData→RH,BindsTo→RJ,wpAny_call→RK,codeAny_mono→RL,wpAny_Call_Name_kw→RM,concat_meets→RN,noFill_tuple_add→RO,seq_tuple_add→RP,IsPart→RQ,wpAny_field→RT,wpAny_holding→RU,wpAny_callSpecial?_slot→RV,wpAny_call_entry→RW,wpAny_typeOf→RX,wpAny_newObj_type→RY,Keyword→RZ,tupleKind_room_in1→R0,wpAny_standAt→R1,wpAny_comprehension_free→R3,wpAny_rule→R4,wpAny_getItem_str_slice→R5,post_val_or_str→R6,wpAny_seqItems→R7,IsZip→R8,IsPair→R9,wpAny_setField_rec→Sa,wpAny_onRaise→Sb,wpAny_updateSeq_pair→Sd,wpAny_attempt→Se,codeAny_call_builtin→Sf,codeAny_builtin→Si,plainId_quiet→Sl,ExcBaseFacts→Sn,wpAny_loadPart_at→Sq
open PySem.W renaming instObj→Pl,methodObj→Pm,Frag→Pn,lookIn→Pp,plainGet→Pq,hasDictIn→Pr,findIn→Pt,handedIn→Pu,plainGet_of→Pw,isFn→Px,plainOver→Py,takerIn→Pz,any_some→PB,makesIn→PD,typeIn→PF,InitBack→PH,emptyDict→PJ,make_core→PK,makes_of→PL,looks_findIn→PN,Looks→PP,keepIn→PQ,callWith_K→PR,cellsFrom_some→PV,fnOf→PX,codeIn→PY,OpenLaw→PZ,nsIn→P0,notCls→P4,kitOne→P5,kia_one→P6,clsIn→P7,instIn→P8,subIn→P9,specialIn→Qa,takesIn→Qb,mroIn→Qc,isIn→Qd,excIn→Qe,isNs_of_in→Qf,tail_of_in→Qg,exmOne→Qh,kitCls→Qi,kitAny→Qj,callWith_K0→Qk,mg_of→Ql,any_some→Sg,looks_findIn→Sh,Looks→Sj
open PySem.Heap renaming lt_size→Qm,get?_none_of_le→Qn,SameBut→Qo,get?_push_of_some→Qp,get?_push_size→Qq,size_push→Qr,FlyingW→Qs,get?_update_self→Qt,get?_update_ne→Qu,get?_push_at→Qv,MadeExcOf→Qw
open PyProof.Rows renaming callWith_type1→Qx,slot_tuple_getitem→Qy,envOfC→Qz,IsTup→QA,Call_→QB,boot_tuple→QC,boot_dict→QD,Constant_none→Rh
open PySem.F renaming slot_tuple_add→QE,entry_tuple_add→QF,args_tuple_add_2→QG,slot_dict_get→QH,entry_dict_get→QI,args_dict_get_3→QJ,slot_list_index→QK,excBase_ValueError→QL
set_option maxHeartbeats 1000000
local macro_rules | `(‹2›)=>`(⟨rfl, rfl, rfl, by decide +kernel, rfl, by decide +kernel, by decide +kernel⟩)
local macro_rules | `(‹0›)=>`(by omega)
namespace L2
open PySem PySem.Spec PyProof.Rows
noncomputable abbrev eD:=List (Option Nat)
noncomputable abbrev bF:=Str->Option QM
noncomputable abbrev n8:=List (Str×QN)
noncomputable abbrev aM:=List (QO×Obj)
noncomputable abbrev kR:=List (Str×QO)
noncomputable abbrev aR:=List QP
noncomputable abbrev cF:=List QQ
noncomputable abbrev aS:=List QM
noncomputable abbrev gZ:=Option QM
noncomputable abbrev aD:=List QO
noncomputable abbrev jl:=List (Str×Bool)
noncomputable abbrev cA:=Option Int
noncomputable abbrev aW:=QM->QR->Prop
noncomputable abbrev eI:=QR->Prop
noncomputable abbrev av:=List Str
noncomputable abbrev Key:=Sum Int Str
noncomputable def pA:Key->QM->Bool
 |.inl k,v=>Value.isInt k v
 |.inr x,v=>Value.isStrOf x v
noncomputable def K6(w:QS):Key->Int
 |.inl k=>hashInt k
 |.inr x=>hashStr w x
theorem b9:∀{k:Key}{v:QM},pA k v=true->(∃i t,k=Sum.inl i/\v=Value.int i t)\/(∃x t,k=Sum.inr x/\v=Value.str x t)
 |.inl i,v,h=>by
  obtain⟨t,e⟩:=Value.isInt_shape (k:=i) (v:=v) h;exact .inl ⟨i,t,rfl,e⟩
 |.inr x,v,h=>by
  obtain⟨t,e⟩:=Value.isStrOf_shape (x:=x) (v:=v) h;exact .inr ⟨x,t,rfl,e⟩
theorem wY(i:Int)(t:Tok):pA (.inl i) (.int i t)=true:=by simp[pA,Value.isInt]
theorem wR(x:Str)(t:Tok):pA (.inr x) (.str x t)=true:=by simp[pA,Value.isStrOf]
theorem Fy(a b:Int):decide ((Sum.inl a:Key)=Sum.inl b)=(a==b):=by
 by_cases e:a=b
 ·subst e;simp
 ·have h:¬(Sum.inl a:Key)=Sum.inl b:=λq=>e (Sum.inl.inj q);rw[decide_eq_false h];exact(beq_eq_false_iff_ne.mpr e).symm
theorem Fc(a b:Str):decide ((Sum.inr a:Key)=Sum.inr b)=decide (a=b):=by
 by_cases e:a=b
 ·subst e;simp
 ·have h:¬(Sum.inr a:Key)=Sum.inr b:=λq=>e (Sum.inr.inj q);rw[decide_eq_false h,decide_eq_false e]
theorem GK(a:Int)(b:Str):decide ((Sum.inl a:Key)=Sum.inr b)=false:=decide_eq_false (λq=>nomatch q)
theorem Fi(a:Str)(b:Int):decide ((Sum.inr a:Key)=Sum.inl b)=false:=decide_eq_false (λq=>nomatch q)
noncomputable def bI(prog:QT)(w:QS):PySem.KeyKind prog w Key where
 is:=pA
 hash:=K6 w
 inj:=λv a b ha hb=>by
  rcases b9 ha with⟨i,t,rfl,rfl⟩|⟨x,t,rfl,rfl⟩
  ·rcases b9 hb with⟨j,u,rfl,e⟩|⟨y,u,rfl,e⟩
   ·injection e with e1 _;rw[e1]
   ·exact nomatch e
  ·rcases b9 hb with⟨j,u,rfl,e⟩|⟨y,u,rfl,e⟩
   ·exact nomatch e
   ·injection e with e1 _;rw[e1]
 byValue:=λk v h=>by
  rcases b9 h with⟨i,t,rfl,rfl⟩|⟨x,t,rfl,rfl⟩<;>rfl
 pyHash:=λhv h=>by
  rcases b9 hv with⟨i,t,rfl,rfl⟩|⟨x,t,rfl,rfl⟩
  ·exact wpAny_pyHash_int h
  ·exact wpAny_pyHash_str h
 eqBool:=λhu hv h=>by
  rcases b9 hu with⟨i,t,rfl,rfl⟩|⟨x,t,rfl,rfl⟩
  ·rcases b9 hv with⟨j,u,rfl,rfl⟩|⟨y,u,rfl,rfl⟩
   ·rw[Fy]at h;exact wpAny_eqBool_int h
   ·rw[GK]at h;exact SeqAt.EqAt.int_str i t y u _ _ _ _ h
  ·rcases b9 hv with⟨j,u,rfl,rfl⟩|⟨y,u,rfl,rfl⟩
   ·rw[Fi]at h;exact SeqAt.EqAt.str_int x t j u _ _ _ _ h
   ·rw[Fc]at h;exact wpAny_eqBool_str h
 «strs»:=λk x t v h=>by
  rcases b9 h with⟨i,u,rfl,e⟩|⟨y,u,rfl,e⟩
  ·exact nomatch e
  ·injection e with e1 _;subst e1;cases v<;>rfl
theorem tR(prog:QT)(w:QS)(i:Int)(t:Tok):(bI prog w).is (.inl i) (.int i t)=true:=wY i t
theorem sK(prog:QT)(w:QS)(x:Str)(t:Tok):(bI prog w).is (.inr x) (.str x t)=true:=wR x t
inductive V where
 |non|bl (b:Bool)|int (i:Int)|str (x:Str)|byt (b:Array UInt8)|flt (b:UInt64)|ref (a:QO)|ty (n:String)
 deriving DecidableEq
noncomputable abbrev aH:=List V
noncomputable def RelV:V->QM->Prop
 |.non,u=>u=Value.none
 |.bl b,u=>u=Value.bool b
 |.int i,u=>∃t,u=Value.int i t
 |.str x,u=>∃t,u=Value.str x t
 |.byt b,u=>∃t,u=Value.bytes b t
 |.flt b,u=>∃t,u=Value.float b t
 |.ref a,u=>u=Value.ref a
 |.ty n,u=>u=Value.type n
noncomputable abbrev Vals:aH->aS->Prop:=QU RelV
theorem Vals.length{xs:aH}{us:aS}(r:Vals xs us):xs.length=us.length:=Paired.length r
theorem Vals.get:∀{xs:aH}{us:aS}{i:Nat}{x:V},Vals xs us->xs[i]?=some x->∃u,us[i]?=some u/\RelV x u
 |_,_,_,_,.nil,e=>by simp at e
 |_,_,0,_,.cons r _,e=>by simp at e;subst e;exact⟨_,rfl,r⟩
 |_,_,i+1,x,.cons _ t,e=>by
  obtain⟨u,h1,h2⟩:=Vals.get (i:=i) (x:=x) t (by simpa using e);exact⟨u,by simpa using h1,h2⟩
theorem Vals.append:∀{xs ys:aH}{us ws:aS},Vals xs us->Vals ys ws->Vals (xs++ys) (us++ws)
 |_,_,_,_,.nil,s=>s
 |_,_,_,_,.cons r t,s=>.cons r (Vals.append t s)
theorem Vals.take:∀{xs:aH}{us:aS}(n:Nat),Vals xs us->Vals (xs.take n) (us.take n)
 |_,_,0,_=>.nil
 |_,_,_+1,.nil=>.nil
 |_,_,n+1,.cons r t=>.cons r (Vals.take n t)
theorem Vals.drop:∀{xs:aH}{us:aS}(n:Nat),Vals xs us->Vals (xs.drop n) (us.drop n)
 |_,_,0,r=>r
 |_,_,_+1,.nil=>.nil
 |_,_,n+1,.cons _ t=>Vals.drop n t
noncomputable def lO:Option V->gZ->Prop
 |some v,some u=>RelV v u
 |none,none=>True
 |_,_=>False
noncomputable def KV{κ:Type}:List (κ×V)->List (κ×QM)->Prop:=QU λ(p:κ×V)(q:κ×QM)=>p.1=q.1/\RelV p.2 q.2
noncomputable def kV:Key->V
 |.inl i=>.int i
 |.inr x=>.str x
inductive HO where
  |lst (xs:aH)
  |tup (xs:aH)
  |dK (kvs:List (Key×V))|dT (kvs:List (List Key×V))
  |set (S:Int->Bool) (n:Nat)
  |ins (C dx:QO) (fs:List (Str×V))
  |own (x:QO)
  |xd (fs:List (Str×V))
  |met (f x:QO)
  |rng (lo hi:Int)
  |frz (o:Obj) (u:HO)
  |tbl (ps:Array QM)
  |ext (φ:(QO->Prop)->QV->Prop)
noncomputable abbrev Hp:=QO->Option HO
noncomputable def upd(H:Hp)(a:QO)(o:HO):Hp:=λb=>if b=a then some o else H b
theorem aq{H:Hp}{a:QO}{o:HO}:upd H a o a=some o:=by unfold upd;rw[if_pos rfl]
theorem ak{H:Hp}{a b:QO}{o:HO}(h:b≠a):upd H a o b=H b:=by unfold upd;rw[if_neg h]
theorem jX{H:Hp}{a:QO}{o u:HO}:upd (upd H a o) a u=upd H a u:=by
 funext b;unfold upd;split<;>rfl
theorem aK{H:Hp}{a b:QO}{o:HO}(h:H a=some o)(h':H b=none):a≠b:=by
 intro e;subst e;rw[h]at h';cases h'
section
variable(P:QT)(w:QS)
noncomputable def bM(H:Hp)(h:QV)(a:QO):HO->Prop
 |.lst xs=>xs.length<=QW/\∃(its:aS)(n:Nat),Vals xs its/\h.get? a=some {cls:=.type "list",data:=.seq its.toArray n}
 |.tup xs=>xs.length<=QW/\∃its:aS,Vals xs its/\IsTup h a its.toArray
 |.dK kvs=>kvs.length<=QW/\(a==sysModules)=false/\∃vs,KV kvs vs/\h.DictOf (bI P w) a vs
 |.dT kvs=>kvs.length<=QW/\(a==sysModules)=false/\∃xs:List (List Key×QO×QM),
   QU (λ(p:List Key×V)(q:List Key×QO×QM)=>p.1=q.1/\H q.2.1=some (.tup (p.1.map kV))/\RelV p.2 q.2.2) kvs xs/\
   ∃o es ep,h.get? a=some o/\o.ExactDict/\o.data=.dict es ep/\es.toList=xs.map (entryOfKey (tupleKind (bI P w)))/\(xs.map (·.1)).Nodup
 |.set S n=>h.SetOf (intKind P w) a S n
 |.ins C dx fs=>H dx=some (.own a)/\fs.length<=1000/\dx≠a/\h.get? a=some (Pl C dx)/\
   ∃mA,h.Ns1 dx mA/\(∀f,lO (fs.lookup f) (mA f))/\PySem.Within mA (fs.map (·.1))
 |.own _=>∃o,h.get? a=some o
 |.xd fs=>∃mA,h.Ns1 a mA/\∀f,lO (fs.lookup f) (mA f)
 |.rng lo hi=>∃t u v,h.get? a=some {cls:=.type "range",data:=.fields #[.int lo t,.int hi u,.int 1 v]}
 |.frz o u=>h.get? a=some o/\bM H h a u
 |.tbl ps=>h.get? a=some {cls:=.none,data:=.fields ps}
 |.met f x=>h.get? a=some (Pm (.ref f) (.ref x))
 |.ext φ=>φ (λb=>H b=some (.own a)) h/\(∃o,h.get? a=some o)/\∀(S1 S2:QO->Prop)(h1 h2:QV),φ S1 h1->(∀b,S1 b->S2 b)->(∀b o,(b=a\/S1 b)->h1.get? b=some o->h2.get? b=some o)->φ S2 h2
noncomputable def lH(H:Hp)(h:QV):Prop:=∀a o,H a=some o->bM P w H h a o
end
section
variable{P:QT}{w:QS}{H H':Hp}{h h':QV}{a:QO}{o:HO}
theorem bM.lt(x:bM P w H h a o):a<h.objs.size:=by
 cases o with
 |lst xs=>obtain⟨_,_,_,_,e⟩:=x;exact Qm e
 |tup xs=>obtain⟨_,_,_,p⟩:=x;exact p.lt
 |dK kvs=>obtain⟨_,_,_,_,o,_,_,e,_⟩:=x;exact Qm e
 |dT kvs=>obtain⟨_,_,_,_,o,_,_,e,_⟩:=x;exact Qm e
 |set S n=>obtain⟨o,_,_,_,e,_⟩:=x;exact Qm e
 |ins C dx fs=>obtain⟨_,_,_,e,_⟩:=x;exact Qm e
 |own y=>obtain⟨_,e⟩:=x;exact Qm e
 |xd fs=>obtain⟨_,⟨_,_,_,e,_⟩,_⟩:=x;exact Qm e
 |rng lo hi=>obtain⟨_,_,_,e⟩:=x;exact Qm e
 |frz ob u=>obtain⟨e,_⟩:=x;exact Qm e
 |tbl ps=>exact Qm (show h.get? a=some _ from x)
 |met f y=>exact Qm (show h.get? a=some _ from x)
 |ext φ=>obtain⟨_,⟨_,e⟩,_⟩:=x;exact Qm e
theorem Paired.mapP{α β:Type}{F G:α->β->Prop}:∀{l₁:List α}{l₂:List β},QU F l₁ l₂->(∀a b,F a b->G a b)->QU G l₁ l₂
 |_,_,.nil,_=>.nil
 |_,_,.cons r t,f=>.cons (f _ _ r) (Paired.mapP t f)
theorem bM.stay(x:bM P w H h a o)(k:∀b u,(b=a\/H b=some (.own a))->h.get? b=some u->h'.get? b=some u)
  (ho:∀b,H b=some (.own a)->H' b=some (.own a)) (ht:∀b xs,H b=some (.tup xs)->H' b=some (.tup xs)):bM P w H' h' a o:=by
 induction o with
 |lst xs=>obtain⟨z,its,n,r,e⟩:=x;exact⟨z,its,n,r,k _ _ (.inl rfl) e⟩
 |tup xs=>obtain⟨z,its,r,ob,e,c⟩:=x;exact⟨z,its,r,ob,k _ _ (.inl rfl) e,c⟩
 |dK kvs=>obtain⟨z,y,vs,r,ob,es,ep,e,c⟩:=x;exact⟨z,y,vs,r,ob,es,ep,k _ _ (.inl rfl) e,c⟩
 |dT kvs=>
  obtain⟨z,y,xs,r,ob,es,ep,e,c⟩:=x;exact⟨z,y,xs,Paired.mapP r λp q z=>⟨z.1,ht _ _ z.2.1,z.2.2⟩,ob,es,ep,k _ _ (.inl rfl) e,c⟩
 |set S n=>obtain⟨ob,es,ep,t,e,c⟩:=x;exact⟨ob,es,ep,t,k _ _ (.inl rfl) e,c⟩
 |ins C dx fs=>
  obtain⟨d,z,ne,e,mA,⟨od,es,ep,e2,c⟩,r⟩:=x;exact⟨ho _ d,z,ne,k _ _ (.inl rfl) e,mA,⟨od,es,ep,k _ _ (.inr d) e2,c⟩,r⟩
 |own y=>obtain⟨ob,e⟩:=x;exact⟨ob,k _ _ (.inl rfl) e⟩
 |xd fs=>obtain⟨mA,⟨od,es,ep,e,c⟩,r⟩:=x;exact⟨mA,⟨od,es,ep,k _ _ (.inl rfl) e,c⟩,r⟩
 |rng lo hi=>obtain⟨t,u,v,e⟩:=x;exact⟨t,u,v,k _ _ (.inl rfl) e⟩
 |frz ob u ih=>obtain⟨e,q⟩:=x;exact⟨k _ _ (.inl rfl) e,ih q⟩
 |tbl ps=>
  have e:h.get? a=some {cls:=.none,data:=.fields ps}:=x;show h'.get? a=some {cls:=.none,data:=.fields ps};exact k a _ (.inl rfl) e
 |met f y=>
  have e:h.get? a=some (Pm (.ref f) (.ref y)):=x;show h'.get? a=some (Pm (.ref f) (.ref y));exact k a _ (.inl rfl) e
 |ext φ=>obtain⟨p,⟨o,e⟩,st⟩:=x;exact⟨st _ _ _ _ p ho k,⟨o,k _ _ (.inl rfl) e⟩,st⟩
theorem lH.lt(x:lH P w H h)(e:H a=some o):a<h.objs.size:=(x a o e).lt
theorem lH.fresh(x:lH P w H h)(e:h.objs.size<=a):H a=none:=by
 cases q:H a with
 |none=>rfl
 |some u=>exact absurd (M9 (x.lt q) e) (Nb _)
theorem lH.kept(x:lH P w H h)(k:∀b u,h.get? b=some u->h'.get? b=some u):lH P w H h':=λa o e=>
 (x a o e).stay (λb u _ q=>k b u q) (λ_ q=>q) λ_ _ q=>q
theorem lH.laid(x:lH P w H h)(k:∀b u,h.get? b=some u->h'.get? b=some u)(hp:h.objs.size<=a)(new:bM P w (upd H a o) h' a o):lH P w (upd H a o) h':=λb u e=>by
 have hn:=x.fresh hp;by_cases hb:b=a
 ·subst hb;rw[aq]at e;cases e;exact new
 ·rw[ak hb]at e;exact(x b u e).stay (λc v _ q=>k c v q) (λc q=>by rw[ak (aK q hn)];exact q) λc xs q=>by rw[ak (aK q hn)];exact q
end
noncomputable def Rd(H:Hp)(a:QO)(u:HO):Prop:=H a=some u\/∃o,H a=some (.frz o u)
theorem Rd.ok{P:QT}{w:QS}{H:Hp}{h:QV}{a:QO}{u:HO}(r:Rd H a u)(x:lH P w H h):bM P w H h a u:=by
 rcases r with r|⟨o,r⟩
 ·exact x a u r
 ·obtain⟨_,q⟩:=x a _ r;exact q
noncomputable def Hv:Option HO->Prop
 |some (.lst _)=>True
 |some (.dK _)=>True
 |some (.dT _)=>True
 |some (.set _ _)=>True
 |some (.ins _ _ _)=>True
 |some (.ext _)=>True
 |_=>False
section
variable{P:QT}{w:QS}{H:Hp}{h h':QV}{x e:QO}{o':HO}
theorem lH.write(ok:lH P w H h)(mu:Hv (H x))(he:e=x\/H e=some (.own x))(k:∀b u,b≠e->h.get? b=some u->h'.get? b=some u)(heo:∃u,h'.get? e=some u)
  (new:bM P w (upd H x o') h' x o'):lH P w (upd H x o') h':=λb u q=>by
 have nown:∀c y,H c=some (.own y)->c≠x:=λc y r z=>by subst z;rw[r]at mu;exact mu
 have ntup:∀c xs,H c=some (.tup xs)->c≠x:=λc xs r z=>by subst z;rw[r]at mu;exact mu
 by_cases hb:b=x
 ·subst hb;rw[aq]at q;cases q;exact new
 ·rw[ak hb]at q;by_cases hbe:b=e
  ·have q':H b=some (.own x):=by
    rcases he with z|z
    ·exact absurd (hbe.trans z) hb
    ·rw[hbe];exact z
   rw[q]at q';cases q';obtain⟨v,hv⟩:=heo;exact⟨v,by rw[hbe];exact hv⟩
  ·refine(ok b u q).stay (λc v hc r=>k c v ?_ r) (λc r=>by rw[ak (nown c b r)];exact r) λc xs r=>by rw[ak (ntup c xs r)];exact r
   rcases hc with rfl|hc
   ·exact hbe
   ·rintro rfl;rcases he with z|z
    ·exact nown c b hc z
    ·rw[hc]at z;cases z;exact hb rfl
end
structure Un(fs ex:aD)(H H':Hp)(h h':QV):Prop where
 keep:∀b o,h.get? b=some o->H b=none->b∉fs->b∉ex->h'.get? b=some o
 slot:∀b o,h.get? b=some o->H b=none->b∈fs->b∉ex->∃sl,h'.get? b=some {o with slots:=sl}
 free:∀b o,h.get? b=some o->H b=none->b∉ex->H' b=none
 there:∀b o,h.get? b=some o->b∉ex->∃o',h'.get? b=some o'
 tups:∀b xs,H b=some (.tup xs)->H' b=some (.tup xs)
 frzs:∀b o u,H b=some (.frz o u)->H' b=some (.frz o u)
 tbls:∀b ps,H b=some (.tbl ps)->∃more,H' b=some (.tbl (ps++more))
section
variable{fs fs' ex ex':aD}{H H1 H2:Hp}{h h1 h2 h':QV}{a x e:QO}{o:HO}
theorem Un.any(u:Un fs ex H H1 h h1){b:QO}{ob:Obj}(q:h.get? b=some ob)(n:H b=none)(hx:b∉ex):∃sl,h1.get? b=some {ob with slots:=sl}:=by
 by_cases hb:b∈fs
 ·exact u.slot b ob q n hb hx
 ·exact⟨ob.slots,u.keep b ob q n hb hx⟩
theorem Un.kept(k:∀b u,h.get? b=some u->h'.get? b=some u):Un fs ex H H h h':=
 ⟨λb ob q _ _ _=>k b ob q,λb ob q _ _ _=>⟨ob.slots,k b ob q⟩,λ_ _ _ n _=>n,λb ob q _=>⟨ob,k b ob q⟩,λ_ _ q=>q,λ_ _ _ q=>q,λ_ ps q=>⟨#[],by rw[q];simp⟩⟩
theorem Un.refl:Un fs ex H H h h:=Un.kept λ_ _ q=>q
theorem Un.laid(k:∀b u,h.get? b=some u->h'.get? b=some u)(hp:h.objs.size<=a)(hn:H a=none):Un fs ex H (upd H a o) h h' where
 keep:=λb u q _ _ _=>k b u q
 slot:=λb u q _ _ _=>⟨u.slots,k b u q⟩
 free:=λb u q n _=>by rw[ak (Nc (M9 (Qm q) hp))];exact n
 there:=λb u q _=>⟨u,k b u q⟩
 tups:=λb xs q=>by rw[ak (aK q hn)];exact q
 frzs:=λb u xs q=>by rw[ak (aK q hn)];exact q
 tbls:=λb ps q=>⟨#[],by rw[ak (aK q hn),q];simp⟩
theorem Un.write(mu:Hv (H x))(he:e=x\/H e=some (.own x))(k:∀b u,b≠e->h.get? b=some u->h'.get? b=some u)(heo:∃u,h'.get? e=some u):Un fs ex H (upd H x o) h h':=by
 have hx:∀b,H b=none->b≠x:=λb n z=>by subst z;rw[n]at mu;exact mu
 have hb:∀b,H b=none->b≠e:=λb n z=>by
  subst z;rcases he with r|r
  ·exact hx b n r
  ·rw[n]at r;cases r
 have hm:∀b u,H b=some u->¬Hv (some u)->b≠x:=λb u q nm z=>by subst z;rw[q]at mu;exact nm mu
 refine⟨λb u q n _ _=>k b u (hb b n) q,λb u q n _ _=>⟨u.slots,k b u (hb b n) q⟩,λb u q n _=>by rw[ak (hx b n)];exact n,λb u q _=>?_,
  λb xs q=>by rw[ak (hm b _ q λz=>z)];exact q,λb u xs q=>by rw[ak (hm b _ q λz=>z)];exact q,λb ps q=>⟨#[],by rw[ak (hm b _ q λz=>z),q];simp⟩⟩
 by_cases hbe:b=e
 ·subst hbe;exact heo
 ·exact⟨u,k b u hbe q⟩
end
noncomputable def IG(h:QV)(H:Hp):aD:=(List.range h.objs.size).filter λa=>(H a).isSome
noncomputable def jj(h:QV)(H:Hp):QV:=PySem.W.hideAll h (IG h H)
theorem xN(h:QV)(H:Hp):(jj h H).objs.size=h.objs.size:=PySem.W.hideAll_size _ _
theorem nV{h:QV}{H:Hp}{b:QO}{o:Obj}(e:h.get? b=some o)(n:H b=none):(jj h H).get? b=some o:=
 PySem.W.hideAll_get _ e λhm=>by
  have q:(H b).isSome=true:=(List.mem_filter.mp hm).2;rw[n]at q;simp at q
theorem jQ{h:QV}{H:Hp}{b:QO}{o:Obj}(e:(jj h H).get? b=some o):h.get? b=some o/\H b=none:=by
 have e':h.get? b=some o:=PySem.W.of_hideAll (IG h H) e;refine⟨e',?_⟩;cases q:H b with
 |none=>rfl
 |some x=>
  have hm:b∈IG h H:=List.mem_filter.mpr ⟨List.mem_range.mpr (Qm e'),by simp[q]⟩;have z:(jj h H).get? b=none:=PySem.W.hideAll_none (IG h H) hm;rw[z]at e;cases e
noncomputable def Ci(g h:QV)(L:QO):aM:=(List.range h.objs.size).filterMap λa=>if a=L\/(g.get? a).isSome=true then none else(h.get? a).map λo=>(a,o)
noncomputable def rest(g h:QV)(L d:QO):aM:=(Ci g h L).filter λp=>decide (p.1≠d)
structure Mod(K:Pn)(mg:bF)(base:QV):Prop where
 kin:K.In base
 glob:base.Ns QX mg
 blt:∃mb,base.Ns builtinsNs mb/\∀x:Str,x≠"__name__"->mb x=QY x
 nolimit:base.NoLimit
structure Cx where
 prog:QT
 w:QS
 K:Pn
 mg:bF
 base:QV
 A:QZ
 N:av
 s₀:QR
 H₀:Hp
 env:Env
 outer:List Env
 stack:List Env
 ex:aD
 fn:Str->Bool
 calm:Bool
 pn:aM
 xe:aW
noncomputable def frs(l:List Env):aD:=l.filterMap (·.frame)
noncomputable abbrev Cx.fs(X:Cx):aD:=frs X.outer
noncomputable def Fq(sc:Ra)(x:Str):Prop:=sc.names.lookup x=some .local\/sc.names.lookup x=some .cell\/sc.names.lookup x=some .free
noncomputable def Loc(sc:Ra)(x:Str):Prop:=sc.names.lookup x=some .local\/sc.names.lookup x=some .cell
noncomputable def Look(env:Env)(h:QV)(m:bF)(x:Str)(u:QM):Prop:=
 (env.kindOf x=some .local/\m x=some u)\/((env.kindOf x=some .cell\/env.kindOf x=some .free)/\∃c,env.cells.lookup x=some c/\h.IsCell c (some u))
structure Cx.Ok(X:Cx):Prop where
 mod:Mod X.K X.mg X.base
 kind:X.env.scope.kind=.function
 glob:X.env.globals=QX
 blt:X.env.builtins=builtinsNs
 above:X.s₀.heap.objs.size<=X.env.locals
 inj:∀x y c,X.env.cells.lookup x=some c->X.env.cells.lookup y=some c->x=y
 has:∀x,(X.env.kindOf x=some .cell\/X.env.kindOf x=some .free)->∃c,X.env.cells.lookup x=some c
 cab:∀x c,X.fn x=true->X.env.cells.lookup x=some c->X.s₀.heap.objs.size<=c
 hd:X.calm=true->X.A.handled=none
 frames:X.A.frames=some X.stack
 stk:X.stack=X.outer\/(X.stack=X.env::X.outer/\X.env.frame=some X.env.locals)
 exf:∀b∈X.ex,b≠X.env.locals/\∀x c,X.env.cells.lookup x=some c->c≠b
 bs:∀b o,X.base.get? b=some o->X.s₀.heap.get? b=some o/\X.H₀ b=none
 bsz:X.base.objs.size<=X.s₀.heap.objs.size
 noex:∀b o,X.base.get? b=some o->b∉X.ex
 exfs:∀b∈X.ex,b∉X.fs
 funs:X.s₀.heap.FunFrames X.base X.outer
 frf:∀b∈X.fs,X.H₀ b=none
structure Inv(X:Cx)(pins:aM)(σ:List (Option V))(H:Hp)(s:QR):Prop where
 ok:X.Ok
 os:s.os=X.s₀.os
 bare:AllBare s.gens
 base:Un X.fs X.ex X.H₀ H X.s₀.heap s.heap
 loc:∃m,s.heap.Ns X.env.locals m/\∀(i:Nat)(x:Str)(v:V),X.N[i]?=some x->σ[i]?=some (some v)->Fq X.env.scope x->∃u,RelV v u/\Look X.env s.heap m x u
 cell:∀x c,X.env.cells.lookup x=some c->∃v,s.heap.IsCell c v
 free:H X.env.locals=none
 freeC:∀x c,X.env.cells.lookup x=some c->H c=none
 pin:∀p∈X.pn++pins,s.heap.get? p.1=some p.2/\H p.1=none/\p.1≠X.env.locals/\p.1∉X.fs/\∀v,p.2.data≠.cell v
 hok:lH X.prog X.w H s.heap
 len:σ.length=X.N.length
section
variable{X:Cx}{pins:aM}{σ:List (Option V)}{H H':Hp}{s:QR}{h':QV}
theorem Cx.Ok.nofr(ok:X.Ok){b:QO}{o:Obj}(e:X.base.get? b=some o):b∉X.fs:=λhb=>by
 have:=(ok.funs.mem hb).1
 rw[e]at this;cases this
theorem Inv.bs(I:Inv X pins σ H s):∀b o,X.base.get? b=some o->s.heap.get? b=some o/\H b=none:=λb o e=>
 ⟨I.base.keep b o (I.ok.bs b o e).1 (I.ok.bs b o e).2 (I.ok.nofr e) (I.ok.noex b o e),I.base.free b o (I.ok.bs b o e).1 (I.ok.bs b o e).2 (I.ok.noex b o e)⟩
theorem Inv.bk(I:Inv X pins σ H s):∀b o,X.base.get? b=some o->s.heap.get? b=some o:=λb o e=>(I.bs b o e).1
theorem Inv.mod(I:Inv X pins σ H s):Mod X.K X.mg X.base:=I.ok.mod
theorem Inv.kIn(I:Inv X pins σ H s):X.K.In s.heap:=I.ok.mod.kin.keeps I.bk
theorem Inv.lt(I:Inv X pins σ H s):X.env.locals<s.heap.objs.size:=let ⟨_,hn,_⟩:=I.loc;hn.lt
theorem Inv.sz(I:Inv X pins σ H s):X.s₀.heap.objs.size<=s.heap.objs.size:=Nf I.ok.above (Ng I.lt)
theorem Inv.nofs(I:Inv X pins σ H s){a:QO}(h:s.heap.objs.size<=a):a∉X.fs:=λhb=>by
 obtain⟨_,o,ho,_⟩:=I.ok.funs.mem hb;exact absurd (M9 (Qm ho) (Nf I.sz h)) (Nb _)
theorem Inv.cne(I:Inv X pins σ H s):∀x c,X.env.cells.lookup x=some c->c≠X.env.locals:=λx c e z=>by
 obtain⟨v,o,ho,hd⟩:=I.cell x c e;obtain⟨m,⟨o',es,ep,ho',hd',_⟩,_⟩:=I.loc;rw[z,ho']at ho;cases ho;rw[hd']at hd;cases hd
theorem Inv.funs(I:Inv X pins σ H s):s.heap.FunFrames X.base X.outer:=by
 have all:∀(l:List Env),(∀b∈frs l,b∈X.fs)->X.s₀.heap.FunFrames X.base l->s.heap.FunFrames X.base l:=by
  intro l
  induction l with
  |nil=>intro _ _;trivial
  |cons env r ih=>
   intro hs hl;obtain⟨hk,⟨L,o,hf,hn,ho,hd⟩,hr⟩:=hl;have hL:L∈X.fs:=hs L (by unfold frs;rw[Nh,hf];exact Ni);obtain⟨sl,e⟩:=I.base.slot L o ho (I.ok.frf L hL) hL λz=>I.ok.exfs L z hL;exact⟨hk,⟨L,_,hf,hn,e,hd⟩,ih (λb hb=>hs b (by unfold frs;rw[Nh,hf];exact Nj _ hb)) hr⟩
 exact all X.outer (λ_ hb=>hb) I.ok.funs
theorem Inv.stack(I:Inv X pins σ H s):s.heap.FunFrames X.base X.stack:=by
 rcases I.ok.stk with e|⟨e,hf⟩
 ·rw[e];exact I.funs
 ·rw[e];obtain⟨m,hn,_⟩:=I.loc;refine .cons (by rw[I.ok.kind];decide) hf hn ?_ I.funs;exact Qn (Nf I.ok.bsz I.ok.above)
theorem Inv.stkSub(I:Inv X pins σ H s):∀b∈frs X.stack,b∈X.env.locals::X.fs:=λb hb=>by
 rcases I.ok.stk with e|⟨e,hf⟩
 ·rw[e]at hb;exact Nj _ hb
 ·rw[e]at hb;unfold frs at hb;rw[Nh,hf]at hb;exact hb
theorem Inv.stkFree(I:Inv X pins σ H s):∀b∈frs X.stack,H b=none:=λb hb=>by
 rcases List.mem_cons.mp (I.stkSub b hb)with e|hb
 ·rw[e];exact I.free
 ·obtain⟨_,o,ho,_⟩:=I.ok.funs.mem hb;exact I.base.free b o ho (I.ok.frf b hb) λz=>I.ok.exfs b z hb
theorem Inv.step{g':Array GenState}{t':Nat}{d':Drawn}{ch:aD}(I:Inv X pins σ H s)
  (hch:∀b∈ch,(b∈X.ex\/X.s₀.heap.objs.size<=b)/\b≠X.env.locals/\(∀x c,X.env.cells.lookup x=some c->c≠b)/\∀p∈X.pn++pins,p.1≠b)
  (keep:∀b o,b≠X.env.locals->b∉X.fs->b∉ch->s.heap.get? b=some o->H b=none->h'.get? b=some o)
  (slot:∀b o,b≠X.env.locals->b∈X.fs->b∉ch->s.heap.get? b=some o->H b=none->∃sl,h'.get? b=some {o with slots:=sl}) (free:∀b o,b∉ch->s.heap.get? b=some o->H b=none->H' b=none)
  (there:∀b o,b∉ch->s.heap.get? b=some o->∃o',h'.get? b=some o')
  (tups:∀b xs,H b=some (.tup xs)->H' b=some (.tup xs)) (frzs:∀b o u,H b=some (.frz o u)->H' b=some (.frz o u)) (tbls:∀b ps,H b=some (.tbl ps)->∃more,H' b=some (.tbl (ps++more)))
  (ns:∀m,s.heap.Ns X.env.locals m->h'.Ns X.env.locals m) (hok:lH X.prog X.w H' h') (hg:AllBare g'):
  Inv X pins σ H' {s with heap:=h',gens:=g',drawn:=d',toks:=t'}:=by
 have neL:∀b o,X.s₀.heap.get? b=some o->b≠X.env.locals:=λb o e=>Nc (M9 (Qm e) I.ok.above);have neC:∀b o,X.s₀.heap.get? b=some o->b∉X.ex->b∉ch:=λb o e hx hb=>by
  rcases(hch b hb).1 with z|z
  ·exact hx z
  ·exact absurd (M9 (Qm e) z) (Nb _)
 have cellK:∀x c,X.env.cells.lookup x=some c->∀v,s.heap.IsCell c v->h'.IsCell c v:=λx c e v ⟨o,ho,hd⟩=>by
  have nch:c∉ch:=λz=>(hch c z).2.2.1 x c e rfl;by_cases hc:c∈X.fs
  ·obtain⟨sl,q⟩:=slot c o (I.cne x c e) hc nch ho (I.freeC x c e);exact⟨_,q,hd⟩
  ·exact⟨o,keep c o (I.cne x c e) hc nch ho (I.freeC x c e),hd⟩
 refine⟨I.ok,I.os,hg,⟨λb o e n hb hx=>?_,λb o e n hb hx=>?_,λb o e n hx=>?_,λb o e hx=>?_,λb xs e=>tups b xs (I.base.tups b xs e),λb o xs e=>frzs b o xs (I.base.frzs b o xs e),λb ps e=>?_⟩,?_,λx c e=>?_,?_,λx c e=>?_,λp hp=>?_,hok,I.len⟩
 ·exact keep b o (neL b o e) hb (neC b o e hx) (I.base.keep b o e n hb hx) (I.base.free b o e n hx)
 ·obtain⟨sl,e1⟩:=I.base.slot b o e n hb hx;obtain⟨sl',e2⟩:=slot b _ (neL b o e) hb (neC b o e hx) e1 (I.base.free b o e n hx);exact⟨sl',e2⟩
 ·obtain⟨o',e1⟩:=I.base.there b o e hx;exact free b o' (neC b o e hx) e1 (I.base.free b o e n hx)
 ·obtain⟨o',e1⟩:=I.base.there b o e hx;exact there b o' (neC b o e hx) e1
 ·obtain⟨m1,e1⟩:=I.base.tbls b ps e;obtain⟨m2,e2⟩:=tbls b _ e1;exact⟨m1++m2,by rw[e2,Array.append_assoc]⟩
 ·obtain⟨m,hn,hl⟩:=I.loc;refine⟨m,ns m hn,λi x v e1 e2 e3=>?_⟩;obtain⟨u,r,l⟩:=hl i x v e1 e2 e3;refine⟨u,r,?_⟩;rcases l with l|⟨k,c,e,z⟩
  ·exact .inl l
  ·exact .inr ⟨k,c,e,cellK x c e _ z⟩
 ·obtain⟨v,z⟩:=I.cell x c e;exact⟨v,cellK x c e v z⟩
 ·obtain⟨m,⟨o,_,_,ho,_⟩,_⟩:=I.loc;exact free _ o (λz=>(hch _ z).2.1 rfl) ho I.free
 ·obtain⟨v,o,ho,hd⟩:=I.cell x c e;exact free c o (λz=>(hch c z).2.2.1 x c e rfl) ho (I.freeC x c e)
 ·obtain⟨e,n,ne,nf,d⟩:=I.pin p hp;have nch:p.1∉ch:=λz=>(hch p.1 z).2.2.2 p hp rfl;exact⟨keep p.1 p.2 ne nf nch e n,free p.1 p.2 nch e n,ne,nf,d⟩
theorem Inv.un{t':Nat}(I:Inv X pins σ H s)(u:Un X.fs [] H H' s.heap h')(hok:lH X.prog X.w H' h'):Inv X pins σ H' {s with heap:=h',toks:=t'}:=by
 obtain⟨m,⟨o,es,ep,ho,r⟩,_⟩:=id I.loc;obtain⟨sl,hL⟩:=u.any ho I.free (by simp);exact I.step (g':=s.gens) (d':=s.drawn) (ch:=[]) (λ_ z=>nomatch z) (λb o _ hb _ e n=>u.keep b o e n hb (by simp)) (λb o _ hb _ e n=>u.slot b o e n hb (by simp)) (λb o _ e n=>u.free b o e n (by simp)) (λb o _ e=>u.there b o e (by simp)) u.tups u.frzs u.tbls (λm' hm=>by
  obtain⟨o',es',ep',ho',r'⟩:=hm;rw[ho]at ho';cases ho';exact⟨_,es',ep',hL,r'⟩) hok I.bare
theorem Inv.call{g':Array GenState}{t':Nat}{d':Drawn}{ch:aD}(I:Inv X pins σ H s)(u:Un (frs X.stack) ch H H' s.heap h')(hok:lH X.prog X.w H' h')(hg:AllBare g')
  (hch:∀b∈ch,(b∈X.ex\/X.s₀.heap.objs.size<=b)/\b≠X.env.locals/\(∀x c,X.env.cells.lookup x=some c->c≠b)/\∀p∈X.pn++pins,p.1≠b):
  Inv X pins σ H' {s with heap:=h',gens:=g',drawn:=d',toks:=t'}:=by
 obtain⟨m,⟨o,es,ep,ho,r⟩,_⟩:=id I.loc;obtain⟨sl,hL⟩:=u.any ho I.free λz=>(hch _ z).2.1 rfl;exact I.step (ch:=ch) hch (λb o hL hb hc e n=>u.keep b o e n (λz=>(List.mem_cons.mp (I.stkSub b z)).elim hL hb) hc) (λb o _ _ hc e n=>u.any e n hc) (λb o hc e n=>u.free b o e n hc) (λb o hc e=>u.there b o e hc) u.tups u.frzs u.tbls (λm' hm=>by
  obtain⟨o',es',ep',ho',r'⟩:=hm;rw[ho]at ho';cases ho';exact⟨_,es',ep',hL,r'⟩) hok hg
theorem Inv.turned{t':Nat}{it:QO}(I:Inv X pins σ H s)(k:∀b o,b≠it->s.heap.get? b=some o->h'.get? b=some o)(hn:H it=none)(hL:it≠X.env.locals)
  (h1:it∈X.ex\/X.s₀.heap.objs.size<=it) (h2:∀x c,X.env.cells.lookup x=some c->c≠it) (h3:∀p∈X.pn++pins,p.1≠it):Inv X pins σ H {s with heap:=h',toks:=t'}:=by
 have nit:∀b u,H b=some u->b≠it:=λb u e z=>by rw[z,hn]at e;cases e
 refine I.step (g':=s.gens) (d':=s.drawn) (ch:=[it]) (λb hb=>?_) (λb o _ _ hc e _=>k b o (λz=>hc (by simp[z])) e) (λb o _ _ hc e _=>⟨o.slots,k b o (λz=>hc (by simp[z])) e⟩) (λ_ _ _ _ n=>n)
  (λb o hc e=>⟨o,k b o (λz=>hc (by simp[z])) e⟩) (λ_ _ e=>e) (λ_ _ _ e=>e) (λb ps e=>⟨#[],by rw[e];simp⟩) (λm hm=>?_) (λb u e=>?_) I.bare
 ·have e:b=it:=by simpa using hb
  subst e;exact⟨h1,hL,h2,h3⟩
 ·obtain⟨o,es,ep,ho,r⟩:=hm;exact⟨o,es,ep,k _ o (Ne.symm hL) ho,r⟩
 ·refine(I.hok b u e).stay (λc v hc q=>k c v ?_ q) (λ_ q=>q) λ_ _ q=>q;rcases hc with z|z
  ·rw[z];exact nit b u e
  ·exact nit c _ z
theorem Inv.tok(I:Inv X pins σ H s)(t:Nat):Inv X pins σ H {s with toks:=t}:=I.un (h':=s.heap) (t':=t) Un.refl I.hok
theorem Inv.kept{t':Nat}(I:Inv X pins σ H s)(k:∀b u,s.heap.get? b=some u->h'.get? b=some u):Inv X pins σ H {s with heap:=h',toks:=t'}:=I.un (Un.kept k) (I.hok.kept k)
theorem Inv.laid{a:QO}{o:HO}{t':Nat}(I:Inv X pins σ H s)(k:∀b u,s.heap.get? b=some u->h'.get? b=some u)(hp:s.heap.objs.size<=a)(new:bM X.prog X.w (upd H a o) h' a o):
  Inv X pins σ (upd H a o) {s with heap:=h',toks:=t'}:=I.un (Un.laid k hp (I.hok.fresh hp)) (I.hok.laid k hp new)
theorem Inv.write{x e:QO}{o:HO}{t':Nat}(I:Inv X pins σ H s)(mu:Hv (H x))(he:e=x\/H e=some (.own x))(k:∀b u,b≠e->s.heap.get? b=some u->h'.get? b=some u)(heo:∃u,h'.get? e=some u)
  (new:bM X.prog X.w (upd H x o) h' x o):Inv X pins σ (upd H x o) {s with heap:=h',toks:=t'}:=I.un (Un.write mu he k heo) (I.hok.write mu he k heo new)
theorem Inv.pins_of{pins':aM}(I:Inv X pins σ H s)(h:∀p∈pins',s.heap.get? p.1=some p.2/\H p.1=none/\p.1≠X.env.locals/\p.1∉X.fs/\∀v,p.2.data≠.cell v):Inv X pins' σ H s:=
 ⟨I.ok,I.os,I.bare,I.base,I.loc,I.cell,I.free,I.freeC,λp hp=>(List.mem_append.mp hp).elim (λz=>I.pin p (Nk _ z)) (h p),I.hok,I.len⟩
theorem tN{N:av}(hN:N.Nodup){i j:Nat}{x:Str}(a:N[i]?=some x)(b:N[j]?=some x):i=j:=by
 obtain⟨h1,e1⟩:=List.getElem?_eq_some_iff.mp a;obtain⟨h2,e2⟩:=List.getElem?_eq_some_iff.mp b;exact(List.getElem_inj hN).mp (e1.trans e2.symm)
theorem oS{M:Rb}{A:QZ}{E:aW}{i:Nat}{x:Str}{v:V}{u:QM}{Q:Unit->eI}(I:Inv X pins σ H s)(hN:X.N.Nodup)(hi:X.N[i]?=some x)(hx:Loc X.env.scope x)(r:RelV v u)
  (h:∀s',Inv X pins (σ.set i (some v)) H s'->(∃a,Qo a s.heap s'.heap/\(a=X.env.locals\/X.env.cells.lookup x=some a))->Q () s') (hf:X.fn x=true\/X.env.scope.names.lookup x=some .local:=by first|exact .inl rfl|exact .inr rfl|assumption):Rc M A (storeName X.env x u) Q E s:=by
 obtain⟨m,hn,hl⟩:=id I.loc;have hcls:(X.env.scope.kind==.class||(X.env.scope.kind==.module&&X.env.locals !=X.env.globals))=false:=by rw[I.ok.kind];rfl
 have hiσ:i<σ.length:=by rw[I.len];exact(List.getElem?_eq_some_iff.mp hi).1
 have cne:=I.cne;have tracked:∀{a:QO}{h':QV},(∃o,s.heap.get? a=some o/\H a=none)->Qo a s.heap h'->lH X.prog X.w H h':=λ{a h'} ha hs b ob e=>by
  obtain⟨_,_,hfree⟩:=ha;refine(I.hok b ob e).stay (λc w' hc q=>(hs.2 c ?_).trans q) (λ_ q=>q) λ_ _ q=>q;rintro rfl;rcases hc with rfl|hc
  ·rw[hfree]at e;cases e
  ·rw[hfree]at hc;cases hc
 rcases hx with hk|hk
 ·refine wpAny_storeName_local hk hn (λh' hn' hs=>?_) hcls;obtain⟨oL,_,_,hoL,_⟩:=id hn;refine h _ ⟨I.ok,I.os,I.bare,⟨λb o e n hb hx=>?_,λb o e n hb hx=>?_,I.base.free,λb o e hx=>?_,I.base.tups,I.base.frzs,I.base.tbls⟩,⟨_,hn',λj y v' e1 e2 e3=>?_⟩,λy c e=>?_,I.free,I.freeC,λp hp=>?_,tracked ⟨oL,hoL,I.free⟩ hs,by simpa using I.len⟩ ⟨_,hs,.inl rfl⟩
  ·exact(hs.2 b (Nc (M9 (Qm e) I.ok.above))).trans (I.base.keep b o e n hb hx)
  ·obtain⟨sl,e1⟩:=I.base.slot b o e n hb hx;exact⟨sl,(hs.2 b (Nc (M9 (Qm e) I.ok.above))).trans e1⟩
  ·obtain⟨o',e1⟩:=I.base.there b o e hx;exact⟨o',(hs.2 b (Nc (M9 (Qm e) I.ok.above))).trans e1⟩
  ·by_cases hj:j=i
   ·subst hj;rw[hi]at e1;cases e1;rw[Nn hiσ]at e2;cases e2;exact⟨u,r,.inl ⟨hk,by simp⟩⟩
   ·rw[Np (Ne.symm hj)]at e2;obtain⟨u',r',q⟩:=hl j y v' e1 e2 e3;refine⟨u',r',?_⟩;rcases q with⟨k,e⟩|⟨k,c,e,z⟩
    ·refine .inl ⟨k,?_⟩
     have:y≠x:=λe=>hj (tN hN e1 (e ▸ hi))
     simp[this,e]
    ·exact .inr ⟨k,c,e,z.sameBut hs (cne y c e)⟩
  ·obtain⟨w',z⟩:=I.cell y c e;exact⟨w',z.sameBut hs (cne y c e)⟩
  ·obtain⟨e,n,ne,nf,d⟩:=I.pin p hp;exact⟨(hs.2 p.1 ne).trans e,n,ne,nf,d⟩
 ·have hfn:X.fn x=true:=by
   rcases hf with z|z
   ·exact z
   ·rw[z]at hk;cases hk
  obtain⟨c,hc⟩:=I.ok.has x (.inl hk);obtain⟨w',z⟩:=I.cell x c hc;refine wpAny_storeName_cell I.ok.kind hk hc z (λh' hc' hs=>?_);obtain⟨oc,hoc,hocd⟩:=id z;refine h {s with heap:=h'} ⟨I.ok,I.os,I.bare,⟨λb o e n hb hx=>?_,λb o e n hb hx=>?_,I.base.free,λb o e hx=>?_,I.base.tups,I.base.frzs,I.base.tbls⟩,⟨m,hn.sameBut hs (Ne.symm (cne x c hc)),λj y v' e1 e2 e3=>?_⟩,λy c' e=>?_,I.free,I.freeC,λp hp=>?_,tracked ⟨oc,hoc,I.freeC x c hc⟩ hs,by simpa using I.len⟩ ⟨c,hs,.inr hc⟩
  ·exact(hs.2 b (Nc (M9 (Qm e) (I.ok.cab x c hfn hc)))).trans (I.base.keep b o e n hb hx)
  ·obtain⟨sl,e1⟩:=I.base.slot b o e n hb hx;exact⟨sl,(hs.2 b (Nc (M9 (Qm e) (I.ok.cab x c hfn hc)))).trans e1⟩
  ·obtain⟨o',e1⟩:=I.base.there b o e hx;exact⟨o',(hs.2 b (Nc (M9 (Qm e) (I.ok.cab x c hfn hc)))).trans e1⟩
  ·by_cases hj:j=i
   ·subst hj;rw[hi]at e1;cases e1;rw[Nn hiσ]at e2;cases e2;exact⟨u,r,.inr ⟨.inl hk,c,hc,hc'⟩⟩
   ·rw[Np (Ne.symm hj)]at e2;obtain⟨u',r',q⟩:=hl j y v' e1 e2 e3;refine⟨u',r',?_⟩;rcases q with q|⟨k,c',e,z'⟩
    ·exact .inl q
    ·refine .inr ⟨k,c',e,z'.sameBut hs ?_⟩;rintro rfl;exact hj (tN hN e1 (I.ok.inj _ _ _ e hc ▸ hi))
  ·by_cases hcc:c'=c
   ·subst hcc;exact⟨_,hc'⟩
   ·obtain⟨w2,z2⟩:=I.cell y c' e;exact⟨w2,z2.sameBut hs hcc⟩
  ·obtain⟨e,n,ne,nf,d⟩:=I.pin p hp;refine⟨(hs.2 p.1 ?_).trans e,n,ne,nf,d⟩;intro q;rw[q,hoc]at e;have q':oc=p.2:=Option.some.inj e;exact d w' (by rw[<-q'];exact hocd)
theorem nG{M:Rb}{A:QZ}{E:aW}{i:Nat}{x:Str}{v:V}{u:QM}{Q:Unit->eI}(I:Inv X pins σ H s)(hN:X.N.Nodup)(hi:X.N[i]?=some x)(hx:Loc X.env.scope x)(r:RelV v u)
  (h:∀s',Inv X pins (σ.set i (some v)) H s'->Q () s') (hf:X.fn x=true\/X.env.scope.names.lookup x=some .local:=by first|exact .inl rfl|exact .inr rfl|assumption):Rc M A (storeName X.env x u) Q E s:=
 oS I hN hi hx r (λs' I' _=>h s' I') hf
theorem Inv.call'{s':QR}{ch:aD}(I:Inv X pins σ H s)(ho:s'.os=s.os)(u:Un (frs X.stack) ch H H' s.heap s'.heap)(hok:lH X.prog X.w H' s'.heap)(hg:AllBare s'.gens)
  (hch:∀b∈ch,(b∈X.ex\/X.s₀.heap.objs.size<=b)/\b≠X.env.locals/\(∀x c,X.env.cells.lookup x=some c->c≠b)/\∀p∈X.pn++pins,p.1≠b):Inv X pins σ H' s':=by
 obtain⟨h',g',d',t',o'⟩:=s';have e:o'=s.os:=ho;subst e;exact I.call (g':=g') (t':=t') (d':=d') u hok hg hch
end
noncomputable abbrev XK:=QM->Option QO->Hp->Prop
noncomputable abbrev St:=List (Option V)
noncomputable abbrev VK:=V->Hp->Prop
noncomputable abbrev TE:=St->Hp->VK->Prop
noncomputable abbrev TT:=St->Hp->(Bool->Hp->Prop)->Prop
noncomputable abbrev TA:=St->Hp->(aH->Hp->Prop)->Prop
structure Ends where
 nx:St->Hp->Prop
 rt:VK
 bk:St->Hp->Prop:=λ_ _=>False
 ct:St->Hp->Prop:=λ_ _=>False
noncomputable abbrev TS:=Ends->St->Hp->Prop
noncomputable def EP(X:Cx)(pins:aM)(σ:St)(Q:VK)(u:QM)(s':QR):Prop:=∃v H',Inv X pins σ H' s'/\RelV v u/\Q v H'
noncomputable def TP(X:Cx)(pins:aM)(σ:St)(Q:Bool->Hp->Prop)(b:Bool)(s':QR):Prop:=∃H',Inv X pins σ H' s'/\Q b H'
noncomputable def AP(X:Cx)(pins:aM)(σ:St)(Q:aH->Hp->Prop)(us:aS)(s':QR):Prop:=∃vs H',Inv X pins σ H' s'/\Vals vs us/\Q vs H'
noncomputable def SP(X:Cx)(pins:aM)(D:Ends)(f:Flow)(s':QR):Prop:=
 match f with
 |.next=>∃σ' H',Inv X pins σ' H' s'/\D.nx σ' H'
 |.brk=>∃σ' H',Inv X pins σ' H' s'/\D.bk σ' H'
 |.cont=>∃σ' H',Inv X pins σ' H' s'/\D.ct σ' H'
 |.ret u=>∃v σ' H',Inv X pins σ' H' s'/\RelV v u/\D.rt v H'
noncomputable def PE(X:Cx)(e:QP)(t:TE):Prop:=
 ∀(pins:aM)(s:QR)(σ:St)(H:Hp)(Q:VK),Inv X pins σ H s->t σ H Q->Rc (model X.prog X.w) X.A (eval e X.env) (EP X pins σ Q) X.xe s
noncomputable def PT(X:Cx)(e:QP)(t:TT):Prop:=
 ∀(pins:aM)(s:QR)(σ:St)(H:Hp)(Q:Bool->Hp->Prop),Inv X pins σ H s->t σ H Q->Rc (model X.prog X.w) X.A (isTrue e X.env (eval e X.env)) (TP X pins σ Q) X.xe s
noncomputable def PW(X:Cx)(e:QP)(t:TT):Prop:=
 ∀(whole:Sem QM)(pins:aM)(s:QR)(σ:St)(H:Hp)(Q:Bool->Hp->Prop),Inv X pins σ H s->t σ H Q->Rc (model X.prog X.w) X.A (isTrue e X.env whole) (TP X pins σ Q) X.xe s
theorem PW.pt{X:Cx}{e:QP}{t:TT}(h:PW X e t):PT X e t:=h _
noncomputable def PA(X:Cx)(es:aR)(t:TA):Prop:=
 ∀(pos:Pos)(pins:aM)(s:QR)(σ:St)(H:Hp)(Q:aH->Hp->Prop),Inv X pins σ H s->t σ H Q->Rc (model X.prog X.w) X.A (spliced (backTo pos (Rf es X.env))) (AP X pins σ Q) X.xe s
noncomputable def PS(X:Cx)(st:QQ)(t:TS):Prop:=
 ∀(pins:aM)(s:QR)(σ:St)(H:Hp)(D:Ends),Inv X pins σ H s->t D σ H->Rc (model X.prog X.w) X.A (exec st X.env) (SP X pins D) X.xe s
noncomputable def pR(X:Cx)(st:cF)(t:TS):Prop:=
 ∀(pins:aM)(s:QR)(σ:St)(H:Hp)(D:Ends),Inv X pins σ H s->t D σ H->Rc (model X.prog X.w) X.A (execs st X.env) (SP X pins D) X.xe s
theorem bU{α:Type}{t:Sem α}{Q Q':α->eI}{M:Rb}{A:QZ}{E:aW}{s:QR}(h:Rc M A t Q E s)(hQ:∀a s,Q a s->Q' a s):Rc M A t Q' E s:=Rg h hQ λ_ _ x=>x
section
variable{X:Cx}
noncomputable def nW(i:Nat):TE:=λσ H Q=>∃v,σ[i]?=some (some v)/\Q v H
noncomputable def tC(v:V):TE:=λ_ H Q=>Q v H
theorem Ez{i:Nat}{x:Str}{pos:Pos}(hN:X.N[i]?=some x)(hv:Fq X.env.scope x)(hd:(x==("__debug__":Str))=false:=by decide)(hcd:(x==("__classdict__":Str))=false:=by decide):PE X (.Name x pos) (nW i):=by
 intro pins s σ H Q I h;obtain⟨v,e,h⟩:=h;obtain⟨m,hn,hl⟩:=I.loc;obtain⟨u,r,l⟩:=hl i x v hN e hv;have fin:EP X pins σ Q u s:=⟨v,H,I,r,h⟩
 rcases l with⟨hk,hm⟩|⟨hk,c,hc,hcell⟩
 ·exact wpAny_Name (wpAny_loadName_local I.ok.kind hk hn hm fin) hd
 ·rcases hk with hk|hk
  ·exact wpAny_Name (wpAny_loadName_cell I.ok.kind hk hc hcell fin) hd
  ·exact wpAny_Name (wpAny_loadName_free I.ok.kind hk hc hcell fin hcd) hd
theorem GA{i j pos}:PE X (.Constant (.int i) j pos) (tC (.int i)):=λ_ _ _ H _ I h=>wpAny_Constant_int ⟨.int i,H,I.tok _,⟨_,rfl⟩,h⟩
theorem Im{b j pos}:PE X (.Constant (.bool b) j pos) (tC (.bl b)):=λ_ _ _ H _ I h=>Constant_bool ⟨.bl b,H,I,rfl,h⟩
theorem Gz{j pos}:PE X (.Constant .none j pos) (tC .non):=λ_ _ _ H _ I h=>Rh ⟨.non,H,I,rfl,h⟩
theorem Gu{x j pos}:PE X (.Constant (.str x) j pos) (tC (.str x)):=λ_ _ _ H _ I h=>Calls.Constant_str ⟨.str x,H,I.tok _,⟨_,rfl⟩,h⟩
noncomputable def Gl(X:Cx)(x:Str):Prop:=X.env.kindOf x=some .globalImplicit
theorem g9{E:aW}{pins:aM}{s:QR}{σ:St}{H:Hp}{x:Str}{u:QM}{pos:Pos}{Q:aW}(I:Inv X pins σ H s)(hg:Gl X x)(hm:X.mg x=some u)(h:Q u s)
  (hd:(x==("__debug__":Str))=false:=by decide):Rc (model X.prog X.w) X.A (eval (.Name x pos) X.env) Q E s:=
 Calls.Name_function_global I.ok.kind hg (Calls.loadGlobal_global (by rw[I.ok.glob];exact I.mod.glob.keeps I.bk) hm h) hd
theorem kI{E:aW}{pins:aM}{s:QR}{σ:St}{H:Hp}{x:Str}{u:QM}{pos:Pos}{Q:aW}(I:Inv X pins σ H s)(hg:Gl X x)(hm:X.mg x=none)(hv:QY x=some u)(h:Q u s)
  (hn:x≠"__name__":=by decide) (hd:(x==("__debug__":Str))=false:=by decide):Rc (model X.prog X.w) X.A (eval (.Name x pos) X.env) Q E s:=by
 obtain⟨mb,h1,h2⟩:=I.mod.blt;exact Calls.Name_function_global I.ok.kind hg (Calls.loadGlobal_builtin (by rw[I.ok.glob];exact I.mod.glob.keeps I.bk) hm (by rw[I.ok.blt];exact h1.keeps I.bk) ((h2 x hn).trans hv) h) hd
theorem me{x:Str}{v:V}{u:QM}{pos:Pos}(hg:Gl X x)(hm:X.mg x=some u)(r:RelV v u)(hd:(x==("__debug__":Str))=false:=by decide):PE X (.Name x pos) (tC v):=
 λ_ _ _ H _ I h=>g9 I hg hm ⟨v,H,I,r,h⟩ hd
theorem vC{x:Str}{v:V}{u:QM}{pos:Pos}(hg:Gl X x)(hm:X.mg x=none)(hv:QY x=some u)(r:RelV v u)(hn:x≠"__name__":=by decide)(hd:(x==("__debug__":Str))=false:=by decide):PE X (.Name x pos) (tC v):=
 λ_ _ _ H _ I h=>kI I hg hm hv ⟨v,H,I,r,h⟩ hn hd
variable{a b:QP}{ta tb:TE}{pos:Pos}
noncomputable def PC(X:Cx)(op:Ri)(a b:QP)(t:TE):Prop:=
 ∀(pins:aM)(s:QR)(σ:St)(H:Hp)(Q:VK),Inv X pins σ H s->t σ H Q->
  Rc (model X.prog X.w) X.A (eval a X.env) (λv s₁=>Rc (model X.prog X.w) X.A (eval b X.env) (λu s₂=>Rc (model X.prog X.w) X.A (Rj op v u) (EP X pins σ Q) X.xe s₂) X.xe s₁) X.xe s
theorem tE(b:QP){op:Ri}(h:op≠.In)(h2:op≠.NotIn):Rk op b=false:=by
 have e1:(op==CmpOp.In)=false:=by cases op<;>first|rfl|exact absurd rfl h
 have e2:(op==CmpOp.NotIn)=false:=by cases op<;>first|rfl|exact absurd rfl h2
 cases b<;>simp[Rk,e1,e2]
noncomputable def J2(ta:TE):TE:=λσ H Q=>ta σ H λx H1=>Q (.bl (decide (x=.non))) H1
noncomputable def HA(ta:TE):TE:=λσ H Q=>ta σ H λx H1=>Q (.bl (!decide (x=.non))) H1
theorem RelV.none_iff{x:V}{v:QM}(r:RelV x v):(v==Value.none)=decide (x=.non):=by
 cases x with
 |non=>cases r;rfl
 |bl _=>cases r;rfl
 |int _=>obtain⟨t,rfl⟩:=r;rfl
 |str _=>obtain⟨t,rfl⟩:=r;rfl
 |byt _=>obtain⟨t,rfl⟩:=r;rfl
 |flt _=>obtain⟨t,rfl⟩:=r;rfl
 |ref _=>cases r;rfl
 |ty _=>cases r;rfl
theorem zF{j pos'}(ha:PE X a ta):PC X .Is a (.Constant .none j pos') (J2 ta):=by
 intro pins s σ H Q I h;refine bU (ha pins s σ H _ I h) λv s1 ⟨x,H1,I1,r1,q1⟩=>?_;exact Rh (is_none_gen ⟨.bl _,H1,I1,by rw[r1.none_iff];rfl,q1⟩)
theorem wq{j pos'}(ha:PE X a ta):PC X .IsNot a (.Constant .none j pos') (HA ta):=by
 intro pins s σ H Q I h;refine bU (ha pins s σ H _ I h) λv s1 ⟨x,H1,I1,r1,q1⟩=>?_;exact Rh (isnot_none_gen ⟨.bl _,H1,I1,by rw[r1.none_iff];rfl,q1⟩)
noncomputable def tB(t:TE):TT:=λσ H Q=>t σ H λx H1=>∃c,x=.bl c/\Q c H1
theorem yW{op:Ri}{t:TE}(h:PC X op a b t)(h1:Rk op b=false:=by first|exact tE _ (by decide) (by decide)|rfl):PE X (.Compare a [op] [b] pos) t:=λpins s σ H Q I hw=>wpAny_Compare1 (h pins s σ H Q I hw) h1
theorem Bb{op:Ri}{t:TE}(h:PC X op a b t)(h1:Rk op b=false:=by first|exact tE _ (by decide) (by decide)|rfl):PT X (.Compare a [op] [b] pos) (tB t):=by
 intro pins s σ H Q I hw;refine wpAny_isTrue_Compare1 (bU (h pins s σ H _ I hw) λv s1 h1=>bU h1 λu s2 h2=>bU h2 λc s3 ⟨x,H1,I1,r1,q1⟩=>?_) h1;obtain⟨d,rfl,q⟩:=q1;cases r1;exact Rl ⟨H1,I1,q⟩
variable{tA tB':TT}{rest:aR}
noncomputable def Lb(t u:TT):TT:=λσ H Q=>t σ H λc H1=>if c=true then u σ H1 Q else Q false H1
noncomputable def LX(t u:TT):TT:=λσ H Q=>t σ H λc H1=>if c=true then Q true H1 else u σ H1 Q
noncomputable def KO(t:TT):TT:=λσ H Q=>t σ H λc H1=>Q (!c) H1
theorem CD(ha:PT X a tA):PW X (.BoolOp .And [a] pos) tA:=by
 intro wh pins s σ H Q I h;refine isTrue_and (bU (ha pins s σ H Q I h) λc s1 e=>?_);cases c with
 |true=>exact isTrue_and_nil e
 |false=>exact e
theorem Fu(ha:PT X a tA):PW X (.BoolOp .Or [a] pos) tA:=by
 intro wh pins s σ H Q I h;refine isTrue_or (bU (ha pins s σ H Q I h) λc s1 e=>?_);cases c with
 |false=>exact isTrue_or_nil e
 |true=>exact e
theorem Gs(ha:PT X a tA)(hb:PW X (.BoolOp .And (b::rest) pos) tB'):PW X (.BoolOp .And (a::b::rest) pos) (Lb tA tB'):=by
 intro wh pins s σ H Q I h;refine isTrue_and (bU (ha pins s σ H _ I h) λc s1 ⟨H1,I1,q1⟩=>?_);cases c with
 |true=>exact hb wh pins s1 σ H1 Q I1 q1
 |false=>exact⟨H1,I1,q1⟩
theorem Iz(ha:PT X a tA)(hb:PW X (.BoolOp .Or (b::rest) pos) tB'):PW X (.BoolOp .Or (a::b::rest) pos) (LX tA tB'):=by
 intro wh pins s σ H Q I h;refine isTrue_or (bU (ha pins s σ H _ I h) λc s1 ⟨H1,I1,q1⟩=>?_);cases c with
 |true=>exact⟨H1,I1,q1⟩
 |false=>exact hb wh pins s1 σ H1 Q I1 q1
theorem Fp(ha:PT X a tA):PT X (.UnaryOp .Not a pos) (KO tA):=by
 intro pins s σ H Q I h;exact isTrue_not (ha pins s σ H (λc H1=>Q (!c) H1) I h)
noncomputable def HC(ta tb:TE):TE:=λσ H Q=>ta σ H λx H1=>∃c,x=.bl c/\if c=true then tb σ H1 Q else Q (.bl false) H1
noncomputable def KA(ta tb:TE):TE:=λσ H Q=>ta σ H λx H1=>∃c,x=.bl c/\if c=true then Q (.bl true) H1 else tb σ H1 Q
noncomputable def Hu(ta:TE):TE:=λσ H Q=>ta σ H λx H1=>∃c,x=.bl c/\Q (.bl (!c)) H1
theorem EH{op}{t:TE}(h:PE X a t):PE X (.BoolOp op [a] pos) t:=λpins s σ H Q I hw=>BoolOp_one (h pins s σ H Q I hw)
theorem Gd(ha:PE X a ta)(hb:PE X (.BoolOp .And (b::rest) pos) tb):PE X (.BoolOp .And (a::b::rest) pos) (HC ta tb):=by
 intro pins s σ H Q I h;refine BoolOp_and (bU (ha pins s σ H _ I h) λv s1 ⟨x,H1,I1,r1,q1⟩=>?_);obtain⟨c,rfl,q1⟩:=q1;cases r1;refine Rl ?_;cases c with
 |true=>exact hb pins s1 σ H1 Q I1 q1
 |false=>exact⟨.bl false,H1,I1,rfl,q1⟩
theorem HH(ha:PE X a ta)(hb:PE X (.BoolOp .Or (b::rest) pos) tb):PE X (.BoolOp .Or (a::b::rest) pos) (KA ta tb):=by
 intro pins s σ H Q I h;refine BoolOp_or (bU (ha pins s σ H _ I h) λv s1 ⟨x,H1,I1,r1,q1⟩=>?_);obtain⟨c,rfl,q1⟩:=q1;cases r1;refine Rl ?_;cases c with
 |false=>exact hb pins s1 σ H1 Q I1 q1
 |true=>exact⟨.bl true,H1,I1,rfl,q1⟩
theorem Gy(ha:PE X a ta):PE X (.UnaryOp .Not a pos) (Hu ta):=by
 intro pins s σ H Q I h;refine UnaryOp_ (bU (ha pins s σ H _ I h) λv s1 ⟨x,H1,I1,r1,q1⟩=>?_);obtain⟨c,rfl,q1⟩:=q1;cases r1;exact not_of (Rl ⟨.bl (!c),H1,I1,rfl,q1⟩)
noncomputable def MZ(t:TT)(ta tb:TE):TE:=λσ H Q=>t σ H λc H1=>if c=true then ta σ H1 Q else tb σ H1 Q
theorem zK{c:QP}(hc:PT X c tA)(ha:PE X a ta)(hb:PE X b tb):PE X (.IfExp c a b pos) (MZ tA ta tb):=by
 intro pins s σ H Q I h;refine wpAny_IfExp (bU (hc pins s σ H _ I h) λd s1 ⟨H1,I1,q1⟩=>?_);cases d with
 |true=>exact ha pins s1 σ H1 Q I1 q1
 |false=>exact hb pins s1 σ H1 Q I1 q1
end
noncomputable def ju(K:Pn)(H:Hp)(a:QO)(xs:aH):Prop:=
 Rd H a (.lst xs) \/
  ∃(o:Obj)(its:Array QM)(n:Nat),K.lookup a=some o/\o.cls=.type "list"/\o.dict=none/\o.data=.seq its n/\its.size<=QW/\Vals xs its.toList
noncomputable def lu(K:Pn)(H:Hp)(a:QO)(xs:aH):Prop:=
 Rd H a (.tup xs) \/
  ∃(o:Obj)(its:Array QM)(n:Nat),K.lookup a=some o/\o.cls=.type "tuple"/\o.data=.seq its n/\its.size<=QW/\Vals xs its.toList
noncomputable def Kn:QM->Option V
 |.none=>some .non
 |.bool b=>some (.bl b)
 |.int i _=>some (.int i)
 |.str x _=>some (.str x)
 |.bytes b _=>some (.byt b)
 |.float b _=>some (.flt b)
 |.ref a=>some (.ref a)
 |.type n=>some (.ty n)
 |_=>none
theorem RelV.abs{x:V}{u:QM}(r:RelV x u):Kn u=some x:=by
 cases x with
 |non=>cases r;rfl
 |bl _=>cases r;rfl
 |int _=>obtain⟨t,rfl⟩:=r;rfl
 |str _=>obtain⟨t,rfl⟩:=r;rfl
 |byt _=>obtain⟨t,rfl⟩:=r;rfl
 |flt _=>obtain⟨t,rfl⟩:=r;rfl
 |ref _=>cases r;rfl
 |ty _=>cases r;rfl
theorem RelV.inj{x y:V}{u:QM}(r:RelV x u)(q:RelV y u):x=y:=Option.some.inj (r.abs.symm.trans q.abs)
theorem Vals.inj:∀{xs ys:aH}{us:aS},Vals xs us->Vals ys us->xs=ys
 |_,_,_,.nil,.nil=>rfl
 |_,_,_,.cons r t,.cons r' t'=>by rw[r.inj r',Vals.inj t t']
section
variable{X:Cx}{pins:aM}{σ:St}{H:Hp}{s:QR}{a:QO}{xs ys:aH}
theorem ju.of{K:Pn}(h:H a=some (.lst xs)):ju K H a xs:=.inl (.inl h)
theorem lu.of{K:Pn}(h:H a=some (.tup xs)):lu K H a xs:=.inl (.inl h)
theorem Inv.list(I:Inv X pins σ H s)(h:ju X.K H a xs):∃its:aS,Vals xs its/\PlainL s.heap a its.toArray/\xs.length<=QW:=by
 rcases h with h|⟨o,its,n,hk,hc,hd,hs,hz,r⟩
 ·obtain⟨z,its,n,r,e⟩:=h.ok I.hok;exact⟨its,r,⟨_,n,e,rfl,rfl,rfl⟩,z⟩
 ·refine⟨its.toList,r,⟨o,n,I.kIn a o hk,hc,hd,by simpa using hs⟩,?_⟩;have e:=r.length;simp only[Array.length_toList]at e;omega
theorem Inv.tuple(I:Inv X pins σ H s)(h:lu X.K H a xs):∃its:aS,Vals xs its/\IsTup s.heap a its.toArray/\xs.length<=QW:=by
 rcases h with h|⟨o,its,n,hk,hc,hs,hz,r⟩
 ·obtain⟨z,its,r,p⟩:=h.ok I.hok;exact⟨its,r,p,z⟩
 ·refine⟨its.toList,r,⟨o,I.kIn a o hk,hc,n,by simpa using hs⟩,?_⟩;have e:=r.length;simp only[Array.length_toList]at e;omega
theorem Inv.list_inj(I:Inv X pins σ H s)(h:ju X.K H a xs)(h':ju X.K H a ys):xs=ys:=by
 obtain⟨its,r,⟨o,n,e,_,_,d⟩,_⟩:=I.list h;obtain⟨its',r',⟨o',n',e',_,_,d'⟩,_⟩:=I.list h';rw[e]at e';cases e';rw[d]at d';injection d' with d1 _
 have:its=its':=by simpa using congrArg Array.toList d1
 subst this;exact r.inj r'
theorem Inv.tuple_inj(I:Inv X pins σ H s)(h:lu X.K H a xs)(h':lu X.K H a ys):xs=ys:=by
 obtain⟨its,r,⟨o,e,_,n,d⟩,_⟩:=I.tuple h;obtain⟨its',r',⟨o',e',_,n',d'⟩,_⟩:=I.tuple h';rw[e]at e';cases e';rw[d]at d';injection d' with d1 _
 have:its=its':=by simpa using congrArg Array.toList d1
 subst this;exact r.inj r'
end
noncomputable abbrev Cx.wish(X:Cx)(E:aW):Cx:={X with xe:=E}
noncomputable abbrev Cx.nox(X:Cx):Cx:=X.wish λ_ _=>False
theorem Cx.Ok.wish{X:Cx}(ok:X.Ok)(E:aW):(X.wish E).Ok:=
 ⟨ok.mod,ok.kind,ok.glob,ok.blt,ok.above,ok.inj,ok.has,ok.cab,ok.hd,ok.frames,ok.stk,ok.exf,ok.bs,ok.bsz,ok.noex,ok.exfs,ok.funs,ok.frf⟩
theorem Cx.Ok.unwish{X:Cx}{E:aW}(ok:(X.wish E).Ok):X.Ok:=
 ⟨ok.mod,ok.kind,ok.glob,ok.blt,ok.above,ok.inj,ok.has,ok.cab,ok.hd,ok.frames,ok.stk,ok.exf,ok.bs,ok.bsz,ok.noex,ok.exfs,ok.funs,ok.frf⟩
section
variable{X:Cx}{pins:aM}{σ:St}{H:Hp}{s:QR}{E:aW}
theorem Inv.wish(I:Inv X pins σ H s)(E:aW):Inv (X.wish E) pins σ H s:=⟨I.ok.wish E,I.os,I.bare,I.base,I.loc,I.cell,I.free,I.freeC,I.pin,I.hok,I.len⟩
theorem Inv.unwish(I:Inv (X.wish E) pins σ H s):Inv X pins σ H s:=⟨I.ok.unwish,I.os,I.bare,I.base,I.loc,I.cell,I.free,I.freeC,I.pin,I.hok,I.len⟩
theorem SP.unwish{D:Ends}{f:Flow}{s':QR}(h:SP (X.wish E) pins D f s'):SP X pins D f s':=by
 cases f with
 |next=>obtain⟨σ',H',I,q⟩:=h;exact⟨σ',H',I.unwish,q⟩
 |brk=>obtain⟨σ',H',I,q⟩:=h;exact⟨σ',H',I.unwish,q⟩
 |cont=>obtain⟨σ',H',I,q⟩:=h;exact⟨σ',H',I.unwish,q⟩
 |ret u=>obtain⟨v,σ',H',I,r,q⟩:=h;exact⟨v,σ',H',I.unwish,r,q⟩
theorem pR.nox{st:cF}{t:TS}(h:pR X.nox st t):pR X st t:=λpins s σ H D I hw=>
 Rg (h pins s σ H D (I.wish _) hw) (λ_ _ q=>q.unwish) λ_ _ z=>False.elim z
end
section
variable{X:Cx}{st:QQ}{rest:cF}{t u:TS}{e:QP}{te:TE}{pos:Pos}
noncomputable def zU:TS:=λD σ H=>D.nx σ H
noncomputable def KJ(t u:TS):TS:=λD σ H=>t {D with nx:=u D} σ H
theorem vi:pR X [] zU:=λ_ _ σ H _ I h=>Rm ⟨σ,H,I,h⟩
theorem oh(h1:PS X st t)(h2:pR X rest u):pR X (st::rest) (KJ t u):=by
 intro pins s σ H D I h;refine wpAny_execs_cons (bU (h1 pins s σ H {D with nx:=u D} I h) λf s1 q=>?_);cases f with
 |next=>
  obtain⟨σ',H',I',q⟩:=q;exact h2 pins s1 σ' H' D I' q
 |ret v=>exact q
 |brk=>exact q
 |cont=>exact q
theorem qU(h1:PS X st t):pR X [st] t:=by
 intro pins s σ H D I h;refine wpAny_execs_cons (bU (h1 pins s σ H D I h) λf s1 q=>?_);cases f with
 |next=>exact Rm q
 |ret v=>exact q
 |brk=>exact q
 |cont=>exact q
theorem Dc:PS X (.Pass pos) zU:=λ_ _ σ H _ I h=>wpAny_Pass ⟨σ,H,I,h⟩
theorem Inv.quiet{pins:aM}{σ:St}{H:Hp}{s:QR}(I:Inv X pins σ H s):interactive X.env=false:=by simp[interactive,I.ok.kind]
theorem Fb{x j pos pos'}:PS X (.Expr (.Constant (.str x) j pos) pos') zU:=λ_ s σ H _ I h=>wpAny_Expr (Calls.Constant_str (show SP X _ _ .next {s with toks:=s.toks+1}from⟨σ,H,I.tok _,h⟩)) I.quiet
noncomputable def Ii(te:TE):TS:=λD σ H=>te σ H λ_ H1=>D.nx σ H1
theorem vN(he:PE X e te)(hs:swapsWith e none pos.line X.env=pure false:=by rfl):PS X (.Expr e pos) (Ii te):=by
 intro pins s σ H D I h;exact wpAny_Expr_any (bU (he pins s σ H _ I h) λv s1 ⟨x,H1,I1,r1,q1⟩=>⟨σ,H1,I1,q1⟩) I.quiet hs
noncomputable def Ju(te:TE):TS:=λD σ H=>te σ H D.rt
theorem EG(he:PE X e te):PS X (.Return (some e) pos) (Ju te):=by
 intro pins s σ H D I h;exact wpAny_Return_some (bU (he pins s σ H _ I h) λv s1 ⟨x,H1,I1,r1,q1⟩=>⟨x,σ,H1,I1,r1,q1⟩)
noncomputable def Kt(c:TT)(t u:TS):TS:=λD σ H=>c σ H λb H1=>if b=true then t D σ H1 else u D σ H1
theorem HF{c:QP}{a b:cF}{tc:TT}(hc:PT X c tc)(ha:pR X a t)(hb:pR X b u):PS X (.If c a b pos) (Kt tc t u):=by
 intro pins s σ H D I h;refine wpAny_If (bU (hc pins s σ H _ I h) λd s1 ⟨H1,I1,q1⟩=>?_);cases d with
 |true=>exact ha pins s1 σ H1 D I1 q1
 |false=>exact hb pins s1 σ H1 D I1 q1
end
noncomputable abbrev TG:=V->St->Hp->(St->Hp->Prop)->Prop
noncomputable abbrev Ec:=List V->St->Hp->(St->Hp->Prop)->Prop
noncomputable def PG(X:Cx)(target:QP)(t:TG):Prop:=
 ∀(pins:aM)(s:QR)(σ:St)(H:Hp)(v:V)(u:QM)(Q:St->Hp->Prop),Inv X pins σ H s->RelV v u->t v σ H Q->
  Rc (model X.prog X.w) X.A (assign target X.env u) (λ_ s'=>∃σ' H',Inv X pins σ' H' s'/\Q σ' H') X.xe s
noncomputable def HK(X:Cx)(ts:aR)(t:Ec):Prop:=
 ∀(pins:aM)(s:QR)(σ:St)(H:Hp)(vs:aH)(us:aS)(Q:St->Hp->Prop),Inv X pins σ H s->Vals vs us->t vs σ H Q->
  Rc (model X.prog X.w) X.A (assignInOrder ((assignEach ts X.env).map (·.2)) us) (λ_ s'=>∃σ' H',Inv X pins σ' H' s'/\Q σ' H') X.xe s
section
variable{X:Cx}{pos:Pos}
noncomputable def o7(i:Nat):TG:=λv σ H Q=>Q (σ.set i (some v)) H
theorem B4{i:Nat}{x:Str}(hN:X.N.Nodup)(hi:X.N[i]?=some x)(hx:Loc X.env.scope x)(hf:X.fn x=true\/X.env.scope.names.lookup x=some .local:=by first|exact .inl rfl|exact .inr rfl|assumption):PG X (.Name x pos) (o7 i):=by
 intro pins s σ H v u Q I r h;exact wpAny_assign_Name (nG I hN hi hx r (λs' I'=>⟨_,H,I',h⟩) hf)
noncomputable def J8:Ec:=λvs σ H Q=>vs=[]/\Q σ H
noncomputable def Ib(t:TG)(u:Ec):Ec:=λvs σ H Q=>∃v r,vs=v::r/\t v σ H λσ' H'=>u r σ' H' Q
theorem B6:HK X [] J8:=by
 intro pins s σ H vs us Q I r h;obtain⟨e,h⟩:=h;subst e;cases r;exact assignInOrder_nil ⟨σ,H,I,h⟩
theorem AK{e:QP}{es:aR}{t:TG}{u:Ec}(h1:PG X e t)(h2:HK X es u)
  (hs:(assignEach (e::es) X.env).map (·.2)=assign e X.env::(assignEach es X.env).map (·.2):=by rfl):HK X (e::es) (Ib t u):=by
 intro pins s σ H vs us Q I r h;obtain⟨v,vr,e1,h⟩:=h;subst e1;cases r with
 |cons r rr=>
  rw[hs];refine assignInOrder_cons (bU (h1 pins s σ H _ _ _ I r h) λ_ s1 ⟨σ1,H1,I1,q1⟩=>?_);exact h2 pins s1 σ1 H1 _ _ Q I1 rr q1
noncomputable def KZ(K:Pn)(n:Nat)(t:Ec):TG:=λv σ H Q=>∃a xs,v=.ref a/\lu K H a xs/\xs.length=n/\t xs σ H Q
theorem Gi{es:aR}{k:Nat}{t:Ec}{n:Nat}(hc:X.calm=true)(h:HK X es t)
  (hn:(assignEach es X.env).length=n:=by rfl) (hst:(assignEach es X.env).findIdx? (·.1)=none:=by rfl):PG X (.Tuple es k pos) (KZ X.K n t):=by
 intro pins s σ H v u Q I r hw;obtain⟨a,xs,e1,hq,hl,hw⟩:=hw;subst e1;cases r;obtain⟨its,rv,ht,hz⟩:=I.tuple hq;refine assign_Tuple_tuple (I.ok.hd hc) ht (by simp[hn,<-hl,rv.length]) hst λh' hx=>?_;have I1:Inv X pins σ H {s with heap:=h'}:=I.kept (t':=s.toks) λb o e=>hx b o (Nc (Qm e)) e;exact h pins _ σ H xs _ Q I1 (by simpa using rv) hw
noncomputable def yY(te:TE)(g:TG):TS:=λD σ H=>te σ H λx H1=>g x σ H1 D.nx
theorem FQ{tg e:QP}{te:TE}{g:TG}(he:PE X e te)(hg:PG X tg g)(hs:swapsWithSole [tg] e pos.line X.env=pure false:=by rfl)(hw:swappedStores [tg] e X.env=pure none:=by rfl)
  (h1:(assignEach [tg] X.env).map (·.2)=[assign tg X.env]:=by rfl):PS X (.Assign [tg] e pos) (yY te g):=by
 intro pins s σ H D I h;refine wpAny_Assign_stores (bU (he pins s σ H _ I h) λv s1 ⟨x,H1,I1,r1,q1⟩=>?_) hs hw;rw[h1];exact bU (hg pins s1 σ H1 x v _ I1 r1 q1) λ_ s2 q=>q
theorem zp{i:Nat}{x:Str}{e:QP}{te:TE}{pos':Pos}(hN:X.N.Nodup)(hi:X.N[i]?=some x)(hx:Loc X.env.scope x)(he:PE X e te)(hs:swapsWith e (some (.Name x pos')) pos.line X.env=pure false:=by rfl)(hf:X.fn x=true\/X.env.scope.names.lookup x=some .local:=by first|exact .inl rfl|exact .inr rfl|assumption):
  PS X (.Assign [.Name x pos'] e pos) (yY te (o7 i)):=by
 intro pins s σ H D I h;refine wpAny_Assign_Name (bU (he pins s σ H _ I h) λv s1 ⟨y,H1,I1,r1,q1⟩=>?_) hs;exact nG I1 hN hi hx r1 (λs2 I2=>⟨_,H1,I2,q1⟩) hf
end
section
variable{X:Cx}{pos:Pos}
noncomputable def EF(c:TT)(tb:TS):TS:=λD σ H=>∃W:Nat->St->Hp->Prop,(∃m,W m σ H)/\∀m σ H,W m σ H->
 c σ H λb H1=>if b=true then∃N:St->Hp->Prop,(∀σ' H',N σ' H'->∃m',m'<m/\W m' σ' H')/\tb {D with nx:=N,ct:=N,bk:=D.nx} σ H1 else D.nx σ H1
theorem zt{c:QP}{body:cF}{tc:TT}{tb:TS}(hp:Rn (model X.prog X.w) X.A X.env X.xe)(hc:PT X c tc)(hb:pR X body tb):PS X (.While c body [] pos) (EF tc tb):=by
 intro pins s σ H D I h;obtain⟨W,⟨m0,w0⟩,turn⟩:=h;refine wpAny_While (codeAny_whileLoop (λn s'=>∃σ' H',Inv X pins σ' H' s'/\W n σ' H') ?_ m0 ⟨σ,H,I,w0⟩);rintro n s1 ⟨σ1,H1,I1,w1⟩;refine Ro hp (bU (hc pins s1 σ1 H1 _ I1 (turn n σ1 H1 w1)) λb s2 ⟨H2,I2,q2⟩=>?_);cases b with
 |true=>
  obtain⟨N,hN,q2⟩:=q2;rw[if_pos rfl];refine Ro hp (bU (hb pins s2 σ1 H2 _ I2 q2) λf s3 q3=>?_);cases f with
  |next=>
   obtain⟨σ3,H3,I3,n3⟩:=q3;obtain⟨m',hm,w3⟩:=hN σ3 H3 n3;exact⟨m',hm,σ3,H3,I3,w3⟩
  |cont=>
   obtain⟨σ3,H3,I3,n3⟩:=q3;obtain⟨m',hm,w3⟩:=hN σ3 H3 n3;exact⟨m',hm,σ3,H3,I3,w3⟩
  |brk=>exact q3
  |ret v=>exact q3
 |false=>
  rw[if_neg Nq];exact Rm ⟨σ1,H2,I2,q2⟩
end
structure It where
 go:Nat->Hp->Prop
 yld:Nat->Hp->V->Hp->Prop
 stop:Nat->Hp->Prop
noncomputable def oM(X:Cx)(pins:aM)(H:Hp)(b:QO):Prop:=
 H b=none/\b≠X.env.locals/\b∉X.fs/\(b∈X.ex\/X.s₀.heap.objs.size<=b)/\(∀x c,X.env.cells.lookup x=some c->c≠b)/\∀p∈X.pn++pins,p.1≠b
theorem Inv.fpOk{X:Cx}{pins:aM}{σ:St}{H H':Hp}{s:QR}{b:QO}(I:Inv X pins σ H s)(hb:s.heap.objs.size<=b)(hn:H' b=none):oM X pins H' b:=by
 refine⟨hn,Nr (M9 I.lt hb),I.nofs hb,.inr (Nf I.sz hb),λx c e z=>?_,λp hp z=>?_⟩
 ·obtain⟨v,q⟩:=I.cell x c e;exact absurd (M9 q.lt (by rw[z];exact hb)) (Nb _)
 ·exact absurd (M9 (Qm (I.pin p hp).1) (by rw[z];exact hb)) (Nb _)
structure Turn(P:QT)(w:QS)(K:Pn)(tg:QP)(J:It)(fp:aD)(it:QO)(tn:Nat->QV->Prop):Prop where
 mem:it∈fp
 obj:∀i h,tn i h->∀b∈fp,∃o,h.get? b=some o/\∀v,o.data≠.cell v
 keep:∀i h h',tn i h->(∀b∈fp,∀o,h.get? b=some o->h'.get? b=some o)->tn i h'
 item:∀(X:Cx),X.prog=P->X.w=w->X.K=K->X.calm=true->∀(i:Nat)(pins:aM)(s:QR)(σ:St)(H:Hp)(E:aW),Inv X pins σ H s->(∀b∈fp,oM X pins H b)->tn i s.heap->J.go i H->
  Rc (model P w) X.A (pyNext (.ref it)) (λr s1=>∃u,r=some u/\
   Rc (model P w) X.A (letOwnedTupleGo tg (.ref it) u) (λ_ s2=>∃x H',Inv X pins σ H' s2/\RelV x u/\J.yld i H x H'/\tn (i+1) s2.heap/\∀b∈fp,H' b=none) E s1) E s
 done:∀(X:Cx),X.prog=P->X.w=w->X.K=K->X.calm=true->∀(i:Nat)(pins:aM)(s:QR)(σ:St)(H:Hp)(E:aW),Inv X pins σ H s->(∀b∈fp,oM X pins H b)->tn i s.heap->J.stop i H->
  Rc (model P w) X.A (pyNext (.ref it)) (λr s1=>r=none/\Inv X pins σ H s1) E s
 self:∀(A:QZ)(i:Nat)(s:QR)(Q:aW)(E:aW),tn i s.heap->Q (.ref it) s->Rc (model P w) A (pyIter (.ref it)) Q E s
noncomputable abbrev TI:=St->Hp->(It->Hp->Prop)->Prop
noncomputable def PIE(X:Cx)(pins:aM)(σ:St)(tg:QP)(R:It->Hp->Prop)(itv:QM)(s2:QR):Prop:=
 ∃(it:QO)(fp:aD)(tn:Nat->QV->Prop)(J:It)(H':Hp),itv=.ref it/\Inv X pins σ H' s2/\Turn X.prog X.w X.K tg J fp it tn/\tn 0 s2.heap/\(∀b∈fp,oM X pins H' b)/\R J H'
noncomputable def PI(X:Cx)(tg iter:QP)(wi:TI):Prop:=
 ∀(pins:aM)(s:QR)(σ:St)(H:Hp)(R:It->Hp->Prop),Inv X pins σ H s->wi σ H R->
  Rc (model X.prog X.w) X.A (eval iter X.env) (λv s1=>Rc (model X.prog X.w) X.A (pyIter v) (PIE X pins σ tg R) X.xe s1) X.xe s
theorem yT{M:Rb}{A:QZ}{E:aW}{s:QR}{tg:QP}{it:QO}{u:QM}{o:Obj}{n:String}{vs:Array QM}{Q:Unit->eI}(ho:s.heap.get? it=some o)(hc:o.cls=.type n)(hd:o.data=.fields vs)
    (hn:["enumerate","zip","dict_itemiterator","dict_reverseitemiterator","odict_iterator","itertools.zip_longest","itertools.pairwise"].contains n=false) (hQ:Q () s):Rc M A (letOwnedTupleGo tg (.ref it) u) Q E s:=by
  unfold letOwnedTupleGo;cases tg<;>first
    |exact Rp hQ
    | (cases u <;> first
        |exact Rp hQ
        | (refine Rq (wpAny_load ho ?_)
           rw[hc,hd];show Rc M A (if(["enumerate","zip","dict_itemiterator","dict_reverseitemiterator","odict_iterator","itertools.zip_longest","itertools.pairwise"].contains n&&vs[0]?==some (rawInt _))=true then _ else _) Q E s;rw[if_neg (by intro h;rw[hn,Bool.false_and]at h;cases h)];exact Rp hQ))
noncomputable def J0(K:Pn)(a:QO):It:=
 ⟨λi H=>∃xs x,ju K H a xs/\xs[i]?=some x,λi H x H'=>H'=H/\∀xs,ju K H a xs->xs[i]?=some x,λi H=>∃xs,ju K H a xs/\xs.length<=i⟩
noncomputable def Kz(K:Pn)(a:QO):It:=
 ⟨λi H=>∃xs x,lu K H a xs/\xs[i]?=some x,λi H x H'=>H'=H/\∀xs,lu K H a xs->xs[i]?=some x,λi H=>∃xs,lu K H a xs/\xs.length<=i⟩
noncomputable def IK(lo:Int)(n:Nat):It:=⟨λi _=>i<n,λi H x H'=>H'=H/\x=.int (lo+i),λi _=>n<=i⟩
theorem xR{P:QT}{w:QS}{K:Pn}{tg:QP}(a it:QO):Turn P w K tg (J0 K a) [it] it (λi h=>h.IsListIter it a i)where
 mem:=by simp
 obj:=λi h st b hb=>by
  have e:b=it:=by simpa using hb
  subst e;obtain⟨o,e,c,d⟩:=st;exact⟨o,e,λv z=>by rw[d]at z;cases z⟩
 keep:=λi h h' st k=>st.at λo e=>k it (by simp) o e
 item:=by
  intro X hP hw hK hc i pins s σ H E I hf st hg;subst hP hw hK;obtain⟨xs,x,hq,hx⟩:=hg;obtain⟨its,rv,p,hz⟩:=I.list hq;obtain⟨u,hu,ru⟩:=rv.get hx;obtain⟨f0,f1,f2,f3,f4,f5⟩:=hf it (by simp);refine wpAny_pyNext_list_item st p.isList (x:=u) (by simpa using hu) λh' st' sb=>?_;have I1:Inv X pins σ H {s with heap:=h'}:=I.turned (t':=s.toks) (λb o hb e=>(sb.2 b hb).trans e) f0 f1 f3 f4 f5;obtain⟨o,e,c,d⟩:=id st';exact⟨u,rfl,yT (s:={s with heap:=h'}) e c d (by decide) ⟨x,H,I1,ru,⟨rfl,λys hy=>by rw[I.list_inj hy hq];exact hx⟩,st',λb hb=>(hf b hb).1⟩⟩
 done:=by
  intro X hP hw hK hc i pins s σ H E I hf st hg;subst hP hw hK;obtain⟨xs,hq,hx⟩:=hg;obtain⟨its,rv,p,hz⟩:=I.list hq;obtain⟨f0,f1,f2,f3,f4,f5⟩:=hf it (by simp);have hl:=rv.length;exact wpAny_pyNext_list_end (I.ok.hd hc) st p.isList (by simp;omega) λh' eb=>⟨rfl,I.turned (t':=s.toks) (λb o hb e=>eb b o hb e) f0 f1 f3 f4 f5⟩
 self:=λ_ _ _ _ _ st h=>wpAny_pyIter_listiter st h
theorem uG{P:QT}{w:QS}{K:Pn}{tg:QP}(a it:QO):Turn P w K tg (Kz K a) [it] it (λi h=>h.IsTupleIter it a i)where
 mem:=by simp
 obj:=λi h st b hb=>by
  have e:b=it:=by simpa using hb
  subst e;obtain⟨o,e,c,d⟩:=st;exact⟨o,e,λv z=>by rw[d]at z;cases z⟩
 keep:=λi h h' st k=>st.at λo e=>k it (by simp) o e
 item:=by
  intro X hP hw hK hc i pins s σ H E I hf st hg;subst hP hw hK;obtain⟨xs,x,hq,hx⟩:=hg;obtain⟨its,rv,p,hz⟩:=I.tuple hq;obtain⟨u,hu,ru⟩:=rv.get hx;obtain⟨f0,f1,f2,f3,f4,f5⟩:=hf it (by simp);refine wpAny_pyNext_tuple_item st (show s.heap.IsTuple a its.toArray from p) (x:=u) (by simpa using hu) λh' st' sb=>?_;have I1:Inv X pins σ H {s with heap:=h'}:=I.turned (t':=s.toks) (λb o hb e=>(sb.2 b hb).trans e) f0 f1 f3 f4 f5;obtain⟨o,e,c,d⟩:=id st';exact⟨u,rfl,yT (s:={s with heap:=h'}) e c d (by decide) ⟨x,H,I1,ru,⟨rfl,λys hy=>by rw[I.tuple_inj hy hq];exact hx⟩,st',λb hb=>(hf b hb).1⟩⟩
 done:=by
  intro X hP hw hK hc i pins s σ H E I hf st hg;subst hP hw hK;obtain⟨xs,hq,hx⟩:=hg;obtain⟨its,rv,p,hz⟩:=I.tuple hq;obtain⟨f0,f1,f2,f3,f4,f5⟩:=hf it (by simp);have hl:=rv.length;exact wpAny_pyNext_tuple_end (I.ok.hd hc) st (show s.heap.IsTuple a its.toArray from p) (by simp;omega) λh' eb=>⟨rfl,I.turned (t':=s.toks) (λb o hb e=>eb b o hb e) f0 f1 f3 f4 f5⟩
 self:=λ_ _ _ _ _ st h=>wpAny_pyIter_tupleiter st h
theorem uN{P:QT}{w:QS}{K:Pn}{tg:QP}(it:QO)(lo:Int)(n:Nat):Turn P w K tg (IK lo n) [it] it (λi h=>IsRangeIter h it (lo+(i:Nat)*1) ((n:Int)-(i:Nat)) 1)where
 mem:=by simp
 obj:=λi h st b hb=>by
  have e:b=it:=by simpa using hb
  subst e;exact⟨_,st,λv z=>by
   have z':Data.fields _=Data.cell v:=z;cases z'⟩
 keep:=λi h h' st k=>k it (by simp) _ st
 item:=by
  intro X hP hw hK hc i pins s σ H E I hf st hg;subst hP hw hK;obtain⟨f0,f1,f2,f3,f4,f5⟩:=hf it (by simp);have W:=Walks.range (prog:=X.prog) (w:=X.w) (I.ok.hd hc) it lo 1 n;refine W.item i s _ _ hg st λv h' tk hv st' kk=>?_;obtain⟨t,rfl⟩:=hv;have I1:Inv X pins σ H {s with heap:=h',toks:=tk}:=I.turned (λb o hb e=>kk b o (by simpa using hb) e) f0 f1 f3 f4 f5;refine⟨_,rfl,yT (s:={s with heap:=h',toks:=tk}) (n:="range_iterator") st' rfl rfl (by decide) ⟨.int (lo+i),H,I1,⟨t,?_⟩,⟨rfl,rfl⟩,st',λb hb=>(hf b hb).1⟩⟩;rw[Int.mul_one]
 done:=by
  intro X hP hw hK hc i pins s σ H E I hf st hg;subst hP hw hK;obtain⟨f0,f1,f2,f3,f4,f5⟩:=hf it (by simp);exact wpAny_pyNext_range_end (I.ok.hd hc) st (by have:n<=i:=hg;omega) λh' eb=>⟨rfl,I.turned (t':=s.toks) (λb o hb e=>eb b o hb e) f0 f1 f3 f4 f5⟩
 self:=λ_ _ _ _ _ st h=>wpAny_pyIter_rangeiter st h
section
variable{X:Cx}{tg:QP}
noncomputable def Il(K:Pn)(tl:TE):TI:=λσ H R=>tl σ H λx H1=>∃a,x=.ref a/\(∃xs,ju K H1 a xs)/\R (J0 K a) H1
noncomputable def Kp(K:Pn)(tl:TE):TI:=λσ H R=>tl σ H λx H1=>∃a,x=.ref a/\(∃xs,lu K H1 a xs)/\R (Kz K a) H1
theorem vL{l:QP}{tl:TE}(hl:PE X l tl):PI X tg l (Il X.K tl):=by
 intro pins s σ H R I h;refine bU (hl pins s σ H _ I h) λv s1 ⟨x,H1,I1,r1,q1⟩=>?_;obtain⟨a,e,⟨xs,hq⟩,q⟩:=q1;subst e;cases r1;obtain⟨its,rv,p,hz⟩:=I1.list hq;refine Rr p.isList ?_;refine⟨s1.heap.objs.size,[s1.heap.objs.size],_,_,H1,rfl,I1.kept (t':=s1.toks) λb o e=>Qp _ e,xR a _,⟨_,Qq _ rfl,rfl,rfl⟩,λb hb=>?_,q⟩;have e:b=s1.heap.objs.size:=by simpa using hb
 subst e;exact I1.fpOk (Nt _) (I1.hok.fresh (Nt _))
theorem Gg{l:QP}{tl:TE}(hl:PE X l tl):PI X tg l (Kp X.K tl):=by
 intro pins s σ H R I h;refine bU (hl pins s σ H _ I h) λv s1 ⟨x,H1,I1,r1,q1⟩=>?_;obtain⟨a,e,⟨xs,hq⟩,q⟩:=q1;subst e;cases r1;obtain⟨its,rv,p,hz⟩:=I1.tuple hq;refine wpAny_pyIter_tuple (show s1.heap.IsTuple a its.toArray from p) ?_;refine⟨s1.heap.objs.size,[s1.heap.objs.size],_,_,H1,rfl,I1.kept (t':=s1.toks) λb o e=>Qp _ e,uG a _,⟨_,Qq _ rfl,rfl,rfl⟩,λb hb=>?_,q⟩;have e:b=s1.heap.objs.size:=by simpa using hb
 subst e;exact I1.fpOk (Nt _) (I1.hok.fresh (Nt _))
theorem zg{pins:aM}{σ:St}{H:Hp}{s:QR}{R:It->Hp->Prop}{E:aW}{lo hi:Int}{t u v:Tok}{tk:Nat}(I:Inv X pins σ H s)(h1:-(2^62)<=lo)(h2:lo<2^62)(h3:-(2^62)<=hi)(h4:hi<2^62)
  (q:R (IK lo (hi-lo).toNat) H):Rc (model X.prog X.w) X.A (pyIter (.ref s.heap.objs.size)) (PIE X pins σ tg R) E {s with heap:=s.heap.push {cls:=.type "range",data:=.fields #[.int lo t,.int hi u,.int 1 v]},toks:=tk}:=by
 refine wpAny_pyIter_range (IsRange.new ..) (small_one h1 h2 h3 h4) ?_;have I1:Inv X pins σ H {s with heap:=s.heap.push {cls:=.type "range",data:=.fields #[.int lo t,.int hi u,.int 1 v]},toks:=tk}:=I.kept λb o e=>Qp _ e;refine⟨(s.heap.push {cls:=.type "range",data:=.fields #[.int lo t,.int hi u,.int 1 v]}).objs.size,[(s.heap.push {cls:=.type "range",data:=.fields #[.int lo t,.int hi u,.int 1 v]}).objs.size],_,_,H,rfl,
  I1.kept (t':=tk) λb o e=>Qp _ e,uN _ lo (hi-lo).toNat,?_,λb hb=>?_,q⟩
 ·have e1:lo+((0:Nat):Int)*1=lo:=by simp
  have e2:(((hi-lo).toNat:Nat):Int)-((0:Nat):Int)=Builtin.Range.rangeSize lo hi 1:=by rw[rangeSize_one];split<;>omega
  show IsRangeIter _ _ (lo+((0:Nat):Int)*1) ((((hi-lo).toNat:Nat):Int)-((0:Nat):Int)) 1;rw[e1,e2];exact Qq _ rfl
 ·have e:b=(s.heap.push {cls:=.type "range",data:=.fields #[.int lo t,.int hi u,.int 1 v]}).objs.size:=by simpa using hb
  subst e;exact I1.fpOk (Nt _) (I1.hok.fresh (Nt _))
noncomputable def Iy(ta:TA):TI:=λσ H R=>ta σ H λvs H1=>∃j:Int,vs=[.int j]/\-(2^62)<=j/\j<2^62/\R (IK 0 j.toNat) H1
theorem xA{a:QP}{ta:TA}{p pos:Pos}(hg:Gl X "range")(hm:X.mg "range"=none)(ha:PA X [a] ta)(hs:Rf [a] X.env=[(false,eval a X.env)]:=by rfl):PI X tg (.Call (.Name "range" p) [a] [] pos) (Iy ta):=by
 intro pins s σ H R I h;refine Call_ (kI I hg hm boot_range (Qx (bU (ha pos pins s σ H _ I h) λus s1 ⟨vs,H1,I1,r1,q1⟩=>?_) hs rfl));obtain⟨j,e,q1,q2,q⟩:=q1;subst e;cases r1 with
 |cons r rr=>
  cases rr;obtain⟨t,rfl⟩:=r;exact call_range_1 (zg I1 ‹0› ‹0› q1 q2 (by simpa using q))
noncomputable def Ko(wi:TI)(g:TG)(tb:TS):TS:=λD σ H=>wi σ H λJ H1=>∃W:Nat->Nat->St->Hp->Prop,(∃m,W 0 m σ H1)/\∀i m σ H,W i m σ H->
 (J.stop i H/\D.nx σ H)\/(J.go i H/\∃N:St->Hp->Prop,(∀σ' H',N σ' H'->∃m',m'<m/\W (i+1) m' σ' H')/\∀x H',J.yld i H x H'->g x σ H' λσ2 H2=>tb {D with nx:=N,ct:=N,bk:=D.nx} σ2 H2)
noncomputable def ni(fp:aD)(h:QV):aM:=fp.filterMap λb=>(h.get? b).map λo=>(b,o)
theorem gX{fp:aD}{h:QV}{b:QO}{o:Obj}(hb:b∈fp)(e:h.get? b=some o):(b,o)∈ni fp h:=List.mem_filterMap.mpr ⟨b,hb,by rw[e];rfl⟩
theorem yh{fp:aD}{h:QV}{p:QO×Obj}(hp:p∈ni fp h):p.1∈fp/\h.get? p.1=some p.2:=by
 obtain⟨b,hb,e⟩:=List.mem_filterMap.mp hp;cases q:h.get? b with
 |none=>rw[q]at e;cases e
 |some o=>
  rw[q]at e;have e':(b,o)=p:=Option.some.inj e;subst e';exact⟨hb,q⟩
theorem Inv.pinned{pins:aM}{σ:St}{H:Hp}{s:QR}{fp:aD}(I:Inv X pins σ H s)(hf:∀b∈fp,oM X pins H b)(ho:∀b∈fp,∃o,s.heap.get? b=some o/\∀v,o.data≠.cell v):Inv X (pins++ni fp s.heap) σ H s:=
 I.pins_of λp hp=>(List.mem_append.mp hp).elim (λz=>I.pin p (Nu _ z)) λz=>by
  obtain⟨hb,e⟩:=yh z;obtain⟨f0,f1,f2,_⟩:=hf p.1 hb;obtain⟨o,e',d⟩:=ho p.1 hb;rw[e]at e';cases e';exact⟨e,f0,f1,f2,d⟩
theorem Inv.unpinned{pins pl:aM}{σ:St}{H:Hp}{s:QR}(I:Inv X (pins++pl) σ H s):Inv X pins σ H s:=I.pins_of λp hp=>I.pin p (Nu _ (Nk _ hp))
theorem GI{iter:QP}{body:cF}{wi:TI}{g:TG}{tb:TS}{pos:Pos}(hp:Rn (model X.prog X.w) X.A X.env X.xe)(hc:X.calm=true)(hi:PI X tg iter wi)(hg:PG X tg g)(hb:pR X body tb)
  (hs:∀x,Rt iter X.env x=pure x:=by intro _;rfl):PS X (.For tg iter body [] pos) (Ko wi g tb):=by
 intro pins s σ H D I h;refine wpAny_For (bU (hi pins s σ H _ I h) λv s1 h1=>bU h1 λitv s2 h2=>?_) hs;obtain⟨it,fp,tn,J,H2,e,I2,T,st2,f2,W,⟨m0,w0⟩,turn⟩:=h2;subst e;have stat:∀{H':Hp},(∀b∈fp,H' b=none)->∀b∈fp,oM X pins H' b:=λhn b hb=>⟨hn b hb,(f2 b hb).2⟩
 refine codeAny_forLoop_any (λn s'=>∃i σ' H',Inv X pins σ' H' s'/\tn i s'.heap/\(∀b∈fp,H' b=none)/\W i n σ' H') ?_ m0 ⟨0,σ,H2,I2,st2,λb hb=>(f2 b hb).1,w0⟩;rintro n s3 ⟨i,σ3,H3,I3,st3,fr3,w3⟩;rcases turn i n σ3 H3 w3 with⟨stop,qn⟩|⟨go,N,hN,step⟩
 ·refine Ro hp (bU (T.done X rfl rfl rfl hc i pins s3 σ3 H3 X.xe I3 (stat fr3) st3 stop) λr s4 ⟨hr,I4⟩=>?_);subst hr;exact Rm ⟨σ3,H3,I4,qn⟩
 ·refine Ro hp (bU (T.item X rfl rfl rfl hc i pins s3 σ3 H3 X.xe I3 (stat fr3) st3 go) λr s4 ⟨u,hr,h4⟩=>?_);subst hr;refine Ro hp (bU h4 λ_ s5 ⟨x,H5,I5,r5,y5,st5,fr5⟩=>?_);have I5':=I5.pinned (stat fr5) (T.obj _ _ st5);refine Ro hp (bU (hg _ s5 σ3 H5 x u _ I5' r5 (step x H5 y5)) λ_ s6 ⟨σ6,H6,I6,q6⟩=>?_);refine Ro hp (bU (hb _ s6 σ6 H6 _ I6 q6) λf s7 q7=>?_);have again:∀{σ7:St}{H7:Hp},Inv X (pins++ni fp s5.heap) σ7 H7 s7->N σ7 H7->∃m,m<n/\∃i σ' H',Inv X pins σ' H' s7/\tn i s7.heap/\(∀b∈fp,H' b=none)/\W i m σ' H':=λ{σ7 H7} I7 n7=>by
   obtain⟨m',hm,w7⟩:=hN σ7 H7 n7;refine⟨m',hm,i+1,σ7,H7,I7.unpinned,T.keep _ _ _ st5 λb hb o e=>(I7.pin (b,o) (Nu _ (Nu _ (gX hb e)))).1,λb hb=>?_,w7⟩;obtain⟨o,e,d⟩:=T.obj _ _ st5 b hb;exact(I7.pin (b,o) (Nu _ (Nu _ (gX hb e)))).2.1
  cases f with
  |next=>obtain⟨σ7,H7,I7,n7⟩:=q7;exact again I7 n7
  |cont=>obtain⟨σ7,H7,I7,n7⟩:=q7;exact again I7 n7
  |brk=>obtain⟨σ7,H7,I7,q7⟩:=q7;exact⟨σ7,H7,I7.unpinned,q7⟩
  |ret v=>obtain⟨x7,σ7,H7,I7,r7,q7⟩:=q7;exact⟨x7,σ7,H7,I7.unpinned,r7,q7⟩
end
noncomputable abbrev R2:=V->V->Hp->VK->Prop
noncomputable def ib(X:Cx)(f:QM->QM->Sem QM)(r:R2):Prop:=
 ∀(pins:aM)(s:QR)(σ:St)(H:Hp)(x y:V)(v u:QM)(Q:VK),Inv X pins σ H s->RelV x v->RelV y u->r x y H Q->
  Rc (model X.prog X.w) X.A (f v u) (EP X pins σ Q) X.xe s
noncomputable def J7(X:Cx)(f:QM->Sem QM)(r:V->Hp->VK->Prop):Prop:=
 ∀(pins:aM)(s:QR)(σ:St)(H:Hp)(x:V)(v:QM)(Q:VK),Inv X pins σ H s->RelV x v->r x H Q->
  Rc (model X.prog X.w) X.A (f v) (EP X pins σ Q) X.xe s
noncomputable def dh(X:Cx)(f:QM)(r:aH->Hp->VK->Prop):Prop:=
 ∀(pins:aM)(s:QR)(σ:St)(H:Hp)(xs:aH)(us:aS)(Q:VK),Inv X pins σ H s->Vals xs us->r xs H Q->
  Rc (model X.prog X.w) X.A (call f us) (EP X pins σ Q) X.xe s
noncomputable def JU(X:Cx)(r:V->Hp->(Bool->Hp->Prop)->Prop):Prop:=
 ∀(pins:aM)(s:QR)(σ:St)(H:Hp)(x:V)(v:QM)(Q:Bool->Hp->Prop),Inv X pins σ H s->RelV x v->r x H Q->
  Rc (model X.prog X.w) X.A (truthy v) (TP X pins σ Q) X.xe s
noncomputable def HS(r:R2)(ta tb:TE):TE:=λσ H Q=>ta σ H λx H1=>tb σ H1 λy H2=>r x y H2 Q
noncomputable def Lx(r:V->Hp->VK->Prop)(ta:TE):TE:=λσ H Q=>ta σ H λx H1=>r x H1 Q
noncomputable def rI(C:Int->Int->Prop)(g:Int->Int->V):R2:=λx y H Q=>∃i j,x=.int i/\y=.int j/\C i j/\Q (g i j) H
noncomputable def Bo(g:Int->Int->V):R2:=λx y H Q=>∃i j,x=.int i/\y=.int j/\Q (g i j) H
noncomputable def rU(g:Int->V):V->Hp->VK->Prop:=λx H Q=>∃i,x=.int i/\Q (g i) H
section
variable{X:Cx}{a b c:QP}{ta tb tc:TE}{pos:Pos}
theorem GV(ha:PE X a ta)(hb:PE X b tb){pins:aM}{s:QR}{σ:St}{H:Hp}{R:V->V->Hp->Prop}(I:Inv X pins σ H s)
  (h:ta σ H λx H1=>tb σ H1 λy H2=>R x y H2) {Q:aW} {f:QM->QM->Sem QM}
  (hf:∀v u s2 x y H2,Inv X pins σ H2 s2->RelV x v->RelV y u->R x y H2->Rc (model X.prog X.w) X.A (f v u) Q X.xe s2):
  Rc (model X.prog X.w) X.A (eval a X.env) (λv s₁=>Rc (model X.prog X.w) X.A (eval b X.env) (λu s₂=>Rc (model X.prog X.w) X.A (f v u) Q X.xe s₂) X.xe s₁) X.xe s:=by
 refine bU (ha pins s σ H _ I h) λv s1 ⟨x,H1,I1,r1,q1⟩=>?_;refine bU (hb pins s1 σ H1 _ I1 q1) λu s2 ⟨y,H2,I2,r2,q2⟩=>?_;exact hf v u s2 x y H2 I2 r1 r2 q2
theorem Ie{op:Operator}{r:R2}(ho:ib X (Ru op) r)(ha:PE X a ta)(hb:PE X b tb):PE X (.BinOp a op b pos) (HS r ta tb):=by
 intro pins s σ H Q I h;exact wpAny_BinOp (GV ha hb I h λv u s2 x y H2 I2 rx ry q=>ho pins s2 σ H2 x y v u Q I2 rx ry q)
theorem Ia{op:UnaryOp}{r:V->Hp->VK->Prop}(ho:J7 X (unaryOp op) r)(ha:PE X a ta):PE X (.UnaryOp op a pos) (Lx r ta):=by
 intro pins s σ H Q I h;exact UnaryOp_ (bU (ha pins s σ H _ I h) λv s1 ⟨x,H1,I1,r1,q1⟩=>ho pins s1 σ H1 x v Q I1 r1 q1)
theorem IX{f:QM->QM->Sem QM}{C:Int->Int->Prop}{g:Int->Int->Int}
  (rule:∀(i j:Int)(t u:Tok)(s:QR)(Q:aW)(E:aW),C i j->Q (.int (g i j) s.toks) {s with toks:=s.toks+1}->Rc (model X.prog X.w) X.A (f (.int i t) (.int j u)) Q E s):
  ib X f (rI C λi j=>.int (g i j)):=by
 intro pins s σ H x y v u Q I rx ry h;obtain⟨i,j,rfl,rfl,hc,q⟩:=h;obtain⟨t,rfl⟩:=rx;obtain⟨t',rfl⟩:=ry;exact rule i j t t' s _ _ hc ⟨.int (g i j),H,I.tok _,⟨_,rfl⟩,q⟩
theorem G9{f:QM->QM->Sem QM}{g:Int->Int->Int}
  (rule:∀(i j:Int)(t u:Tok)(s:QR)(Q:aW)(E:aW),Q (.int (g i j) s.toks) {s with toks:=s.toks+1}->Rc (model X.prog X.w) X.A (f (.int i t) (.int j u)) Q E s):
  ib X f (Bo λi j=>.int (g i j)):=by
 intro pins s σ H x y v u Q I rx ry h;obtain⟨i,j,rfl,rfl,q⟩:=h;obtain⟨t,rfl⟩:=rx;obtain⟨t',rfl⟩:=ry;exact rule i j t t' s _ _ ⟨.int (g i j),H,I.tok _,⟨_,rfl⟩,q⟩
theorem Ge{f:QM->QM->Sem QM}{g:Int->Int->Bool}
  (rule:∀(i j:Int)(t u:Tok)(s:QR)(Q:aW)(E:aW),Q (.bool (g i j)) s->Rc (model X.prog X.w) X.A (f (.int i t) (.int j u)) Q E s):
  ib X f (Bo λi j=>.bl (g i j)):=by
 intro pins s σ H x y v u Q I rx ry h;obtain⟨i,j,rfl,rfl,q⟩:=h;obtain⟨t,rfl⟩:=rx;obtain⟨t',rfl⟩:=ry;exact rule i j t t' s _ _ ⟨.bl (g i j),H,I,rfl,q⟩
noncomputable def G2(i j:Int):Prop:=0<=j/\j<=1000000/\i.natAbs<2^64
noncomputable def E8(i j:Int):Prop:=(-(2^64)<i/\i<2^64)\/(-(2^64)<j/\j<2^64)
theorem E8.ok{i j:Int}(h:E8 i j):IntMulOk i j:=by
 rcases h with⟨h1,h2⟩|⟨h1,h2⟩
 ·exact .of_left (intBits_le_64 h1 h2)
 ·exact .of_right (intBits_le_64 h1 h2)
theorem Fk:ib X (Ru .Add) (Bo λi j=>.int (i+j)):=G9 λ_ _ _ _ _ _ _ q=>add_int q
theorem GO:ib X (Ru .Sub) (Bo λi j=>.int (i-j)):=G9 λ_ _ _ _ _ _ _ q=>sub_int q
theorem EW:ib X (Ru .Mult) (rI E8 λi j=>.int (i*j)):=IX λ_ _ _ _ _ _ _ hc q=>mul_int q hc.ok
theorem Fs:ib X (Ru .Mod) (rI (λ_ j=>0<j) λi j=>.int (i%j)):=IX λi j _ _ _ _ _ hc q=>by
 have h1:(0:Int)<j:=hc;exact mod_int' ‹0› (by rw[Int.fmod_eq_emod_of_nonneg i ‹0›];exact q)
theorem E9:ib X (Ru .Pow) (rI G2 λi j=>.int (i^j.toNat)):=IX λ_ _ _ _ _ _ _ hc q=>pow_int_small hc.1 hc.2.1 hc.2.2 q
theorem Mt{f:QM->Sem QM}{g:Int->Int}
  (rule:∀(i:Int)(t:Tok)(s:QR)(Q:aW)(E:aW),Q (.int (g i) s.toks) {s with toks:=s.toks+1}->Rc (model X.prog X.w) X.A (f (.int i t)) Q E s):
  J7 X f (rU λi=>.int (g i)):=by
 intro pins s σ H x v Q I rx h;obtain⟨i,rfl,q⟩:=h;obtain⟨t,rfl⟩:=rx;exact rule i t s _ _ ⟨.int (g i),H,I.tok _,⟨_,rfl⟩,q⟩
theorem EY:J7 X (unaryOp .USub) (rU λi=>.int (-i)):=Mt λ_ _ _ _ _ q=>neg_int q
end
section
variable{X:Cx}{a b c:QP}{ta tb tc:TE}{pos:Pos}
theorem zi{pins:aM}{σ:St}{H:Hp}{s:QR}{Q:VK}{k k':Bool}(I:Inv X pins σ H s)(q:Q (.bl k) H)(e:k=k'):EP X pins σ Q (.bool k') s:=by
 subst e;exact⟨.bl k,H,I,rfl,q⟩
theorem Ip:ib X (Rj .Lt) (Bo λi j=>.bl (decide (i<j))):=Ge λ_ _ _ _ _ _ _ q=>lt_int q
theorem o9:ib X (Rj .LtE) (Bo λi j=>.bl (decide (i<=j))):=Ge λ_ _ _ _ _ _ _ q=>le_int q
theorem Es:ib X (Rj .Gt) (Bo λi j=>.bl (decide (j<i))):=Ge λ_ _ _ _ _ _ _ q=>gt_int q
theorem xk:ib X (Rj .Lt) (λx y H Q=>∃i j,x=.str i/\y=.str j/\Q (.bl (decide (i.cps.toList<j.cps.toList))) H):=by
 intro pins s σ H x y v u Q I rx ry h;obtain⟨i,j,rfl,rfl,q⟩:=h;obtain⟨t,rfl⟩:=rx;obtain⟨t',rfl⟩:=ry;exact lt_str (zi I q rfl)
theorem fS(b:QP){op:Ri}(h:op≠.In:=by decide)(h2:op≠.NotIn:=by decide):Rk op b=false:=by
 have e1:(op==CmpOp.In)=false:=by cases op<;>first|rfl|exact absurd rfl h
 have e2:(op==CmpOp.NotIn)=false:=by cases op<;>first|rfl|exact absurd rfl h2
 cases b<;>simp[Rk,e1,e2]
theorem Cm{op:Ri}{r:R2}(ho:ib X (Rj op) r)(ha:PE X a ta)(hb:PE X b tb)(hm:Rk op b=false):PE X (.Compare a [op] [b] pos) (HS r ta tb):=by
 intro pins s σ H Q I h;exact wpAny_Compare1 (GV ha hb I h λv u s2 x y H2 I2 rx ry q=>ho pins s2 σ H2 x y v u Q I2 rx ry q) hm
noncomputable def zL(t:TE):TT:=λσ H Q=>t σ H λx H'=>∃k,x=.bl k/\Q k H'
theorem C1{op:Ri}{r:R2}(ho:ib X (Rj op) r)(ha:PE X a ta)(hb:PE X b tb)(hm:Rk op b=false):PT X (.Compare a [op] [b] pos) (zL (HS r ta tb)):=by
 intro pins s σ H Q I h;refine wpAny_isTrue_Compare1 (bU (ha pins s σ H _ I h) λv s1 ⟨x,H1,I1,r1,q1⟩=>bU (hb pins s1 σ H1 _ I1 q1) λu s2 ⟨y,H2,I2,r2,q2⟩=>
  bU (ho pins s2 σ H2 x y v u _ I2 r1 r2 q2) λc s3 ⟨z,H3,I3,r3,k,e,q3⟩=>?_) hm
 subst e;cases r3;exact Rl ⟨H3,I3,q3⟩
noncomputable def uq(r r':R2)(ta tb tc:TE):TE:=λσ H Q=>ta σ H λx H1=>tb σ H1 λy H2=>r x y H2 λz H3=>∃k,z=.bl k/\
 (if k=true then tc σ H3 λw' H4=>r' y w' H4 Q else Q (.bl false) H3)
theorem Bk{op op':Ri}{r r':R2}(ho:ib X (Rj op) r)(ho':ib X (Rj op') r')(ha:PE X a ta)(hb:PE X b tb)(hc:PE X c tc)
  (hm:lastMarks [op,op'] [b,c]=false:=by with_unfolding_all rfl):PE X (.Compare a [op,op'] [b,c] pos) (uq r r' ta tb tc):=by
 intro pins s σ H Q I h;refine Compare_chain (bU (ha pins s σ H _ I h) λv s1 ⟨x,H1,I1,r1,q1⟩=>chain_link (bU (hb pins s1 σ H1 _ I1 q1) λu s2 ⟨y,H2,I2,r2,q2⟩=>
  bU (ho pins s2 σ H2 x y v u _ I2 r1 r2 q2) λd s3 ⟨z,H3,I3,r3,k,e,q3⟩=>?_)) hm
 subst e;cases r3;refine Rl ?_;cases k with
 |false=>exact ite_ff ⟨.bl false,H3,I3,rfl,q3⟩
 |true=>exact ite_tt (chain_last (bU (hc pins s3 σ H3 _ I3 q3) λw' s4 ⟨z',H4,I4,r4,q4⟩=>ho' pins s4 σ H4 y z' u w' Q I4 r2 r4 q4))
theorem zI{op op':Ri}{r r':R2}(ho:ib X (Rj op) r)(ho':ib X (Rj op') r')(ha:PE X a ta)(hb:PE X b tb)(hc:PE X c tc)
  (hm:lastMarks [op,op'] [b,c]=false:=by with_unfolding_all rfl):PT X (.Compare a [op,op'] [b,c] pos) (zL (uq r r' ta tb tc)):=by
 intro pins s σ H Q I h;refine isTrue_chain (bU (ha pins s σ H _ I h) λv s1 ⟨x,H1,I1,r1,q1⟩=>test_link (bU (hb pins s1 σ H1 _ I1 q1) λu s2 ⟨y,H2,I2,r2,q2⟩=>
  bU (ho pins s2 σ H2 x y v u _ I2 r1 r2 q2) λd s3 ⟨z,H3,I3,r3,k,e,q3⟩=>?_)) hm
 subst e;cases r3;refine Rl ?_;cases k with
 |false=>
  obtain⟨k',e',q'⟩:=q3;cases e';exact ite_ff ⟨H3,I3,q'⟩
 |true=>
  refine ite_tt (test_last (bU (hc pins s3 σ H3 _ I3 q3) λw' s4 ⟨z',H4,I4,r4,q4⟩=>bU (ho' pins s4 σ H4 y z' u w' _ I4 r2 r4 q4) λd' s5 ⟨z2,H5,I5,r5,k2,e2,q5⟩=>?_));subst e2;cases r5;exact Rl ⟨H5,I5,q5⟩
noncomputable def Hy(K:Pn)(x:V)(H:Hp)(k:Bool):Prop:=
 match x with
 |.non=>k=false
 |.bl b=>k=b
 |.int i=>k=(i !=0)
 |.str y=>y.length<=QW/\k=((y.length:Int) !=0)
 |.byt y=>y.size<=QW/\k=((y.size:Int) !=0)
 |.ref p=>(∃xs,ju K H p xs/\k=!xs.isEmpty)\/(∃xs,lu K H p xs/\k=!xs.isEmpty)\/∃kvs,H p=some (.dK kvs)/\k=!kvs.isEmpty
 |_=>False
theorem ut{κ:Type}{kvs:List (κ×V)}{vs:List (κ×QM)}(r:KV kvs vs):(!vs.isEmpty)=!kvs.isEmpty:=by
 cases r<;>rfl
theorem nJ{xs:aH}{its:aS}(r:Vals xs its):(!its.toArray.isEmpty)=!xs.isEmpty:=by
 cases r<;>simp
theorem kL:(QW:Nat)<2^63:=by rw[Rv];decide
theorem Fx:JU X (λx H Q=>∃k,Hy X.K x H k/\Q k H):=by
 intro pins s σ H x v Q I rx h;obtain⟨k,e,q⟩:=h;have hl:=kL;have hs:QW=16777216:=Rv;cases x with
 |non=>
  cases rx;have e':k=false:=e;subst e';exact truthy_none ⟨H,I,q⟩
 |bl b=>
  cases rx;have e':k=b:=e;subst e';exact Rl ⟨H,I,q⟩
 |int i=>
  obtain⟨t,rfl⟩:=rx;have e':k=(i !=0):=e;subst e';exact PySem.P.truthy_int ⟨H,I,q⟩
 |str y=>
  obtain⟨t,rfl⟩:=rx;obtain⟨hy,e'⟩:y.length<=QW/\k=((y.length:Int) !=0):=e;subst e';exact PySem.P.truthy_str ‹0› ⟨H,I.tok _,q⟩
 |byt y=>
  obtain⟨t,rfl⟩:=rx;obtain⟨hy,e'⟩:y.size<=QW/\k=((y.size:Int) !=0):=e;subst e';exact PySem.W.truthy_bytes ‹0› ⟨H,I.tok _,q⟩
 |ref p=>
  cases rx;have e':(∃xs,ju X.K H p xs/\k=!xs.isEmpty)\/(∃xs,lu X.K H p xs/\k=!xs.isEmpty)\/∃kvs,H p=some (.dK kvs)/\k=!kvs.isEmpty:=e;rcases e' with⟨xs,hx,e'⟩|⟨xs,hx,e'⟩|⟨kvs,hx,e'⟩
  ·subst e';obtain⟨its,r,pl,hz⟩:=I.list hx;have hlen:=r.length;exact wpAny_truthy_list pl.isList (by simp only[Nv];omega) ⟨H,I.tok _,by rw[nJ r];exact q⟩
  ·subst e';obtain⟨its,r,pl,hz⟩:=I.tuple hx;have hlen:=r.length;exact truthy_tuple pl (by simp only[Nv];omega) ⟨H,I.tok _,by rw[nJ r];exact q⟩
  ·subst e';obtain⟨hz,hS,vs,r,m⟩:kvs.length<=QW/\(p==sysModules)=false/\∃vs,KV kvs vs/\s.heap.DictOf (bI X.prog X.w) p vs:=I.hok p _ hx;have hlen:kvs.length=vs.length:=Paired.length r;exact wpAny_truthy_dict hS m ‹0› ⟨H,I.tok _,by rw[ut r];exact q⟩
 |_=>exact(show False from e).elim
theorem Aj(ha:PE X a ta)(he:∀whole,isTrue a X.env whole=(do let v<-whole;standAt a.pos;holding [v] (truthy v))):
  PT X a (λσ H Q=>ta σ H λx H'=>∃k,Hy X.K x H' k/\Q k H'):=by
 intro pins s σ H Q I h;exact isTrue_plain (bU (ha pins s σ H _ I h) λv s1 ⟨x,H1,I1,r1,q1⟩=>Fx pins s1 σ H1 x v Q I1 r1 q1) (he _)
theorem uY:ib X (Ru .Add) (λx y H Q=>∃i j,x=.str i/\y=.str j/\i.length+j.length<=QW/\Q (.str (i++j)) H):=by
 intro pins s σ H x y v u Q I rx ry h;obtain⟨i,j,rfl,rfl,hz,q⟩:=h;obtain⟨t,rfl⟩:=rx;obtain⟨t',rfl⟩:=ry;exact add_str (λt' tk=>⟨.str (i++j),H,I.tok _,⟨_,rfl⟩,q⟩) hz
theorem vals1{x:V}{us:aS}(r:Vals [x] us):∃u,us=[u]/\RelV x u:=by
 cases r with
 |cons r1 r2=>cases r2;exact⟨_,rfl,r1⟩
theorem vals2{x y:V}{us:aS}(r:Vals [x,y] us):∃u w',us=[u,w']/\RelV x u/\RelV y w':=by
 cases r with
 |cons r1 r2=>
  cases r2 with
  |cons r3 r4=>cases r4;exact⟨_,_,rfl,r1,r3⟩
theorem xJ(hc:X.calm=true):dh X (.builtin "max") (λxs H Q=>∃i j,xs=[.int i,.int j]/\Q (.int (if j>i then j else i)) H):=by
 intro pins s σ H xs us Q I r h;obtain⟨i,j,rfl,q⟩:=h;obtain⟨u,w',rfl,⟨t,rfl⟩,⟨t',rfl⟩⟩:=vals2 r;refine max_two_ints (I.ok.hd hc) λh' tk k=>⟨_,H,I.kept k,?_,q⟩
 by_cases hj:j>i
 ·rw[if_pos hj,if_pos hj];exact⟨_,rfl⟩
 ·rw[if_neg hj,if_neg hj];exact⟨_,rfl⟩
theorem x0(hc:X.calm=true):dh X (.builtin "min") (λxs H Q=>∃i j,xs=[.int i,.int j]/\Q (.int (if j<i then j else i)) H):=by
 intro pins s σ H xs us Q I r h;obtain⟨i,j,rfl,q⟩:=h;obtain⟨u,w',rfl,⟨t,rfl⟩,⟨t',rfl⟩⟩:=vals2 r;refine min_two_ints (I.ok.hd hc) λh' tk k=>⟨_,H,I.kept k,?_,q⟩
 by_cases hj:j<i
 ·rw[if_pos hj,if_pos hj];exact⟨_,rfl⟩
 ·rw[if_neg hj,if_neg hj];exact⟨_,rfl⟩
end
structure xV(h:QV)(x dx C:QO)(mA:bF):Prop where
 obj:h.get? x=some (Pl C dx)
 ns:h.Ns1 dx mA
 ne:dx≠x
theorem xL{h:QV}{dx:QO}{mA:bF}(n:h.Ns1 dx mA):∃od,h.get? dx=some od/\∀name,Pp name od=some (mA name):=by
 obtain⟨o,es,ep,ho,hd,hk,_,hm⟩:=n;refine⟨o,ho,λname=>?_⟩;have e:=hm name;unfold nsFind findBy at e;rw[<-Array.find?_toList]at e;unfold Pp;rw[hd];dsimp only;split
 ·rename_i y q;rw[q]at e;exact congrArg some e
 ·rename_i q;rw[q]at e;have a:es.toList.any (·.refKey)=false:=by
   rw[List.any_eq_false];intro y hy;obtain⟨z,t,hkey⟩:=hk y (Array.mem_toList_iff.mp hy);simp[DictEntry.refKey,hkey]
  have a':¬es.toList.any (·.refKey)=true:=by rw[a];exact Nq
  rw[if_neg a'];exact congrArg some e
theorem xV.look{h:QV}{x dx C:QO}{mA:bF}(I:xV h x dx C mA):∃od,PySem.W.InstAt h x (Pl C dx) C (some od)/\∀name,Pp name od=some (mA name):=
 let ⟨od,ho,hl⟩:=xL I.ns
 ⟨od,⟨I.obj,rfl,rfl,ho⟩,hl⟩
section
variable{prog:QT}{w:QS}{A:QZ}{E:aW}{s:QR}{K:Pn}{x dx C f:QO}{mA:bF}{name:Str}{v:QM}
theorem Dd{expr:Bool}{Q:aW}(X:K.In s.heap)(I:xV s.heap x dx C mA)(hg:Pq K C name=true)(hh:Pr K C=true)
  (ha:Pt K (.ref C) name=some none) (hv:mA name=some v) (hv':Pu v=true) (h:Q v {s with toks:=s.toks+1}):
  Rc (model prog w) A (getAttr (.ref x) name expr) Q E s:=by
 obtain⟨od,J,hl⟩:=I.look;exact PySem.W.get_value X J (Pw hg).1 (PySem.W.findObj_own hh ha rfl (by rw[hl,hv])) hv' h
theorem AG{pl:Sem Bool}{Q:QM×List QM->eI}(X:K.In s.heap)(I:xV s.heap x dx C mA)(hg:Pq K C name=true)
  (hf:Pt K (.ref C) name=some (some (.ref f))) (ht:Px K (.ref f)=true) (hv:mA name=none) (h:Q (.ref f,[.ref x]) s):
  Rc (model prog w) A (getMethod (.ref x) name pl) Q E s:=by
 obtain⟨od,J,hl⟩:=I.look;exact PySem.W.method_fn X J (Pw hg).1 (Pw hg).2 hf (beq_iff_eq.mp ht) (by show(Pp name od).map (·.isSome)=some false;rw[hl,hv];rfl) h
theorem Bz{ns:av}{Q:Unit->eI}(X:K.In s.heap)(I:xV s.heap x dx C mA)
  (hs:Pt K (.ref C) "__setattr__"=some (some (.builtin "object.__setattr__"))) (hp:Py K C=true) (ht:Pz K C name=some none) (hh:Pr K C=true)
  (hw:PySem.Within mA ns) (hsz:ns.length<=QW)
  (h:∀h',xV h' x dx C (λy=>if y=name then some v else mA y)->Qo dx s.heap h'->Q () {s with heap:=h',toks:=s.toks+2}):
  Rc (model prog w) A (setAttr (.ref x) name v) Q E s:=by
 obtain⟨od,J,hl⟩:=I.look;refine PySem.W.set_plain X J hs (PySem.W.osa_open (s:={s with toks:=s.toks+1}) (r:=none) X J hp ht λb=>?_);obtain⟨cd,hc,hd'⟩:=PB hh;have hx:s.heap.get? x=some ⟨.ref C,some dx,.plain,#[]⟩:=I.obj;refine Rq (Rp (Rq (Rq (Rw hx (Rq (PySem.W.Looks.here (s:={s with toks:=s.toks+1}) (PySem.W.looks_clsIn X hc) ?_))))));rw[hd'];refine Rp (a:=some dx) (Rq (Rp (Rq ?_)));refine wpAny_nsSet1 (s:={s with toks:=s.toks+1}) I.ns λh' hn2 hs2=>?_;obtain⟨oD,esD,epD,hoD,hdD,hcD⟩:=hn2.count (PySem.Within.cons name v hw);refine Rq (Rx hoD (by rw[hdD];exact Ry (Nf hcD (by rw[Nw];omega))) ?_);exact Rp (h _ ⟨(hs2.2 _ (Ne.symm I.ne)).trans I.obj,hn2,I.ne⟩ hs2)
theorem y9{R:Rz->eI}{vs:aS}{kw:List (Str×QM)}(X:K.In s.heap)(hm:PD K C=true)
  (hi:Pt K (.ref C) "__init__"=some (some (.ref f))) (hf:PF K (.ref f)=some (.type "function"))
  (h:RB (model prog w) (A.under (.builtin "type.__call__" ⟨.ref C::vs,kw⟩)) (.call (.ref f) ⟨.ref (s.heap.objs.size+1)::vs,kw⟩) (PH (s.heap.objs.size+1) R)
   {s with heap:=(s.heap.push PJ).push (Pl C s.heap.objs.size)}):
  RB (model prog w) A (.call (.ref C) ⟨vs,kw⟩) R s:=by
 obtain⟨hh,g,d,t,os⟩:=s;exact PK (PL X hm) (PN X hi) (λself=>PySem.W.bind_fn X self hf) (.inl rfl) h
theorem x5{R:Rz->eI}(X:K.In s.heap)(hm:PD K C=true)
  (hi:Pt K (.ref C) "__init__"=some (some (.builtin "object.__init__")))
  (hb:∀self,PP (model prog w) s.heap (bindSpecial (.builtin "object.__init__") self) (.builtin "object.__init__",[self]))
  (h:RB (model prog w) (A.under (.builtin "type.__call__" ⟨[.ref C],[]⟩)) (.call (.builtin "object.__init__") ⟨[.ref (s.heap.objs.size+1)],[]⟩) (PH (s.heap.objs.size+1) R)
   {s with heap:=(s.heap.push PJ).push (Pl C s.heap.objs.size)}):
  RB (model prog w) A (.call (.ref C) ⟨[],[]⟩) R s:=by
 obtain⟨hh,g,d,t,os⟩:=s;exact PK (PL X hm) (PN X hi) hb (.inr ⟨rfl,rfl⟩) h
end
noncomputable def iu(f:Str)(v:V):List (Str×V)->List (Str×V)
 |[]=>[(f,v)]
 |(g,x)::r=>if g=f then(g,v)::r else(g,x)::iu f v r
theorem lG(f g:Str)(v:V):∀fs:List (Str×V),(iu f v fs).lookup g=if g=f then some v else fs.lookup g
 |[]=>by
  show List.lookup g [(f,v)]=_;by_cases h:g=f
  ·have hb:(g==f)=true:=beq_iff_eq.mpr h;simp only[List.lookup,hb,if_pos h]
  ·have hb:(g==f)=false:=beq_eq_false_iff_ne.mpr h;simp only[List.lookup,hb,if_neg h]
 |(k,x)::r=>by
  have ih:=lG f g v r;rw[show iu f v ((k,x)::r)=(if k=f then(k,v)::r else(k,x)::iu f v r)from rfl];by_cases hk:k=f
  ·rw[if_pos hk];by_cases h:g=k
   ·have hb:(g==k)=true:=beq_iff_eq.mpr h;simp only[List.lookup,hb,if_pos (h.trans hk)]
   ·have hb:(g==k)=false:=beq_eq_false_iff_ne.mpr h;simp only[List.lookup,hb,if_neg (λe:g=f=>h (e.trans hk.symm))]
  ·rw[if_neg hk];by_cases h:g=k
   ·have hb:(g==k)=true:=beq_iff_eq.mpr h;simp only[List.lookup,hb,if_neg (λe:g=f=>hk (h.symm.trans e))]
   ·have hb:(g==k)=false:=beq_eq_false_iff_ne.mpr h;simp only[List.lookup,hb];exact ih
theorem kU(f:Str)(v:V):∀fs:List (Str×V),f∈(iu f v fs).map (·.1)/\∀g,g∈fs.map (·.1)->g∈(iu f v fs).map (·.1)
 |[]=>⟨by simp[iu],λg h=>by simp at h⟩
 |(k,x)::r=>by
  obtain⟨i1,i2⟩:=kU f v r;rw[show iu f v ((k,x)::r)=(if k=f then(k,v)::r else(k,x)::iu f v r)from rfl];by_cases hk:k=f
  ·rw[if_pos hk];subst hk;exact⟨by simp,λg h=>by simpa using h⟩
  ·rw[if_neg hk];refine⟨?_,λg h=>?_⟩
   ·rw[Nx];exact Nj _ i1
   ·rw[Nx]at h ⊢;rcases List.mem_cons.mp h with e|e
    ·exact List.mem_cons.mpr (.inl e)
    ·exact Nj _ (i2 g e)
theorem lx(f:Str)(v:V):∀fs:List (Str×V),(iu f v fs).length<=fs.length+1
 |[]=>by simp[iu]
 |(k,x)::r=>by
  have ih:=lx f v r;rw[show iu f v ((k,x)::r)=(if k=f then(k,v)::r else(k,x)::iu f v r)from rfl];by_cases hk:k=f
  ·rw[if_pos hk,Nw,Nw];omega
  ·rw[if_neg hk,Nw,Nw];omega
theorem lO.some_of{v:V}{o:gZ}(r:lO (some v) o):∃u,o=some u/\RelV v u:=by
 cases o with
 |none=>exact(show False from r).elim
 |some u=>exact⟨u,rfl,r⟩
theorem lO.none_of{o:gZ}(r:lO none o):o=none:=by
 cases o with
 |none=>rfl
 |some u=>exact(show False from r).elim
theorem xF{v:V}{u:QM}(r:RelV v u):Pu u=true:=by
 cases v with
 |non=>cases(show u=Value.none from r);rfl
 |bl b=>cases(show u=Value.bool b from r);rfl
 |int i=>obtain⟨t,e⟩:=(show∃t,u=Value.int i t from r);cases e;rfl
 |str x=>obtain⟨t,e⟩:=(show∃t,u=Value.str x t from r);cases e;rfl
 |byt b=>obtain⟨t,e⟩:=(show∃t,u=Value.bytes b t from r);cases e;rfl
 |flt b=>obtain⟨t,e⟩:=(show∃t,u=Value.float b t from r);cases e;rfl
 |ref a=>cases(show u=Value.ref a from r);rfl
 |ty n=>cases(show u=Value.type n from r);rfl
section
variable{P:QT}{w:QS}{H H':Hp}{h h':QV}{a C dx:QO}{fs fs':List (Str×V)}
theorem lV(hok:lH P w H h)(e:H a=some (.ins C dx fs)):∃mA,xV h a dx C mA/\(∀f,lO (fs.lookup f) (mA f))/\PySem.Within mA (fs.map (·.1))/\fs.length<=1000/\H dx=some (.own a):=by
 obtain⟨d,z,ne,ob,mA,n,r,q⟩:=(show bM P w H h a (.ins C dx fs)from hok a _ e)
 exact⟨mA,⟨ob,n,ne⟩,r,q,z,d⟩
end
structure lm(K:Pn)(C:QO):Prop where
 pg:Pq K C Str.empty=true
 hd:Pr K C=true
 po:Py K C=true
 sa:Pt K (.ref C) "__setattr__"=some (some (.builtin "object.__setattr__"))
theorem lm.get{K:Pn}{C:QO}(c:lm K C)(f:Str):Pq K C f=true:=c.pg
noncomputable def cw(K:Pn)(C:QO)(f:Str):Prop:=Pt K (.ref C) f=some none
theorem cw.taker{K:Pn}{C:QO}{f:Str}(n:cw K C f):Pz K C f=some none:=by
 unfold Pz;rw[show Pt K (.ref C) f=some none from n];rfl
structure Meth(K:Pn)(C:QO)(m:Str)(f:QO):Prop where
 at_:Pt K (.ref C) m=some (some (.ref f))
 fn:Px K (.ref f)=true
 kp:PQ K (.ref f)=true
section
variable{X:Cx}{pins:aM}{σ:St}{H:Hp}{s:QR}{a C dx:QO}{fs:List (Str×V)}{f:Str}{v:V}{A:QZ}{E:aW}
theorem u5{b:Bool}{Q:aW}(I:Inv X pins σ H s)(e:H a=some (.ins C dx fs))(c:lm X.K C)(n:cw X.K C f)(l:fs.lookup f=some v)
  (h:∀u s',Inv X pins σ H s'->RelV v u->Q u s'):Rc (model X.prog X.w) A (getAttr (.ref a) f b) Q E s:=by
 obtain⟨mA,O,r,_,_,_⟩:=lV I.hok e;obtain⟨u,hu,ru⟩:=lO.some_of (v:=v) (o:=mA f) (by rw[<-l];exact r f);exact Dd I.kIn O (c.get f) c.hd n hu (xF ru) (h u _ (I.tok _) ru)
theorem vc{m:Str}{g:QO}{pl:Sem Bool}{Q:QM×List QM->eI}(I:Inv X pins σ H s)(e:H a=some (.ins C dx fs))(c:lm X.K C)(k:Meth X.K C m g)(l:fs.lookup m=none)
  (h:Q (.ref g,[.ref a]) s):Rc (model X.prog X.w) A (getMethod (.ref a) m pl) Q E s:=by
 obtain⟨mA,O,r,_,_,_⟩:=lV I.hok e;have hn:mA m=none:=lO.none_of (by rw[<-l];exact r m);exact AG I.kIn O (c.get m) k.at_ k.fn hn h
theorem uW{y:V}{u:QM}{Q:Unit->eI}(I:Inv X pins σ H s)(e:H a=some (.ins C dx fs))(c:lm X.K C)(n:cw X.K C f)(hl:fs.length<1000)(ry:RelV y u)
  (h:∀s',Inv X pins σ (upd H a (.ins C dx (iu f y fs))) s'->Q () s'):Rc (model X.prog X.w) A (setAttr (.ref a) f u) Q E s:=by
 obtain⟨mA,O,r,wi,_,ho⟩:=lV I.hok e;have hz:(fs.map (·.1)).length<=QW:=by rw[Ny,Rv];omega
 refine Bz I.kIn O c.sa c.po n.taker c.hd wi hz λh' O' sb=>h _ ?_;have hd:∃o,h'.get? dx=some o:=let ⟨o,_,_,e',_⟩:=O'.ns;⟨o,e'⟩
 refine I.write (x:=a) (e:=dx) (by rw[e];exact True.intro) (.inr ho) (λb q hb z=>(sb.2 b hb).trans z) hd ?_;refine⟨by rw[ak O.ne];exact ho,?_,O.ne,O'.obj,_,O'.ns,λg=>?_,λg hg=>?_⟩
 ·have:=lx f y fs;omega
 ·show lO ((iu f y fs).lookup g) (if g=f then some u else mA g);rw[lG];by_cases q:g=f
  ·rw[if_pos q,if_pos q];exact ry
  ·rw[if_neg q,if_neg q];exact r g
 ·by_cases q:g=f
  ·rw[q];exact(kU f y fs).1
  ·refine(kU f y fs).2 g (wi g λz=>hg ?_);show(if g=f then some u else mA g)=none;rw[if_neg q];exact z
theorem Inv.made(I:Inv X pins σ H s):Inv X pins σ (upd (upd H s.heap.objs.size (.own (s.heap.objs.size+1))) (s.heap.objs.size+1) (.ins C s.heap.objs.size []))
  {s with heap:=(s.heap.push PJ).push (Pl C s.heap.objs.size)}:=by
 have e1:(s.heap.push PJ).get? s.heap.objs.size=some PJ:=Qq s.heap rfl;have e2:((s.heap.push PJ).push (Pl C s.heap.objs.size)).get? (s.heap.objs.size+1)=some (Pl C s.heap.objs.size):=by
  have:=Qq (s.heap.push PJ) (o:=Pl C s.heap.objs.size) rfl
  rwa [Qr]at this
 have e3:(s.heap.push PJ).Ns s.heap.objs.size (λ_=>none):=⟨PJ,#[],_,e1,rfl,(λe he=>absurd he (by simp)),λ_=>rfl⟩
 have I1:=I.laid (a:=s.heap.objs.size) (o:=.own (s.heap.objs.size+1)) (h':=s.heap.push PJ) (t':=s.toks) (λb u q=>Qp _ q) (Nt _) ⟨_,e1⟩;refine I1.laid (a:=s.heap.objs.size+1) (o:=.ins C s.heap.objs.size []) (t':=s.toks) (λb u q=>Qp _ q) (Nz (Qr _ _)) ?_;have ne:s.heap.objs.size≠s.heap.objs.size+1:=Nc (NB _);refine⟨by rw[ak ne,aq],NC _,ne,e2,λ_=>none,(Heap.Ns1.of_empty e3).at λo q=>Qp _ q,λ_=>True.intro,λy hy=>absurd rfl hy⟩
theorem Dr{prog:QT}{w:QS}{env:Env}{e:QP}{f:Str}{pos:Pos}{s:QR}{Q:aW}(hb:RC e f env (eval e env)=eval e env)
  (h:Rc (model prog w) A (eval e env) (λo s₁=>Rc (model prog w) A (getAttr o f true) Q E s₁) E s):Rc (model prog w) A (eval (.Attribute e f pos) env) Q E s:=
 Attribute_any_ h (by rw[arm_eval_Attribute,hb])
end
noncomputable def JY(K:Pn)(ta:TE)(f:Str):TE:=λσ H Q=>ta σ H λx H1=>∃a C dx fs v,x=.ref a/\H1 a=some (.ins C dx fs)/\lm K C/\cw K C f/\fs.lookup f=some v/\Q v H1
noncomputable def JC(K:Pn)(ta tv:TE)(f:Str):TS:=λD σ H=>tv σ H λy H1=>ta σ H1 λx H2=>∃a C dx fs,x=.ref a/\H2 a=some (.ins C dx fs)/\lm K C/\cw K C f/\fs.length<1000/\
 D.nx σ (upd H2 a (.ins C dx (iu f y fs)))
section
variable{X:Cx}{o e value:QP}{f:Str}{pos pos' tpos:Pos}{ta tv:TE}
theorem GH(he:PE X e ta)(hb:RC e f X.env (eval e X.env)=eval e X.env):PE X (.Attribute e f pos) (JY X.K ta f):=by
 intro pins s σ H Q I h;refine Dr hb (bU (he pins s σ H _ I h) λu s1 ⟨x,H1,I1,rx,a,C,dx,fs,v,ex,ea,c,n,l,q⟩=>?_);subst ex;obtain rfl:u=Value.ref a:=rx;exact u5 I1 ea c n l λu' s2 I2 ru=>⟨v,H1,I2,ru,q⟩
theorem yG(ha:PE X o ta)(hv:PE X value tv)(hs:swapsWith value (some (.Attribute o f pos')) pos.line X.env=pure false):PS X (.Assign [.Attribute o f pos'] value pos) (JC X.K ta tv f):=by
 intro pins s σ H D I h;refine RD (bU (hv pins s σ H _ I h) λu s1 ⟨y,H1,I1,ry,q⟩=>bU (ha pins s1 σ H1 _ I1 q) λov s2 h2=>?_) hs;obtain⟨x,H2,I2,rx,a,C,dx,fs,ex,ea,c,n,l,q2⟩:=h2;subst ex;obtain rfl:ov=Value.ref a:=rx;exact uW I2 ea c n l ry λs3 I3=>⟨σ,_,I3,q2⟩
theorem si{pl:Sem Bool}{m:Str}{apos:Pos}{args:aR}{pins:aM}{s:QR}{σ:St}{H:Hp}{Q:aW}{te:TE}(he:PE X e te)(I:Inv X pins σ H s)
  (h:te σ H fun x H1=>∃ a C dx fs g,x=.ref a/\H1 a=some (.ins C dx fs)/\lm X.K C/\Meth X.K C m g/\fs.lookup m=none /\
   ∀s1,Inv X pins σ H1 s1->Rc (model X.prog X.w) X.A (RE pos (.ref g) [.ref a] (backTo pos (Rf args X.env)) (backToKw pos (RF [] X.env))) Q X.xe s1)
  (ht:eval (.Call (.Attribute e m apos) args [] pos) X.env=(do
   let ov<-eval e X.env
   standAt apos.atName
   let (f,first)<-holding [ov] (getMethod ov m pl)
   RE pos f first (backTo pos (Rf args X.env)) (backToKw pos (RF [] X.env)))):
  Rc (model X.prog X.w) X.A (eval (.Call (.Attribute e m apos) args [] pos) X.env) Q X.xe s:=by
 refine PySem.W.methodCall_KW (pl:=pl) (bU (he pins s σ H _ I h) λu s1 ⟨x,H1,I1,rx,a,C,dx,fs,g,ex,ea,c,k,l,q⟩=>?_) ht;subst ex;obtain rfl:u=Value.ref a:=rx;exact vc I1 ea c k l (q s1 I1)
end
structure dY(k:Nat)(A:QZ):Prop where
 hd:A.handled=none
 dp:A.depth+3*k+5<recursionLimit
 un:A.units+16*k+200<RG
theorem dY.mono{j k:Nat}{A:QZ}(r:dY k A)(h:j<=k):dY j A:=⟨r.hd,by have:=r.dp;omega,by have:=r.un;omega⟩
theorem dY.deeper{k:Nat}{A:QZ}(r:dY (k+1) A)(env:Env):dY k (A.deeper env):=
 ⟨r.hd,by have:=r.dp;show A.depth+1+3*k+5<_;omega,by have:=r.un;show A.units+3+16*k+200<_;omega⟩
theorem uU{A:QZ}{C:QO}{us:aS}{kw:List (Str×QM)}:(A.under (.builtin "type.__call__" ⟨.ref C::us,kw⟩)).depth=A.depth+1:=by
 first|rfl|simp[Around.under,Code.weight,Code.isCreation,Code.isGuard,Code.isCaller,Code.frames,Code.isFrame,guardIds]
theorem uz{A:QZ}{C:QO}{us:aS}{kw:List (Str×QM)}:(A.under (.builtin "type.__call__" ⟨.ref C::us,kw⟩)).units=A.units+1:=by
 first|rfl|simp[Around.under,Code.cUnits,Code.frames,Code.isFrame]
theorem dY.make{k:Nat}{A:QZ}(r:dY (k+1) A)(C:QO)(us:aS)(kw:List (Str×QM)):dY k (A.under (.builtin "type.__call__" ⟨.ref C::us,kw⟩)):=
 ⟨r.hd,by have:=r.dp;rw[uU];omega,by have:=r.un;rw[uz];omega⟩
theorem dY.depth{k:Nat}{A:QZ}(r:dY k A):A.depth<recursionLimit:=by have:=r.dp;omega
theorem dY.units{k:Nat}{A:QZ}(r:dY k A):A.units+64<RG:=by have:=r.un;omega
noncomputable def Hx:TA:=λ_ H Q=>Q [] H
noncomputable def zT(ta:TE)(tr:TA):TA:=λσ H Q=>ta σ H λx H1=>tr σ H1 λxs H2=>Q (x::xs) H2
section
variable{X:Cx}{e:QP}{es:aR}{te:TE}{t:TA}{pos:Pos}
theorem jw:PA X [] Hx:=λ_ _ _ _ H Q I h=>Calls.spliced_nil ⟨[],H,I,.nil,h⟩
theorem dm(ha:PE X e te)(hr:PA X es t)(hs:Rf (e::es) X.env=(false,eval e X.env)::Rf es X.env:=by rfl):PA X (e::es) (zT te t):=by
 intro pos pins s σ H Q I h;rw[hs];show Rc _ _ (spliced ((false,eval e X.env)::backTo pos (Rf es X.env))) _ _ s;refine Calls.spliced_cons (bU (ha pins s σ H _ I h) λu s1 ⟨x,H1,I1,r1,q1⟩=>?_);exact bU (hr pos pins s1 σ H1 _ I1 q1) λus s2 ⟨xs,H2,I2,r2,q2⟩=>⟨x::xs,H2,I2,.cons r1 r2,q2⟩
noncomputable def Kl(t:TA):TE:=λσ H Q=>t σ H λxs H1=>xs.length<=QW/\∀p,H1 p=none->Q (.ref p) (upd H1 p (.tup xs))
noncomputable def Ky(t:TA):TE:=λσ H Q=>t σ H λxs H1=>xs.length<=QW/\∀p,H1 p=none->Q (.ref p) (upd H1 p (.lst xs))
theorem yU{x1}(h:PA X es t):PE X (.Tuple es x1 pos) (Kl t):=by
 intro pins s σ H Q I hq;refine wpAny_Tuple_spliced (bU (h pos pins s σ H _ I hq) λus s1 ⟨xs,H1,I1,r,z,q⟩=>⟨by rw[<-r.length];exact z,?_⟩);have hf:H1 s1.heap.objs.size=none:=I1.hok.fresh (Nt _);refine⟨.ref s1.heap.objs.size,upd H1 s1.heap.objs.size (.tup xs),I1.laid (t':=s1.toks) (λb u e=>Qp _ e) (Nt _) ?_,rfl,q _ hf⟩;exact⟨z,us,r,⟨_,Qq _ rfl,rfl,_,rfl⟩⟩
theorem zG(h:PA X es t):PE X (.List es pos) (Ky t):=by
 intro pins s σ H Q I hq;refine wpAny_List_spliced (bU (h pos pins s σ H _ I hq) λus s1 ⟨xs,H1,I1,r,z,q⟩=>⟨by rw[<-r.length];exact z,?_⟩);have hf:H1 s1.heap.objs.size=none:=I1.hok.fresh (Nt _);refine⟨.ref s1.heap.objs.size,upd H1 s1.heap.objs.size (.lst xs),I1.laid (t':=s1.toks) (λb u e=>Qp _ e) (Nt _) ?_,rfl,q _ hf⟩;exact⟨z,us,0,r,Qq _ rfl⟩
end
noncomputable abbrev Sp:=List V->Hp->VK->XK->Prop
noncomputable abbrev t9:=List Env->Hp->QR->XK->aW
structure yB(P:QT)(w:QS)(K:Pn)(mg:bF)(base:QV)(A:QZ)(outer:List Env)(s:QR)(H:Hp):Prop where
 frames:A.frames=some outer
 mod:Mod K mg base
 bs:∀b o,base.get? b=some o->s.heap.get? b=some o/\H b=none
 bsz:base.objs.size<=s.heap.objs.size
 funs:s.heap.FunFrames base outer
 frf:∀b∈frs outer,H b=none
 hok:lH P w H s.heap
 bare:AllBare s.gens
noncomputable def CE(outer:List Env)(P:QT)(w:QS)(H:Hp)(s:QR)(Q:VK)(u:QM)(s':QR):Prop:=
 ∃v H',s'.os=s.os/\AllBare s'.gens/\Un (frs outer) [] H H' s.heap s'.heap/\lH P w H' s'.heap/\RelV v u/\Q v H'
noncomputable def CR(CX:t9)(outer:List Env)(P:QT)(w:QS)(H:Hp)(s:QR)(Q:VK)(E:XK)(r:Rz)(s':QR):Prop:=
 match r with
 |.ok (.ret u)=>CE outer P w H s Q u s'
 |.ok _=>False
 |.error e=>CX outer H s E e s'
structure eW(P:QT)(w:QS)(K:Pn)(mg:bF)(base:QV)(CX:t9)(k:Nat)(f:QO)(fd:RH)(ps:av)(sp:Sp):Prop where
 len:∀vs H Q E,sp vs H Q E->vs.length=ps.length
 run:∀(A:QZ)(outer:List Env)(s:QR)(H:Hp)(args:Args)(us:aS)(vs:aH)(Q:VK)(E:XK),dY k A->yB P w K mg base A outer s H->RJ s fd args (ps.zip us)->Vals vs us->sp vs H Q E->
  RB (model P w) A (.call (.ref f) args) (CR CX outer P w H s Q E) s
theorem eW.mono{P:QT}{w:QS}{K:Pn}{mg:bF}{base:QV}{CX:t9}{j k:Nat}{f:QO}{fd:RH}{ps:av}{sp:Sp}(F:eW P w K mg base CX j f fd ps sp)(h:j<=k):
  eW P w K mg base CX k f fd ps sp:=⟨F.len,λA outer s H args us vs Q E hr=>F.run A outer s H args us vs Q E (hr.mono h)⟩
theorem yB.make{P:QT}{w:QS}{K:Pn}{mg:bF}{base:QV}{A:QZ}{outer:List Env}{s:QR}{H:Hp}(e:yB P w K mg base A outer s H)(C:QO)(us:aS)(kw:List (Str×QM)):
  yB P w K mg base (A.under (.builtin "type.__call__" ⟨.ref C::us,kw⟩)) outer s H:=⟨by first|exact e.frames|(simpa [Around.under,Code.envs,Code.isFrame,pushEnvs]using e.frames),e.mod,e.bs,e.bsz,e.funs,e.frf,e.hok,e.bare⟩
section
variable{X:Cx}{pins:aM}{σ:St}{H:Hp}{s s':QR}
theorem Inv.env0(I:Inv X pins σ H s):yB X.prog X.w X.K X.mg X.base X.A X.stack s H:=
 ⟨I.ok.frames,I.ok.mod,I.bs,Nf I.ok.bsz I.sz,I.stack,I.stkFree,I.hok,I.bare⟩
theorem Inv.after{Q:VK}{u:QM}(I:Inv X pins σ H s)(h:CE X.stack X.prog X.w H s Q u s'):EP X pins σ Q u s':=by
 obtain⟨v,H',os,bare,un,hok,r,q⟩:=h;obtain⟨hh,g,d,t,os'⟩:=s';obtain rfl:os'=s.os:=os;exact⟨v,H',I.call (h':=hh) (g':=g) (d':=d) (t':=t) (ch:=[]) un hok bare (λb z=>absurd z (by simp)),r,q⟩
end
noncomputable def HE(C:QO)(sp:Sp)(dvs:aH)(E:XK)(t:TA):TE:=λσ H Q=>t σ H λvs H1=>∀x dx,H1 x=none->H1 dx=none->dx≠x->
 sp (.ref x::(vs++dvs)) (upd (upd H1 dx (.own x)) x (.ins C dx [])) (λv H2=>v=.non/\Q (.ref x) H2) E
noncomputable def Binds(K:Pn)(fd:RH)(ps:av)(ds:aS):Prop:=
 ∀(s:QR)(us:aS),K.In s.heap->(us++ds).length=ps.length->RJ s fd ⟨us,[]⟩ (ps.zip (us++ds))
theorem Binds.all{K:Pn}{fd:RH}{ps:av}(h:∀us:aS,us.length=ps.length->bindArgs fd ⟨us,[]⟩=pure (ps.zip us)):Binds K fd ps []:=λs us _ hl=>by
 rw[ND]at hl ⊢;exact .of_eq (h us hl)
noncomputable def uZ(CX:t9)(X:Cx)(E:XK):Prop:=∀(pins:aM)(σ:St)(H:Hp)(s:QR)(e:QM)(s':QR),Inv X pins σ H s->CX X.stack H s E e s'->X.xe e s'
section
variable{X:Cx}{CX:t9}{k:Nat}{f C:QO}{fd:RH}{ps:av}{sp:Sp}{dvs:aH}{ds:aS}{E:XK}{x m:Str}{p pos apos:Pos}{e o:QP}{es:aR}{ta:TE}{t:TA}
structure Mk(K:Pn)(C f:QO):Prop where
 makes:PD K C=true
 init:Pt K (.ref C) "__init__"=some (some (.ref f))
 fn:Px K (.ref f)=true
 kp:PQ K (.ref C)=true
theorem Ah{pins:aM}{σ:St}{H:Hp}{s:QR}{Q:VK}{us:aS}{vs:aH}(M:Mk X.K C f)(F:eW X.prog X.w X.K X.mg X.base CX k f fd ps sp)(hr:dY (k+1) X.A)(hb:Binds X.K fd ps ds)(hd:Vals dvs ds)
  (hx:uZ CX X E) (I:Inv X pins σ H s) (r:Vals vs us)
  (h:∀x dx,H x=none->H dx=none->dx≠x->sp (.ref x::(vs++dvs)) (upd (upd H dx (.own x)) x (.ins C dx [])) (λv H2=>v=.non/\Q (.ref x) H2) E):
  Rc (model X.prog X.w) X.A (call (.ref C) us) (EP X pins σ Q) X.xe s:=by
 have hq:=h (s.heap.objs.size+1) s.heap.objs.size (I.hok.fresh (NE _)) (I.hok.fresh (Nt _)) (Nc (NB _));have I2:=Inv.made (C:=C) I;have r2:Vals (V.ref (s.heap.objs.size+1)::(vs++dvs)) (Value.ref (s.heap.objs.size+1)::(us++ds)):=.cons rfl (r.append hd);have hl:(Value.ref (s.heap.objs.size+1)::us++ds).length=ps.length:=by
  have e:=r2.length;rw[F.len _ _ _ _ hq]at e;exact e.symm
 refine RK (y9 (f:=f) I.kIn M.makes M.init (beq_iff_eq.mp M.fn) (RL (F.run _ X.stack _ _ ⟨Value.ref (s.heap.objs.size+1)::us,[]⟩ (Value.ref (s.heap.objs.size+1)::(us++ds)) _ _ E (hr.make C us [])
  (I2.env0.make C us []) (hb _ (Value.ref (s.heap.objs.size+1)::us) I2.kIn hl) r2 hq) λr s' hq'=>?_))
 cases r with
 |error e=>exact hx pins σ _ _ e s' I2 hq'
 |ok fl=>
  cases fl with
  |ret u=>
   obtain⟨v,H',I3,rv,ev,q3⟩:=I2.after hq';subst ev;exact⟨rv,⟨V.ref (s.heap.objs.size+1),H',I3,rfl,q3⟩⟩
  |next=>exact False.elim hq'
  |brk=>exact False.elim hq'
  |cont=>exact False.elim hq'
theorem Do(M:Mk X.K C f)(F:eW X.prog X.w X.K X.mg X.base CX k f fd ps sp)(hr:dY (k+1) X.A)(hg:Gl X x)(hm:X.mg x=some (.ref C))(hb:Binds X.K fd ps ds)(hd:Vals dvs ds)(hx:uZ CX X E)
  (ha:PA X (e::es) t) (hdb:(x==("__debug__":Str))=false:=by decide) (he:Rf (e::es) X.env=(false,eval e X.env)::Rf es X.env:=by rfl) (hpl:(backTo pos (Rf es X.env)).any (·.1)=false:=by rfl):
  PE X (.Call (.Name x p) (e::es) [] pos) (HE C sp dvs E t):=by
 intro pins s σ H Q I h;refine RM (g9 I hg hm ?_ hdb);refine PR (h₀:=X.base) I.ok.mod.kin M.kp (bU (ha pos pins s σ H _ I h) λus s1 ⟨vs,H1,I1,r,q⟩=>⟨I1.kIn,?_⟩) he hpl;exact Ah M F hr hb hd hx I1 r q
end
structure bX(N P:av)(sc:Ra):Prop where
 kind:sc.kind=.function
 co:sc.isCoroutine=false
 gen:sc.isGenerator=false
 nd:N.Nodup
 pre:N.take P.length=P
 par:∀x∈P,sc.names.lookup x=some .local\/sc.names.lookup x=some .cell
 nofree:∀y∈sc.names,y.2≠.free
theorem oX{kindOf:Str->Option QN}{x:Str}:∀{binds:List (Str×QM)}{m:bF},(∀v,(x,v)∉binds)->bindL kindOf binds m x=m x
 |[],_,_=>rfl
 |(n,v)::r,m,h=>by
  unfold bindL;rw[oX λw hw=>h w (Nj _ hw)];split
  ·have:x≠n:=(by rintro rfl;exact h v Ni);simp[this]
  ·rfl
theorem pH{kindOf:Str->Option QN}{x:Str}:∀{binds:List (Str×QM)}{m:bF},(∀v,(x,v)∉binds)->bindC kindOf binds m x=m x
 |[],_,_=>rfl
 |(n,v)::r,m,h=>by
  unfold bindC;rw[pH λw hw=>h w (Nj _ hw)];split
  ·rfl
  ·have:x≠n:=(by rintro rfl;exact h v Ni);simp[this]
theorem pp{kindOf:Str->Option QN}{x:Str}{v:QM}:∀{P:av}{vs:aS}{i:Nat}{m:bF},P.Nodup->P[i]?=some x->vs[i]?=some v->kindOf x=some .local->
  bindL kindOf (P.zip vs) m x=some v
 |[],_,_,_,_,h,_,_=>by simp at h
 |_::_,[],_,_,_,_,h,_=>by simp at h
 |p::P,w::vs,0,m,nd,h1,h2,hk=>by
  simp at h1 h2;subst h1;subst h2;show bindL kindOf ((p,w)::P.zip vs) m p=_;unfold bindL;rw[oX λv hv=>(List.nodup_cons.mp nd).1 (NF hv).1,if_pos hk];simp
 |p::P,w::vs,i+1,m,nd,h1,h2,hk=>by
  show bindL kindOf ((p,w)::P.zip vs) m x=_;unfold bindL;exact pp (i:=i) (List.nodup_cons.mp nd).2 (by simpa using h1) (by simpa using h2) hk
theorem pB{kindOf:Str->Option QN}{x:Str}{v:QM}:∀{P:av}{vs:aS}{i:Nat}{m:bF},P.Nodup->P[i]?=some x->vs[i]?=some v->kindOf x≠some .local->
  bindC kindOf (P.zip vs) m x=some v
 |[],_,_,_,_,h,_,_=>by simp at h
 |_::_,[],_,_,_,_,h,_=>by simp at h
 |p::P,w::vs,0,m,nd,h1,h2,hk=>by
  simp at h1 h2;subst h1;subst h2;show bindC kindOf ((p,w)::P.zip vs) m p=_;unfold bindC;rw[pH λv hv=>(List.nodup_cons.mp nd).1 (NF hv).1,if_neg hk];simp
 |p::P,w::vs,i+1,m,nd,h1,h2,hk=>by
  show bindC kindOf ((p,w)::P.zip vs) m x=_;unfold bindC;exact pB (i:=i) (List.nodup_cons.mp nd).2 (by simpa using h1) (by simpa using h2) hk
noncomputable def start(N:av)(vs:aH):St:=vs.map some++List.replicate (N.length-vs.length) none
noncomputable def ir(CX:t9)(P:QT)(w:QS)(K:Pn)(mg:bF)(base:QV)(N:av)(qual:Str)(scope:Ra)(f:QO)(cd:QM)(A:QZ)(outer:List Env)(s:QR)(H:Hp)(E:XK):Cx where
 prog:=P
 w:=w
 K:=K
 mg:=mg
 base:=base
 A:=A.deeper (envOfC qual scope s.heap.objs.size f cd)
 N:=N
 s₀:=s
 H₀:=H
 env:=envOfC qual scope s.heap.objs.size f cd
 outer:=outer
 stack:=envOfC qual scope s.heap.objs.size f cd::outer
 ex:=[]
 calm:=true
 fn:=λ_=>true
 pn:=[]
 xe:=λe s'=>Rc (model P w) (A.deeper (envOfC qual scope s.heap.objs.size f cd)) (leaving (envOfC qual scope s.heap.objs.size f cd) e) (λ_ s''=>CX outer H s E e s'') (λe' s''=>CX outer H s E e' s'') s'
theorem rR{sc:Ra}{n:Nat}{x:Str}(h:sc.names.lookup x=some .cell):∃c,(cellsFrom n sc.names []).lookup x=some c:=by
 have q:=PV sc.names n [] (.inl h);exact Option.isSome_iff_exists.mp q
theorem yv{CX:t9}{P:QT}{w:QS}{K:Pn}{mg:bF}{base:QV}{N ps:av}{qual:Str}{scope:Ra}{f:QO}{cd:QM}{A:QZ}{outer:List Env}{s s1:QR}{H:Hp}{E:XK}{us:aS}{vs:aH}
  (S:bX N ps scope) (hd:A.handled=none) (e0:yB P w K mg base A outer s H) (hl:vs.length=ps.length) (r:Vals vs us)
  (x:InCallC s s.heap.objs.size (bindL (envOfC qual scope s.heap.objs.size f cd).kindOf (ps.zip us) λ_=>none) (cellsFrom (s.heap.objs.size+1) scope.names []) (bindC (envOfC qual scope s.heap.objs.size f cd).kindOf (ps.zip us) λ_=>none) s1):
  Inv (ir CX P w K mg base N qual scope f cd A outer s H E) [] (start N vs) H s1:=by
 have hpl:ps.length<=N.length:=by have:=congrArg List.length S.pre;rw[NI]at this;omega
 obtain⟨h1,tk,rfl,hk⟩:=x.done;have noA:∀b:QO,b∉(ir CX P w K mg base N qual scope f cd A outer s H E).ex:=λb z=>absurd (show b∈([]:aD)from z) (by simp);refine⟨⟨e0.mod,S.kind,rfl,rfl,Nt _,λy z c h1 h2=>?_,λy hy=>?_,λy c _ h=>?_,λ_=>hd,Around.frames_deeper e0.frames,.inr ⟨rfl,rfl⟩,λb z=>absurd z (noA b),e0.bs,e0.bsz,λb _ _=>noA b,λb z=>absurd z (noA b),e0.funs,e0.frf⟩,
  rfl,e0.bare,Un.kept hk,⟨_,x.toInCall.ns,λi y v h1 h2 h3=>?_⟩,λy c h=>⟨_,x.cell y c h⟩,e0.hok.fresh (Nt _),λy c h=>?_,λp hp=>absurd (show p∈([]:aM)from hp) (by simp),e0.hok.kept hk,?_⟩
 ·exact name_of_addr x.apart (PySem.mem_of_lookup h1) (PySem.mem_of_lookup h2)
 ·have hy:scope.names.lookup y=some .cell\/scope.names.lookup y=some .free:=hy;rcases hy with hy|hy
  ·exact rR hy
  ·exact absurd rfl (S.nofree _ (PySem.mem_of_lookup hy))
 ·exact Ng (x.above y c (PySem.mem_of_lookup h))
 ·have hi:i<vs.length:=by
   unfold start at h2;by_cases hi:i<vs.length
   ·exact hi
   ·rw[NK (by simpa using hi)]at h2;rw[NM]at h2;split at h2<;>cases h2
  have ha:vs[i]?=some v:=by
   unfold start at h2;rw[NN (by simpa using hi),NP]at h2;cases e:vs[i]? with
   |none=>rw[e]at h2;cases h2
   |some a=>rw[e]at h2;cases h2;rfl
  obtain⟨u,hu,rv⟩:=r.get ha;have hp:ps[i]?=some y:=by
   rw[<-S.pre,List.getElem?_take_of_lt ‹0›];exact h1
  have ndP:ps.Nodup:=by rw[<-S.pre];exact S.nd.sublist (List.take_sublist _ _)
  refine⟨u,rv,?_⟩;rcases S.par y (NQ hp)with k|k
  ·exact .inl ⟨k,pp ndP hp hu k⟩
  ·obtain⟨c,e⟩:=rR (n:=s.heap.objs.size+1) k;refine .inr ⟨.inl k,c,e,?_⟩;have q:=x.cell y c e;rw[pB ndP hp hu (by show scope.names.lookup y≠_;rw[k];decide)]at q;exact q
 ·exact e0.hok.fresh (Ng (x.above y c (PySem.mem_of_lookup h)))
 ·unfold start;show _=N.length;rw[NR,Ny,List.length_replicate];omega
theorem DW{CX:t9}{P:QT}{w:QS}{K:Pn}{mg:bF}{base:QV}{k:Nat}{f:QO}{name qual:Str}{params:Arguments}{body:cF}{scope:Ra}{dV kV doc pm cdv ct oc:QM}{an od:Option QO}
  {osl:Array gZ} {N ps:av} {sp:Sp} (lk:K.lookup f=some ⟨oc,od,.func (PX name qual params body scope dV kV doc pm an cdv ct),osl⟩) (hcd:PY K cdv qual=true) (S:bX N ps scope)
  (len:∀vs H Q E,sp vs H Q E->vs.length=ps.length)
  (hbody:∀ (A:QZ) (outer:List Env) (s:QR) (H:Hp) (vs:aH) (Q:VK) (E:XK),dY k (A.deeper (envOfC qual scope s.heap.objs.size f cdv))->sp vs H Q E ->
   ∃t,pR (ir CX P w K mg base N qual scope f cdv A outer s H E) body t/\t {nx:=λ_ H'=>Q .non H',rt:=Q} (start N vs) H):
  eW P w K mg base CX (k+1) f (PX name qual params body scope dV kV doc pm an cdv ct) ps sp:=by
 refine⟨len,λA outer s H args us vs Q E hr e0 hb r hsp=>?_⟩;have hl:=len _ _ _ _ hsp;have KX:K.In s.heap:=e0.mod.kin.keeps λb o e=>(e0.bs b o e).1;have lim:s.heap.NoLimit:=e0.mod.nolimit.keeps λb o e=>(e0.bs b o e).1;have hkind:∀y∈ps.zip us,scope.names.lookup y.1=some .local\/(scope.names.lookup y.1=some .cell/\((cellsFrom (s.heap.objs.size+1) scope.names []).lookup y.1).isSome=true):=λ⟨n,v⟩ hy=>by
  rcases S.par n (NF hy).1 with q|q
  ·exact .inl q
  ·exact .inr ⟨q,PV _ _ _ (.inl q)⟩
 refine codeAny_call_function hr.depth (KX _ _ lk) rfl S.co S.gen rfl (PySem.W.codeRec_of KX hcd) (hb _ _ _ _ ?_);refine wpAny_newFunctionEnv_cells S.kind hkind λenv he s1 x=>?_;subst he;refine⟨lim.keeps x.toInCall.keep,codeAny_func ?_⟩;obtain⟨t,ht,hq⟩:=hbody A outer s H vs Q E (hr.deeper _) hsp;have I:Inv (ir CX P w K mg base N qual scope f cdv A outer s H E) [] (start N vs) H s1:=yv S hr.hd e0 hl r x;refine Rg (ht [] s1 (start N vs) H _ I hq) (λfl s' hs=>?_) λe s' hs=>hs;have fin:∀{σ':St}{H':Hp}{v:V}{u:QM},Inv (ir CX P w K mg base N qual scope f cdv A outer s H E) [] σ' H' s'->RelV v u->Q v H'->CE outer P w H s Q u s':=
  λ{σ' H' v u} J rv q=>⟨v,H',J.os,J.bare,J.base,J.hok,rv,q⟩
 cases fl with
 |ret u=>
  obtain⟨v,σ',H',J,rv,q⟩:=hs;exact fin J rv q
 |next=>
  obtain⟨σ',H',J,q⟩:=hs;exact fin (v:=V.non) (u:=Value.none) J rfl q
 |brk=>
  obtain⟨_,_,_,q⟩:=hs;exact False.elim q
 |cont=>
  obtain⟨_,_,_,q⟩:=hs;exact False.elim q
section
variable{X:Cx}{x:Str}{p pos:Pos}{e:QP}{es:aR}{t:TA}{id T:String}{r:aH->Hp->VK->Prop}
noncomputable def IL(r:aH->Hp->VK->Prop)(t:TA):TE:=λσ H Q=>t σ H λvs H1=>r vs H1 Q
theorem fZ(hc:dh X (.builtin id) r)(hg:Gl X x)(hm:X.mg x=none)(hv:QY x=some (.builtin id))(ha:PA X (e::es) t)(hn:x≠"__name__":=by decide)(hdb:(x==("__debug__":Str))=false:=by decide)
  (he:Rf (e::es) X.env=(false,eval e X.env)::Rf es X.env:=by rfl) (hpl:(backTo pos (Rf es X.env)).any (·.1)=false:=by rfl):PE X (.Call (.Name x p) (e::es) [] pos) (IL r t):=by
 intro pins s σ H Q I h;refine RM (kI I hg hm hv ?_ hn hdb);exact PyProof.Rows.callWith_builtin1 (bU (ha pos pins s σ H _ I h) λus s1 ⟨vs,H1,I1,r1,q1⟩=>hc pins s1 σ H1 vs us Q I1 r1 q1) he hpl
theorem wF(hc:dh X (.type T) r)(hg:Gl X x)(hm:X.mg x=none)(hv:QY x=some (.type T))(ha:PA X (e::es) t)(hn:x≠"__name__":=by decide)(hdb:(x==("__debug__":Str))=false:=by decide)
  (he:Rf (e::es) X.env=(false,eval e X.env)::Rf es X.env:=by rfl) (hpl:(backTo pos (Rf es X.env)).any (·.1)=false:=by rfl):PE X (.Call (.Name x p) (e::es) [] pos) (IL r t):=by
 intro pins s σ H Q I h;refine RM (kI I hg hm hv ?_ hn hdb);exact Qx (bU (ha pos pins s σ H _ I h) λus s1 ⟨vs,H1,I1,r1,q1⟩=>hc pins s1 σ H1 vs us Q I1 r1 q1) he hpl
end
end L2
namespace HT
open PySem PyProof.Rows
theorem Hq(A:QZ)(s:QR)(a:Int)(t:Tok)(c:Int)(u:Tok)(prog:QT)(w:QS)(E:QM->QR->Prop)(Q:QM->QR->Prop)(h:Q (.bool (decide (a<c))) s):
  Rc (model prog w) A (richCompare .Lt (.int a t) (.int c u)) Q E s:=
 (PyProof.Rows.lt_int h:Rc (model prog w) A (Rj .Lt (.int a t) (.int c u)) Q E s)
section
open PySem.SeqAt
open PySem.AutoSeq1 (wpAny_loadPart')
open PySem.MeetsSeq PySem.MeetsSeq2 PySem.MeetsSeq3
end
section
variable{prog:QT}{w:QS}{A:QZ}{E:QM->QR->Prop}{s:QR}
theorem Jk{t b:QO}{vs ws:List QM}{Q:QM->QR->Prop}(ht:IsTup s.heap t vs.toArray)(hb:IsTup s.heap b ws.toArray)(hv:vs≠[])
  (h1:ws=[]->Q (.ref t) s) (h2:ws≠[]->Q (.ref s.heap.objs.size) {s with heap:=s.heap.push {cls:=.type "tuple",data:=.seq (vs++ws).toArray}})
  (hsz:vs.length+ws.length<=QW):Rc (model prog w) A (Ru .Add (.ref t) (.ref b)) Q E s:=by
 obtain⟨⟨cls,dd,data,sl⟩,ho,hc,n,hd⟩:=id ht;obtain⟨⟨cls2,dd2,data2,sl2⟩,ho2,hc2,n2,hd2⟩:=id hb;simp only at hc hd hc2 hd2;subst hc hd hc2 hd2;have e:vs.toArray++ws.toArray=(vs++ws).toArray:=by simp
 by_cases hw:ws=[]
 ·exact RN ⟨_,ho,rfl⟩ ⟨_,ho2,rfl⟩ RO RP QE QF (QG _ _)
   (tuple_addW1 t b vs.toArray ws.toArray n n2 dd dd2 sl sl2 (by simpa using hv) (by simp[hw])) ⟨ho,ho2,h1 hw⟩
 ·refine RN ⟨_,ho,rfl⟩ ⟨_,ho2,rfl⟩ RO RP QE QF (QG _ _)
   (tuple_addW2 t b vs.toArray ws.toArray n n2 dd dd2 sl sl2 (by simpa using hv) (by simpa using hw) (by rw[Nv,Nv];exact hsz)) ⟨ho,ho2,?_⟩
  rw[e];exact h2 hw
noncomputable def sIx(n d:Nat):Option Int->Nat
 |none=>d
 |some v=>if v<0 then(v+(n:Int)).toNat else min v.toNat n
theorem IB(n d:Nat):sIx n d none=d:=rfl
theorem IU(n d k:Nat):sIx n d (some (k:Int))=min k n:=by
 show(if(k:Int)<0 then((k:Int)+(n:Int)).toNat else min (k:Int).toNat n)=min k n;rw[if_neg ‹0›,NS]
theorem FP(n d:Nat)(hd:d<=n)(o:Option Int):sIx n d o<=n:=by
 cases o with
 |none=>exact hd
 |some v=>
  show(if v<0 then(v+(n:Int)).toNat else min v.toNat n)<=n;by_cases hv:v<0
  ·rw[if_pos hv];omega
  ·rw[if_neg hv];exact Nat.min_le_right _ _
theorem wf(v:Int)(n d:Nat):(if v<0 then max (v+(n:Int)) 0 else min v (n:Int))=((sIx n d (some v):Nat):Int):=by
 show(if v<0 then max (v+(n:Int)) 0 else min v (n:Int))=(((if v<0 then(v+(n:Int)).toNat else min v.toNat n):Nat):Int)
 by_cases hv:v<0
 ·simp only[if_pos hv];omega
 ·simp only[if_neg hv];omega
theorem uX(lo hi:Option Int)(n:Nat):Builtin.Slice.sliceAdjust lo hi 1 (n:Int)=(((sIx n 0 lo:Nat):Int),((sIx n n hi:Nat):Int)):=by
 have h1:¬((1:Int)<0):=by omega
 unfold Builtin.Slice.sliceAdjust;simp only[h1,if_false];refine Prod.ext ?_ ?_
 ·cases lo with
  |none=>rfl
  |some v=>exact wf v n 0
 ·cases hi with
  |none=>rfl
  |some v=>exact wf v n n
theorem t7(i j:Nat):Builtin.Slice.slicePlaces (i:Int) (j:Int) 1=j-i:=by
 unfold Builtin.Slice.slicePlaces;have h1:(1:Int)>0:=by omega
 simp only[h1,if_true,Int.ediv_one];split<;>omega
theorem n6{v:QM}{o:Option Int}{Q:Option Int->QR->Prop}(p:RQ v o)(h:Q o s):Rc (model prog w) A (Builtin.Slice.slicePartIndex v) Q E s:=by
 cases p with
 |none=>exact slicePart_none h
 |int i t=>exact slicePart_int h
theorem li{sl:QO}{vl vu:QM}{lo hi:Option Int}{n:Nat}{Q:Int×Int×Nat->QR->Prop}(hs:s.heap.IsSliceOf sl vl vu .none)(pl:RQ vl lo)(pu:RQ vu hi)
  (h:Q (((sIx n 0 lo:Nat):Int),1,sIx n n hi-sIx n 0 lo) s):Rc (model prog w) A (Builtin.Slice.sliceApplied (.ref sl) (pure (n:Int))) Q E s:=by
 obtain⟨os,hos,hcs,hds⟩:=id hs;unfold Builtin.Slice.sliceApplied Builtin.Slice.sliceFields;refine Rq (Rq (RT hos hds (x:=vl) rfl (Rq (RT hos hds (x:=vu) rfl (Rq (RT hos hds (x:=.none) rfl (Rp ?_)))))));refine Rq (slicePart_none ?_);show Rc _ _ (if((1:Int)==0)=true then _ else _) _ _ s;rw[if_neg (by decide)];refine Rq (n6 pl (Rq (n6 pu (Rq (Rp ?_)))));show Rc _ _ (match Builtin.Slice.sliceAdjust lo hi 1 (n:Int)with|(lo,hi)=>pure (lo,(1:Int),Builtin.Slice.slicePlaces lo hi 1)) _ _ s;rw[uX lo hi n];show Rc _ _ (pure (((sIx n 0 lo:Nat):Int),(1:Int),Builtin.Slice.slicePlaces ((sIx n 0 lo:Nat):Int) ((sIx n n hi:Nat):Int) 1)) _ _ s;rw[t7];exact Rp h
theorem AZ(xs:Array QM)(i k:Nat):((List.range k).filterMap λ(m:Nat)=>xs[((i:Int)+(m:Int)*1).toNat]?).toArray=((xs.toList.drop i).take k).toArray:=by
 have e:(λ(m:Nat)=>xs[((i:Int)+(m:Int)*1).toNat]?)=λm=>xs[i+m]?:=by
  funext m
  have:((i:Int)+(m:Int)*1).toNat=i+m:=by omega
  rw[this]
 rw[e]
 have:=pick_run xs i k
 rw[List.filterMap_map]at this;have e2:((λx=>xs[x]?)∘λx=>i+x)=λm=>xs[i+m]?:=rfl;rw[e2]at this;rw[this]
theorem vX{t sl:QO}{items:Array QM}{vl vu:QM}{lo hi:Option Int}{Q:QM->QR->Prop}(ht:IsTup s.heap t items)(hs:s.heap.IsSliceOf sl vl vu .none)(pl:RQ vl lo)(pu:RQ vu hi)
  (hw:¬(sIx items.size 0 lo=0/\sIx items.size items.size hi=items.size))
  (h:Q (.ref s.heap.objs.size) {s with heap:=s.heap.push {cls:=.type "tuple",data:=.seq ((items.toList.drop (sIx items.size 0 lo)).take (sIx items.size items.size hi-sIx items.size 0 lo)).toArray}})
  (hsz:items.size<=QW):Rc (model prog w) A (getItem (.ref t) (.ref sl)) Q E s:=by
 have htake:sizeOk (.seq ((items.toList.drop (sIx items.size 0 lo)).take (sIx items.size items.size hi-sIx items.size 0 lo)).toArray):=by
  show((items.toList.drop (sIx items.size 0 lo)).take (sIx items.size items.size hi-sIx items.size 0 lo)).toArray.size<=QW;rw[Nv,NI,NT,Array.length_toList];omega
 have hj:sIx items.size items.size hi<=items.size:=FP _ _ (Nt _) hi;obtain⟨os,hos,hcs,hds⟩:=id hs;have hTs:s.TypeIs (.ref sl) "slice":=⟨os,hos,hcs⟩
 unfold getItem
 try with_reducible refine RU ?_
 first|refine Rq (Rp ?_)|skip
 refine Rq (wpAny_sequenceKey ht.typeIs (by decide) ?_);refine Rq (RV (name:=Str.ofString "__getitem__") ht.typeIs Qy
  (RW Qy ht.typeIs entry_tuple_getitem ?_ (args_tuple_getitem _ _)))
 show Rc _ _ (Builtin.Tuple.tupleItemsOf (.ref t) >>= _) _ _ s;refine Rq (tupleItemsOf_ ht ?_);refine Rq (RX hTs ?_);rw[if_pos (by decide)];refine Rq (li hs pl pu ?_);have hno:¬((((sIx items.size 0 lo:Nat):Int)==0&&(1:Int)==1&&(sIx items.size items.size hi-sIx items.size 0 lo)==items.size)=true):=by
  intro q;rw[NU,NU]at q;have q1:((sIx items.size 0 lo:Nat):Int)=0:=eq_of_beq q.1.1;have q2:sIx items.size items.size hi-sIx items.size 0 lo=items.size:=eq_of_beq q.2;exact hw ⟨by omega,by omega⟩
 show Rc _ _ (if(((sIx items.size 0 lo:Nat):Int)==0&&(1:Int)==1&&(sIx items.size items.size hi-sIx items.size 0 lo)==items.size)=true then _ else _) _ _ s;rw[if_neg hno,AZ]
 first
  |exact Rq (m:=Builtin.Tuple.tupleExact _) (RY (Rp ⟨_,rfl,Rp h⟩) htake)
  |exact Rq (m:=Builtin.Tuple.tupleExact _) (RY (Rq (Rp (Rp ⟨_,rfl,Rp h⟩))) htake)
  |exact Rq (Rq (m:=Builtin.Tuple.tupleExact _) (RY (Rp (Rp ⟨_,rfl,Rp h⟩)) htake))
  |exact Rq (Rq (m:=Builtin.Tuple.tupleExact _) (RY (Rp ⟨_,rfl,Rp h⟩) htake))
end
end HT
namespace L2
open PySem PySem.Spec PyProof.Rows
noncomputable abbrev TO:=St->Hp->(cA->Hp->Prop)->Prop
noncomputable def PO(X:Cx)(e:Option QP)(t:TO):Prop:=
 ∀(pins:aM)(s:QR)(σ:St)(H:Hp)(Q:cA->Hp->Prop),Inv X pins σ H s->t σ H Q->
  Rc (model X.prog X.w) X.A (evalPart e X.env) (λu s'=>∃o H',Inv X pins σ H' s'/\RQ u o/\Q o H') X.xe s
noncomputable def CK:TO:=λ_ H Q=>Q none H
noncomputable def HZ(t:TE):TO:=λσ H Q=>t σ H λx H1=>∃i,x=.int i/\Q (some i) H1
section
variable{X:Cx}{e:QP}{te:TE}{lo hi:Option QP}{tl th:TO}{pos p2:Pos}
theorem Bu:PO X none CK:=by
 intro pins s σ H Q I h;rw[evalPart_none];exact Rp ⟨none,H,I,.none,h⟩
theorem CJ(h:PE X e te):PO X (some e) (HZ te):=by
 intro pins s σ H Q I hw;rw[evalPart_some];refine bU (h pins s σ H _ I hw) λu s1 ⟨x,H1,I1,r1,q1⟩=>?_;obtain⟨i,rfl,q⟩:=q1;obtain⟨t,rfl⟩:=r1;exact⟨some i,H1,I1,.int i t,q⟩
noncomputable def IR(X:Cx)(r:V->cA->cA->Hp->VK->Prop):Prop:=
 ∀(pins:aM)(s:QR)(σ:St)(H:Hp)(x:V)(v vl vu:QM)(lo hi:cA)(sl:QO)(Q:VK),Inv X pins σ H s->RelV x v->s.heap.IsSliceOf sl vl vu .none->RQ vl lo->RQ vu hi->r x lo hi H Q->
  ∃T id,typeLookup (.type T) "__getitem__"=pure (some (.builtin id))/\s.TypeIs v T/\Rc (model X.prog X.w) X.A (getItem v (.ref sl)) (EP X pins σ Q) X.xe s
noncomputable def MA(r:V->cA->cA->Hp->VK->Prop)(te:TE)(tl th:TO):TE:=λσ H Q=>te σ H λx H1=>tl σ H1 λl H2=>th σ H2 λu H3=>r x l u H3 Q
theorem zD{r:V->cA->cA->Hp->VK->Prop}(hr:IR X r)(he:PE X e te)(hl:PO X lo tl)(hu:PO X hi th):PE X (.Subscript e (.Slice lo hi none p2) pos) (MA r te tl th):=by
 intro pins s σ H Q I h;refine Subscript_ (bU (he pins s σ H _ I h) λv s1 ⟨x,H1,I1,r1,q1⟩=>?_);refine wpAny_Slice (bU (hl pins s1 σ H1 _ I1 q1) λvl s2 ⟨l,H2,I2,pl,q2⟩=>bU (hu pins s2 σ H2 _ I2 q2) λvu s3 ⟨u,H3,I3,pu,q3⟩=>?_);rw[evalPart_none];refine Rp ?_;have I4:Inv X pins σ H3 {s3 with heap:=s3.heap.push {cls:=.type "slice",data:=.fields #[vl,vu,.none]}}:=I3.kept (t':=s3.toks) λb ob q=>Qp _ q;obtain⟨T,id,hT,ht,hg⟩:=hr pins {s3 with heap:=s3.heap.push {cls:=.type "slice",data:=.fields #[vl,vu,.none]}} σ H3 x v vl vu l u s3.heap.objs.size Q I4 r1 (Heap.IsSliceOf.new ..) pl pu q3;show Rc (model X.prog X.w) X.A (subscriptTail e (.Slice lo hi none p2) v (.ref s3.heap.objs.size)) (EP X pins σ Q) X.xe {s3 with heap:=s3.heap.push {cls:=.type "slice",data:=.fields #[vl,vu,.none]}};exact tail_any (ops:=[.ref s3.heap.objs.size,v]) ht hT hg (by with_unfolding_all rfl)
noncomputable def sf(xs:aH)(lo hi:cA):aH:=(xs.drop (HT.sIx xs.length 0 lo)).take (HT.sIx xs.length xs.length hi-HT.sIx xs.length 0 lo)
theorem ly(xs:aH)(lo hi:cA):(sf xs lo hi).length<=xs.length:=by
 unfold sf;rw[NI,NT];omega
noncomputable def KL(K:Pn):V->cA->cA->Hp->VK->Prop:=λx lo hi H Q=>∃a xs,x=.ref a/\lu K H a xs/\
 ¬(HT.sIx xs.length 0 lo=0/\HT.sIx xs.length xs.length hi=xs.length)/\∀p,H p=none->Q (.ref p) (upd H p (.tup (sf xs lo hi)))
theorem FL:IR X (KL X.K):=by
 intro pins s σ H x v vl vu lo hi sl Q I rx hs pl pu h;obtain⟨a,xs,rfl,hx,hw,q⟩:=h;cases rx;obtain⟨its,r,ht,hz⟩:=I.tuple hx;have hlen:its.toArray.size=xs.length:=by rw[Nv];exact r.length.symm
 refine⟨"tuple",_,PyProof.Rows.slot_tuple_getitem.lookup,ht.typeIs,?_⟩;refine HT.vX ht hs pl pu (by rw[hlen];exact hw) ?_ (by rw[hlen];exact hz);rw[hlen];refine⟨.ref s.heap.objs.size,_,I.laid (t':=s.toks) (o:=.tup (sf xs lo hi)) (λb ob q=>Qp _ q) (Nt _) ?_,rfl,q _ (I.hok.fresh (Nt _))⟩;exact⟨Nf (ly xs lo hi) hz,_,(r.drop (HT.sIx xs.length 0 lo)).take (HT.sIx xs.length xs.length hi-HT.sIx xs.length 0 lo),IsTup.new _ _⟩
noncomputable def Ho(K:Pn):R2:=λx y H Q=>∃a b xs ys,x=.ref a/\y=.ref b/\lu K H a xs/\lu K H b ys/\xs≠[]/\xs.length+ys.length<=QW/\
 (ys=[]->Q (.ref a) H)/\(ys≠[]->∀p,H p=none->Q (.ref p) (upd H p (.tup (xs++ys))))
theorem Vals.nil_iff{xs:aH}{us:aS}(r:Vals xs us):us=[]↔xs=[]:=by
 cases r with
 |nil=>simp
 |cons _ _=>simp
theorem CT:ib X (Ru .Add) (Ho X.K):=by
 intro pins s σ H x y v u Q I rx ry h;obtain⟨a,b,xs,ys,rfl,rfl,ha,hb,hx,hz,q1,q2⟩:=h;cases rx;cases ry;obtain⟨its,r1,p1,_⟩:=I.tuple ha;obtain⟨its2,r2,p2,_⟩:=I.tuple hb;refine HT.Jk p1 p2 (λz=>hx (r1.nil_iff.mp z)) (λz=>⟨.ref a,H,I,rfl,q1 (r2.nil_iff.mp z)⟩) (λz=>?_) (by rw[<-r1.length,<-r2.length];exact hz);refine⟨.ref s.heap.objs.size,_,I.laid (t':=s.toks) (o:=.tup (xs++ys)) (λb ob q=>Qp _ q) (Nt _) ?_,rfl,q2 (λw=>z (r2.nil_iff.mpr w)) _ (I.hok.fresh (Nt _))⟩;exact⟨by rw[NR];exact hz,_,r1.append r2,IsTup.new _ _⟩
end
noncomputable def Gk(n:Nat)(i:Int):Option Nat:=if 0<=i then(if i<n then some i.toNat else none)else if -(n:Int)<=i then some (i+n).toNat else none
noncomputable def kD{α:Type}(xs:List α)(i:Int):Option α:=(Gk xs.length i).bind λj=>xs[j]?
theorem C2{n:Nat}{i:Int}{j:Nat}(h:Gk n i=some j):seqIndex? i n=some j/\j<n/\-(n:Int)<=i/\i<n:=by
 unfold Gk at h;by_cases h0:0<=i
 ·rw[if_pos h0]at h;by_cases h1:i<n
  ·rw[if_pos h1]at h;have e:i.toNat=j:=Option.some.inj h;exact⟨by rw[seqIndex_of h0 h1,e],by omega,by omega,h1⟩
  ·rw[if_neg h1]at h;cases h
 ·rw[if_neg h0]at h;by_cases h1:-(n:Int)<=i
  ·rw[if_pos h1]at h;have e:(i+n).toNat=j:=Option.some.inj h;exact⟨by rw[seqIndex_neg ‹0› h1,e],by omega,h1,by omega⟩
  ·rw[if_neg h1]at h;cases h
theorem ql{α:Type}{xs:List α}{i:Int}{v:α}(h:kD xs i=some v):∃j,seqIndex? i xs.length=some j/\xs[j]?=some v/\j<xs.length/\-(xs.length:Int)<=i/\i<xs.length:=by
 unfold kD at h;cases e:Gk xs.length i with
 |none=>rw[e]at h;cases h
 |some j=>
  rw[e]at h;obtain⟨h1,h2,h3,h4⟩:=C2 e;exact⟨j,h1,h,h2,h3,h4⟩
noncomputable def qo(b:QP):Prop:=∀o i,subscripted b false o i=operate [o,i] (getItem o i)
noncomputable def HI(X:Cx)(r:R2):Prop:=
 ∀(value slice:QP)(pins:aM)(s:QR)(σ:St)(H:Hp)(x y:V)(v u:QM)(Q:VK),Inv X pins σ H s->RelV x v->RelV y u->r x y H Q->
  subscripted slice false v u=operate [v,u] (getItem v u)->Rc (model X.prog X.w) X.A (subscriptTail value slice v u) (EP X pins σ Q) X.xe s
noncomputable def JS(X:Cx)(id:String)(r:V->aH->Hp->VK->Prop):Prop:=
 ∀(pins:aM)(s:QR)(σ:St)(H:Hp)(x:V)(xs:aH)(v:QM)(us:aS)(Q:VK),Inv X pins σ H s->RelV x v->Vals xs us->r x xs H Q->
  Rc (model X.prog X.w) X.A (call (.builtin id) (v::us)) (EP X pins σ Q) X.xe s
section
variable{X:Cx}{a b:QP}{ta tb:TE}{pos:Pos}
theorem HN{r:R2}(hr:HI X r)(ha:PE X a ta)(hb:PE X b tb)(hs:qo b):PE X (.Subscript a b pos) (HS r ta tb):=by
 intro pins s σ H Q I h;exact Subscript_ (GV ha hb I h λv u s2 x y H2 I2 rx ry q=>hr a b pins s2 σ H2 x y v u Q I2 rx ry q (hs _ _))
noncomputable def Jw(K:Pn):R2:=λx y H Q=>∃p xs i v,x=.ref p/\y=.int i/\ju K H p xs/\kD xs i=some v/\Q v H
noncomputable def K2(K:Pn):R2:=λx y H Q=>∃p xs i v,x=.ref p/\y=.int i/\lu K H p xs/\kD xs i=some v/\Q v H
noncomputable def Kc:R2:=λx y H Q=>∃z i c,x=.str z/\y=.int i/\z.length<=QW/\kD z.cps.toList i=some c/\Q (.str ⟨#[c]⟩) H
theorem C3:HI X (Jw X.K):=by
 intro value slice pins s σ H x y v u Q I rx ry h hs;obtain⟨p,xs,i,z,rfl,rfl,hq,he,q⟩:=h;cases rx;obtain⟨t,rfl⟩:=ry;obtain⟨its,r,pl,hz⟩:=I.list hq;obtain⟨j,h1,h2,h3,h4,h5⟩:=ql he;obtain⟨w,ew,rw'⟩:=r.get h2;have hl:=r.length;have hn:=kL;have fin:EP X pins σ Q w s:=⟨z,H,I,rw',q⟩
 by_cases h0:0<=i
 ·have hj:i.toNat=j:=by
   rw[seqIndex_of h0 h5]at h1;exact Option.some.inj h1
  exact item_listR pl.isList h0 ‹0› (by rw[hj];simpa using ew) fin hs
 ·have hj:(i+(its.toArray.size:Int)).toNat=j:=by
   rw[seqIndex_neg ‹0› h4]at h1;rw[Nv,<-hl];exact Option.some.inj h1
  exact subscriptTail_builtinR (x:=w) pl.isList.typeIs slot_list_getitem.lookup
   (wpAny_getItem_list_neg (Q:=λr s'=>r=w/\EP X pins σ Q r s') pl.isList ‹0› (by rw[Nv]<;>omega) ‹0› (by rw[hj];simpa using ew) ⟨rfl,fin⟩) hs
theorem FJ:HI X (K2 X.K):=by
 intro value slice pins s σ H x y v u Q I rx ry h hs;obtain⟨p,xs,i,z,rfl,rfl,hq,he,q⟩:=h;cases rx;obtain⟨t,rfl⟩:=ry;obtain⟨its,r,pl,hz⟩:=I.tuple hq;obtain⟨j,h1,h2,h3,h4,h5⟩:=ql he;obtain⟨w,ew,rw'⟩:=r.get h2;have hl:=r.length;have hn:=kL;have fin:EP X pins σ Q w s:=⟨z,H,I,rw',q⟩
 exact subscriptTail_builtinR (x:=w) pl.typeIs slot_tuple_getitem.lookup
  (getItem_tuple (j:=j) (Q:=λr s'=>r=w/\EP X pins σ Q r s') pl ‹0› ‹0› (by rw[Nv,<-hl];exact h1) (by simpa using ew) ⟨rfl,fin⟩) hs
theorem FH:HI X Kc:=by
 intro value slice pins s σ H x y v u Q I rx ry h hs;obtain⟨z,i,c,rfl,rfl,hz,he,q⟩:=h;obtain⟨t,rfl⟩:=rx;obtain⟨t',rfl⟩:=ry;obtain⟨j,h1,h2,h3,h4,h5⟩:=ql he;have hl:z.cps.toList.length=z.length:=by simp[Str.length]
 rw[hl]at h1 h4 h5;have hn:=kL;exact tail_any (typeIs_str s z t) slot_str_getitem.lookup (getItem_str (c:=c) (by
  have e1:decide (i < -(2^63:Int))=false:=decide_eq_false ‹0›;have e2:decide (i>=2^63)=false:=decide_eq_false ‹0›;rw[e1,e2,Bool.or_false]) (by rw[h1];simpa using h2) ⟨.str ⟨#[c]⟩,H,I.tok _,⟨_,rfl⟩,q⟩) hs
theorem rA(lo hi:cA)(n:Nat):(sliceBounds lo hi none n).1=((HT.sIx n 0 lo:Nat):Int)/\(sliceBounds lo hi none n).2.1=((HT.sIx n n hi:Nat):Int)/\(sliceBounds lo hi none n).2.2=1:=by
 refine⟨?_,?_,rfl⟩
 ·cases lo with
  |none=>simp[sliceBounds,HT.sIx]
  |some i=>
   simp only[sliceBounds,HT.sIx,NV,show(1:Int)>0 by decide,if_true];by_cases h:i<0
   ·simp only[h,if_true]<;>omega
   ·simp only[h,if_false]<;>omega
 ·cases hi with
  |none=>simp[sliceBounds,HT.sIx]
  |some i=>
   simp only[sliceBounds,HT.sIx,NV,show(1:Int)>0 by decide,if_true];by_cases h:i<0
   ·simp only[h,if_true]<;>omega
   ·simp only[h,if_false]<;>omega
theorem oy(its:aS)(lo hi:cA):slicePick its.toArray lo hi none=((its.drop (HT.sIx its.length 0 lo)).take (HT.sIx its.length its.length hi-HT.sIx its.length 0 lo)).toArray:=by
 obtain⟨h1,h2,h3⟩:=rA lo hi its.toArray.size;unfold slicePick;rw[h1,h2,h3];simp only[sliceRange_one,pick_run,Nv]<;>rfl
noncomputable def Jv(K:Pn):V->cA->cA->Hp->VK->Prop:=λx lo hi H Q=>∃a xs,x=.ref a/\ju K H a xs/\∀p,H p=none->Q (.ref p) (upd H p (.lst (sf xs lo hi)))
theorem CM:IR X (Jv X.K):=by
 intro pins s σ H x v vl vu lo hi sl Q I rx hs pl pu h;obtain⟨a,xs,rfl,hx,q⟩:=h;cases rx;obtain⟨its,r,ht,hz⟩:=I.list hx;have hlen:=r.length;refine⟨"list",_,slot_list_getitem.lookup,ht.isList.typeIs,?_⟩;refine wpAny_getItem_list_slice ht.isList hs pl pu .none (by simp) ?_ (by rw[Nv]<;>omega);rw[oy,<-hlen];refine⟨.ref s.heap.objs.size,_,I.laid (t':=s.toks) (o:=.lst (sf xs lo hi)) (λb ob q=>Qp _ q) (Nt _) ?_,rfl,q _ (I.hok.fresh (Nt _))⟩;exact⟨Nf (ly xs lo hi) hz,_,0,(r.drop (HT.sIx xs.length 0 lo)).take (HT.sIx xs.length xs.length hi-HT.sIx xs.length 0 lo),Qq _ rfl⟩
noncomputable def zA:V->Bool
 |.non=>true
 |.bl _=>true
 |.int _=>true
 |.str _=>true
 |_=>false
noncomputable def JN:V->V->Bool
 |.non,.non=>true
 |.bl a,.bl b=>a==b
 |.bl a,.int b=>(if a then 1 else 0)==b
 |.int a,.bl b=>a==(if b then 1 else 0)
 |.int a,.int b=>a==b
 |.str a,.str b=>a==b
 |_,_=>false
theorem Gb{A:QZ}{s:QR}{y x:V}{u v:QM}(ry:RelV y u)(rx:RelV x v)(fy:zA y=true)(fx:zA x=true):SeqAt.EqAt A s u v (JN y x):=by
 cases y with
 |non=>
  cases ry;cases x with
  |non=>cases rx;exact SeqAt.EqAt.same _
  |bl b=>cases rx;exact SeqAt.EqAt.none_bool b
  |int b=>obtain⟨t,rfl⟩:=rx;exact SeqAt.EqAt.none_int b t
  |str b=>obtain⟨t,rfl⟩:=rx;exact SeqAt.EqAt.none_str b t
  |_=>exact absurd (show false=true from fx) Nq
 |bl a=>
  cases ry;cases x with
  |non=>cases rx;exact SeqAt.EqAt.bool_none a
  |bl b=>cases rx;exact SeqAt.EqAt.bool_bool a b
  |int b=>obtain⟨t,rfl⟩:=rx;exact SeqAt.EqAt.bool_int a b t
  |str b=>obtain⟨t,rfl⟩:=rx;exact SeqAt.EqAt.bool_str a b t
  |_=>exact absurd (show false=true from fx) Nq
 |int a=>
  obtain⟨t',rfl⟩:=ry;cases x with
  |non=>cases rx;exact SeqAt.EqAt.int_none a t'
  |bl b=>cases rx;exact SeqAt.EqAt.int_bool a t' b
  |int b=>obtain⟨t,rfl⟩:=rx;exact SeqAt.EqAt.int_int a t' b t
  |str b=>obtain⟨t,rfl⟩:=rx;exact SeqAt.EqAt.int_str a t' b t
  |_=>exact absurd (show false=true from fx) Nq
 |str a=>
  obtain⟨t',rfl⟩:=ry;cases x with
  |non=>cases rx;exact SeqAt.EqAt.str_none a t'
  |bl b=>cases rx;exact SeqAt.EqAt.str_bool a t' b
  |int b=>obtain⟨t,rfl⟩:=rx;exact SeqAt.EqAt.str_int a t' b t
  |str b=>obtain⟨t,rfl⟩:=rx;exact SeqAt.EqAt.str_str a t' b t
  |_=>exact absurd (show false=true from fx) Nq
 |_=>exact absurd (show false=true from fy) Nq
theorem kx:dh X (.builtin "len") (λxs H Q=>∃p ys,xs=[.ref p]/\(ju X.K H p ys\/lu X.K H p ys)/\Q (.int ys.length) H):=by
 intro pins s σ H xs us Q I r h;obtain⟨p,ys,rfl,hq,q⟩:=h;obtain⟨u,rfl,rx⟩:=vals1 r;cases rx;have hn:=kL;rcases hq with hq|hq
 ·obtain⟨its,r',pl,hz⟩:=I.list hq;have hlen:=r'.length;exact Calls.call_len_list pl.isList (by simp only[Nv]<;>omega) ⟨.int ys.length,H,I.tok _,⟨s.toks+1,by rw[Nv,hlen]⟩,q⟩
 ·obtain⟨its,r',pl,hz⟩:=I.tuple hq;have hlen:=r'.length;exact len_tuple pl (by simp only[Nv]<;>omega) ⟨.int ys.length,H,I.tok _,⟨s.toks+1,by rw[Nv,hlen]⟩,q⟩
theorem rE:dh X (.builtin "len") (λxs H Q=>∃z,xs=[.str z]/\z.length<=QW/\Q (.int z.length) H):=by
 intro pins s σ H xs us Q I r h;obtain⟨z,rfl,hz,q⟩:=h;obtain⟨u,rfl,t,rfl⟩:=vals1 r;have hn:=kL;exact len_str ‹0› ⟨.int z.length,H,I.tok _,⟨_,rfl⟩,q⟩
theorem jr:dh X (.type "tuple") (λxs H Q=>∃p ys,xs=[.ref p]/\((ju X.K H p ys/\∀l,H l=none->Q (.ref l) (upd H l (.tup ys)))\/(lu X.K H p ys/\Q (.ref p) H))):=by
 intro pins s σ H xs us Q I r h;obtain⟨p,ys,rfl,h⟩:=h;obtain⟨u,rfl,rx⟩:=vals1 r;cases rx;rcases h with⟨hq,q⟩|⟨hq,q⟩
 ·obtain⟨its,r',pl,hz⟩:=I.list hq;have hlen:=r'.length;refine call_tuple_list pl.isList (λh' kp=>?_) (by simp only[Nv]<;>omega);have I1:Inv X pins σ H {s with heap:=h'}:=I.kept (t':=s.toks) kp;have I2:Inv X pins σ (upd H h'.objs.size (.tup ys)) {s with heap:=h'.push {cls:=.type "tuple",data:=.seq its.toArray}}:=
   I1.laid (t':=s.toks) (λb o e=>Qp _ e) (Nt _) (show bM X.prog X.w _ _ _ (.tup ys)from⟨hz,its,r',IsTup.new _ _⟩)
  exact⟨.ref h'.objs.size,_,I2,rfl,q _ (I1.hok.fresh (Nt _))⟩
 ·obtain⟨its,r',pl,hz⟩:=I.tuple hq;exact call_tuple_same pl ⟨.ref p,H,I,rfl,q⟩
noncomputable def Lh(K:Pn)(T:String)(x:V)(H:Hp):Prop:=match x with
 |.str _=>T="str"
 |.int _=>T="int"
 |.ref p=>(T="list"/\∃xs,ju K H p xs)\/(T="tuple"/\∃o,K.lookup p=some o/\o.cls=.type "tuple"/\o.dict=none) \/
   (T="dict"/\((∃kvs,H p=some (.dK kvs))\/∃kvs,H p=some (.dT kvs)))\/(T="set"/\∃S n,H p=some (.set S n))
 |_=>False
theorem EZ{pins:aM}{σ:St}{H:Hp}{s:QR}{T:String}{x:V}{v:QM}(I:Inv X pins σ H s)(r:RelV x v)(ty:Lh X.K T x H):
  s.TypeIs v T/\∀a,v=.ref a->∃ob,s.heap.get? a=some ob/\ob.dict=none:=by
 cases x with
 |str z=>
  obtain⟨t,rfl⟩:=r;cases(show T="str"from ty);exact⟨typeIs_str s z t,λ_ e=>nomatch e⟩
 |int i=>
  obtain⟨t,rfl⟩:=r;cases(show T="int"from ty);exact⟨typeIs_int s i t,λ_ e=>nomatch e⟩
 |ref p=>
  cases r;rcases ty with⟨rfl,xs,hq⟩|⟨rfl,o,hk,hc,hd⟩|⟨rfl,hk⟩|⟨rfl,S,n,hk⟩
  ·obtain⟨its,_,pl,_⟩:=I.list hq;refine⟨pl.isList.typeIs,λa e=>?_⟩;cases e;obtain⟨o,n,e,c,hd,_⟩:=pl;exact⟨o,e,hd⟩
  ·refine⟨⟨o,I.kIn p o hk,hc⟩,λa e=>?_⟩;cases e;exact⟨o,I.kIn _ o hk,hd⟩
  ·have z:∃o,s.heap.get? p=some o/\o.ExactDict:=by
    rcases hk with⟨kvs,hk⟩|⟨kvs,hk⟩
    ·obtain⟨_,_,_,_,o,_,_,e,ex,_⟩:=I.hok p _ hk;exact⟨o,e,ex⟩
    ·obtain⟨_,_,_,_,o,_,_,e,ex,_⟩:=I.hok p _ hk;exact⟨o,e,ex⟩
   obtain⟨o,e,ex⟩:=z;refine⟨⟨o,e,ex.1⟩,λa e2=>?_⟩;cases e2;exact⟨o,e,ex.2.1⟩
  ·obtain⟨o,_,_,_,e,ex,_⟩:=I.hok p _ hk;refine⟨⟨o,e,ex.1⟩,λa e2=>?_⟩;cases e2;exact⟨o,e,ex.2.1⟩
 |_=>exact False.elim ty
noncomputable def Mq(K:Pn)(T:String)(r:V->aH->Hp->VK->Prop)(to:TE)(t:TA):TE:=λσ H Q=>to σ H λx H1=>Lh K T x H1/\t σ H1 λxs H2=>r x xs H2 Q
variable{o e:QP}{es:aR}{to:TE}{t:TA}{name:Str}{apos cpos:Pos}{T id:String}{r:V->aH->Hp->VK->Prop}
theorem zP(pa:PlainAttrs T)(slot:Slot T name id)(hty:typeOf (.builtin id)=pure (.type "method_descriptor"))(hm:JS X id r)(ho:PE X o to)(ha:PA X (e::es) t)
  (hbase:RC o name X.env (eval o X.env)=eval o X.env:=by rfl)
  (hfew:((backTo cpos (Rf (e::es) X.env)).all (fun x=>!x.1) && (backToKw cpos (RF [] X.env)).all (fun x=>x.1.isSome)
   && decide ((e::es).length+([]:List RZ).length+(if([]:List RZ).isEmpty then 0 else 1)<30))=true:=by rfl)
  (hline:(apos.endLine==cpos.line)=true:=by rfl) (hs:Rf (e::es) X.env=(false,eval e X.env)::Rf es X.env:=by rfl) (hplain:(backTo cpos (Rf es X.env)).any (·.1)=false:=by rfl):
  PE X (.Call (.Attribute o name apos) (e::es) [] cpos) (Mq X.K T r to t):=by
 intro pins s σ H Q I h;refine wpAny_Call_method_late hbase hfew hline rfl (bU (ho pins s σ H _ I h) λv s1 ⟨x,H1,I1,r1,ty,q1⟩=>?_);obtain⟨h1,h2⟩:=EZ I1 r1 ty;refine⟨T,id,pa,slot,hty,h1,h2,?_⟩;have hA:=ha cpos pins s1 σ H1 _ I1 q1;rw[hs]at hA ⊢;refine Calls.callWith_builtin (by show(false||(backTo cpos (Rf es X.env)).any (·.1))=false;rw[hplain]<;>rfl) (Calls.evalArgs_plain ?_);exact bU hA λus s2 ⟨vs,H2,I2,r2,q2⟩=>hm pins s2 σ H2 x vs v us Q I2 r1 r2 q2
end
noncomputable def Lr(X:Cx)(id:String)(r:V->aH->Hp->VK->Prop):Prop:=
 ∀(pins:aM)(s:QR)(σ:St)(H:Hp)(x:V)(xs:aH)(v:QM)(us:aS)(Q:VK),Inv X pins σ H s->RelV x v->Vals xs us->r x xs H Q->
  Rc (model X.prog X.w) X.A (call (.builtin id) (v::us)) (EP X pins σ Q) X.xe s
theorem Vals.one:∀{x:V}{us:aS},Vals [x] us->∃u,us=[u]/\RelV x u
 |_,_,.cons r .nil=>⟨_,rfl,r⟩
section
variable{X:Cx}{pins:aM}{σ:St}{H:Hp}{s:QR}{l b:QO}{xs ys zs:aH}
theorem Inv.lset{its its':aS}{n:Nat}{f:Array QM->Array QM}{t':Nat}(I:Inv X pins σ H s)(hH:H l=some (.lst xs))
  (e:s.heap.get? l=some {cls:=.type "list",data:=.seq its.toArray n}) (hf:f its.toArray=its'.toArray) (hv:Vals ys its') (hz:ys.length<=QW):
  Inv X pins σ (upd H l (.lst ys)) {s with heap:=s.heap.update l (Obj.mapSeq f),toks:=t'}:=by
 have q:=PySem.IsL.update e f;rw[hf]at q;refine I.write (x:=l) (e:=l) (by rw[hH];exact trivial) (.inl rfl) (λb' u hb hu=>(Heap.get?_update_other s.heap (Obj.mapSeq f) (Ne.symm hb)).trans hu) ⟨_,q⟩ ?_;exact⟨hz,its',_,hv,q⟩
theorem Inv.lnew{its:aS}{t':Nat}(I:Inv X pins σ H s)(hv:Vals ys its)(hz:ys.length<=QW):
  Inv X pins σ (upd H s.heap.objs.size (.lst ys)) {s with heap:=s.heap.push {cls:=.type "list",data:=.seq its.toArray},toks:=t'}:=
 I.laid (λ_ _ q=>Qp _ q) (Nt _) ⟨hz,its,0,hv,Qq _ rfl⟩
theorem Inv.fresh(I:Inv X pins σ H s):H s.heap.objs.size=none:=I.hok.fresh (Nt _)
theorem Inv.lstM(I:Inv X pins σ H s)(hH:H l=some (.lst xs)):xs.length<=QW/\∃(its:aS)(n:Nat),Vals xs its/\xs.length=its.length/\s.heap.get? l=some {cls:=.type "list",data:=.seq its.toArray n}:=by
 obtain⟨z,its,n,r,e⟩:=I.hok l _ hH;exact⟨z,its,n,r,r.length,e⟩
end
section
variable{X:Cx}
noncomputable def we:V->aH->Hp->VK->Prop:=λx vs H Q=>∃l xs y,x=.ref l/\vs=[y]/\H l=some (.lst xs)/\xs.length<QW/\Q .non (upd H l (.lst (xs++[y])))
theorem oP:Lr X "list.append" we:=by
 intro pins s σ H x vs v us Q I rx rv h;obtain⟨l,xs,y,rfl,rfl,hH,hz,q⟩:=h;cases rx;obtain⟨u,rfl,ru⟩:=rv.one;obtain⟨z,its,n,r,hl,e⟩:=I.lstM hH;refine call_meets F.slot_list_append ⟨_,e,rfl⟩ F.entry_list_append (F.args_list_append_2 _ _) (PySem.list_append l its.toArray n u (by rw[Nv];omega)) ⟨e,?_⟩;refine⟨.non,_,I.lset (its':=its++[u]) hH e (by simp) (r.append (.cons ru .nil)) ?_,rfl,q⟩;rw[NR,NW];omega
end
end L2
namespace Att
open PySem PySem.W PySem.Calls PyProof.Rows
theorem lJ{P:Params}{h:QV}:∀(ns:List Int)(vs:List QM),WellAll P h vs (ns.map WData.int)->IntsAre vs ns:=by
 intro ns
 induction ns with
 |nil=>
  intro vs w;rw[NX]at w;cases w;exact .nil
 |cons n ns ih=>
  intro vs w;rw[Nx]at w;cases w with
  |cons a b=>
   cases a;exact .cons _ _ (ih _ b)
theorem wC{l:OpenLaw}{n:Nat}(hn:l.most=some n){P:Params}{h:QV}{args:List WData}{vals:List QM}
  (hpre:l.row.toRowW.claim.pre args=true) (hwl:WellAll P h vals args):
  ∃a vs ns,vals=[Value.ref a]/\args=[WData.list (ns.map WData.int)]/\h.get? a=some {cls:=.type "list",data:=.seq vs.toArray}/\IntsAre vs ns/\ns.length<=n:=by
 have hsh:WShape.hasAll [] args [.list .int]=true:=(pre_splitW hpre).1;have hc:l.pre.holds [] {args:=args}=true:=(pre_splitW hpre).2;obtain⟨d,r,rfl,h1,h2⟩:=hasAllW_cons hsh;obtain rfl:=hasAllW_nil h2;obtain⟨xs,rfl,h3⟩:=hasW_list h1;obtain⟨ns,rfl⟩:=items_int h3;have hlen:ns.length<=n:=by
  unfold OpenLaw.pre at hc;have h4:(WTm.not (.lt (.lit (.int (n:Int))) (.len (.arg 0)))).holds [] {args:=[.list (ns.map .int)]}=true:=by
   have h4:=(holds_andW hc).1;rw[hn]at h4;exact h4
  have h5:=condW_of h4 (w_not (w_lt w_lit (w_len_list (w_arg rfl))));rw[Ny]at h5;refine Nat.le_of_not_lt λq=>?_;have q':(n:Int)<((ns.length:Nat):Int):=by omega
  first
   |(rw[decide_eq_true q']at h5;exact absurd h5 (by decide))
   |(simp at h5;omega)
 cases hwl with
 |cons w1 w2=>
  cases w2;cases w1 with
  |list ho hall=>exact⟨_,_,ns,rfl,rfl,ho,lJ ns _ hall,hlen⟩
theorem yw(l:OpenLaw)(args:List WData):l.row.toRowW.claim.post args (.bool true) args=true:=
 postW_of (r:=l.row.toRowW) (X:=(true==true))
  (show WShape.has [] (.bool true) .bool=true by first|rfl|decide|simp[WShape.has,WShape.arms,WShape.armsAll])
  (show(WTm.eq .res (.lit (.bool true))).value [] {args:=args,res:=some (.bool true),after:=args}=some (.bool (true==true))from w_eq_bool (w_res rfl) w_lit) rfl
theorem Em{l:OpenLaw}{n:Nat}{q:QT}{loose:List Str}{XP:(Str->Option QM)->QV->Prop}{YP:QS->QV->Prop}{d:DefRec}
  (hn:l.most=some n) (hdf:d.params.defaults=[])
  (call:∀ (w:QS) (s₀ s₁:QR) (mg mb:Str->Option QM) (fa:QO) (o:Obj) (pm cd doc:QM) (a:QO) (vs:List QM) (ns:List Int),
   Ground q loose [] XP w s₀ mg mb s₁.heap->YP w s₁.heap->
   s₁.heap.get? fa=some o->o.data=.func (docDef d.name d.params d.body d.scope pm cd doc)->s₁.heap.CodeRec cd d.name->mg d.name=some (.ref fa)->
   s₁.heap.get? a=some {cls:=.type "list",data:=.seq vs.toArray}->IntsAre vs ns->ns.length<=n->s₁.gens=#[]->
   RB (model l.prog w) callerA (.call (.ref fa) ⟨[.ref a],[]⟩) (λr s'=>r=.ok (.ret (.bool true))/\OldK s₁.heap s'.heap/\s'.os=s₁.os/\AllBare s'.gens) s₁):
  WalkO q loose XP YP l.row.toRowW d [] (λf vs=>PySem.call f vs):=by
 intro w s₀ s₁ mg mb G Y fa o pm cd doc dV kV ho hd hcd hD hmg hg args vals as hpre hlay hrd hwl hlo;obtain rfl:dV=.none:=Dflts.none hD hdf;obtain rfl:kV=.none:=Dflts.noKw hD;obtain⟨a,vs,ns,rfl,rfl,hobj,hints,hlen⟩:=wC hn hpre hwl;refine enter_call (RL (call w s₀ s₁ mg mb fa o pm cd doc a vs ns G Y ho (fd_plain hd) hcd hmg hobj hints hlen hg) λr s' hq=>?_);obtain⟨rfl,h2,h3,h4⟩:=hq;exact⟨.inl ⟨.bool true,.bool true,[],rfl,λ_=>rfl,.bool true,yw l _,λ_=>⟨List.Pairwise.nil,λ_ hm=>(nomatch hm)⟩⟩,h2,h3,h4⟩
section
variable{prog:QT}{w:QS}{A:QZ}{E:QM->QR->Prop}{s:QR}{K:Frag}
end
end Att
namespace L2
open PySem PySem.Spec PyProof.Rows
theorem pW:∀{vs:aS}{ns:List Int},IntsAre vs ns->Vals (ns.map V.int) vs
 |_,_,.nil=>.nil
 |_,_,.cons n t h=>.cons ⟨t,rfl⟩ (pW h)
noncomputable def Only(H:Hp):Prop:=∀b,H b=none\/∃o xs,H b=some (.frz o (.lst xs))
theorem zV{P:QT}{w:QS}{K:Pn}{mg mb:bF}{CX:t9}{k:Nat}{fa a:QO}{fd:RH}{x:Str}{sp:Sp}{s₁:QR}{vs:aS}{ns:List Int}
  (KX:K.In s₁.heap) (hns:s₁.heap.Ns QX mg) (hb:s₁.heap.Ns builtinsNs mb) (hbb:∀x:Str,x≠"__name__"->mb x=QY x) (hlim:s₁.heap.NoLimit) (hg:s₁.gens=#[])
  (ha:s₁.heap.get? a=some {cls:=.type "list",data:=.seq vs.toArray}) (hi:IntsAre vs ns) (hl:ns.length<=QW) (hr:dY k callerA)
  (F:∀base:QV,K.In base->base.Ns QX mg->eW P w K mg base CX k fa fd [x] sp) (hbind:∀(s:QR)(u:QM),RJ s fd ⟨[u],[]⟩ [(x,u)])
  (hsp:∀H:Hp,Only H->ju K H a (ns.map V.int)->sp [.ref a] H (λv _=>v=.bl true) λ_ _ _=>False)
  (hCX:∀H e s',CX [] H s₁ (λ_ _ _=>False) e s'->False):
  RB (model P w) callerA (.call (.ref fa) ⟨[.ref a],[]⟩) (λr s'=>r=.ok (.ret (.bool true))/\OldK s₁.heap s'.heap/\s'.os=s₁.os/\AllBare s'.gens) s₁:=by
 have rv:=pW hi;have lenV:=hi.length;have core:∀H:Hp,Only H->ju K H a (ns.map V.int)->lH P w H s₁.heap->(∀b,H b≠none->b=a)->(H a≠none->K.lookup a=none)->
   RB (model P w) callerA (.call (.ref fa) ⟨[.ref a],[]⟩) (λr s'=>r=.ok (.ret (.bool true))/\OldK s₁.heap s'.heap/\s'.os=s₁.os/\AllBare s'.gens) s₁:=by
  intro H hO hS hok hA hK;have base_of:∀{b:QO}{o:Obj},s₁.heap.get? b=some o->H b=none->(jj s₁.heap H).get? b=some o:=λe n=>nV e n;have noA:∀{b:QO}{o:Obj}{es:Array DictEntry}{ep:Nat},s₁.heap.get? b=some o->o.data=.dict es ep->H b=none:=λ{b o es ep} e d=>by
   cases q:H b with
   |none=>rfl
   |some u=>
    have e':b=a:=hA b (by rw[q];simp);subst e';rw[ha]at e;cases e;have d':Data.seq vs.toArray _=Data.dict es ep:=d;cases d'
  have nsK:∀{b:QO}{m:bF},s₁.heap.Ns b m->(jj s₁.heap H).Ns b m:=λ{b m} ⟨o,es,ep,e,d,r⟩=>⟨o,es,ep,base_of e (noA e d),d,r⟩
  have hKb:K.In (jj s₁.heap H):=λb o e=>base_of (KX b o e) (by
   cases q:H b with
   |none=>rfl
   |some u=>
    have e':b=a:=hA b (by rw[q];simp);subst e';rw[hK (by rw[q];simp)]at e;cases e)
  have hM:Mod K mg (jj s₁.heap H):=⟨hKb,nsK hns,⟨mb,nsK hb,hbb⟩,let ⟨mc,h1,h2⟩:=hlim;⟨mc,nsK h1,h2⟩⟩
  have e0:yB P w K mg (jj s₁.heap H) callerA [] s₁ H:=⟨rfl,hM,λb o e=>jQ e,Nz (xN _ _),trivial,λb hb=>absurd (show b∈([]:aD)from hb) (by simp),hok,.of_eq hg⟩
  refine RL ((F _ hKb (nsK hns)).run callerA [] s₁ H ⟨[.ref a],[]⟩ [.ref a] [.ref a] _ _ hr e0 (hbind s₁ (.ref a)) (.cons rfl .nil) (hsp H hO hS)) λr s' h=>?_;cases r with
  |error e=>exact(hCX H e s' h).elim
  |ok fl=>
   cases fl with
   |next=>exact False.elim h
   |brk=>exact False.elim h
   |cont=>exact False.elim h
   |ret u=>
    obtain⟨v,H',os,bare,un,hok',r',q⟩:=h;have q':v=.bl true:=q;subst q';obtain rfl:u=Value.bool true:=r';refine⟨rfl,OldK.of_keep λb o e=>?_,os,bare⟩;cases q:H b with
    |none=>exact un.keep b o e q (by intro z;exact absurd (show b∈([]:aD)from z) (by simp)) (by simp)
    |some u=>
     rcases hO b with z|⟨ob,xs,z⟩
     ·rw[q]at z;cases z
     ·have z2:=un.frzs b ob _ z;obtain⟨e1,_⟩:=hok b _ z;obtain⟨e2,_⟩:=hok' b _ z2;rw[e]at e1;cases e1;exact e2
 cases hk:K.lookup a with
 |some o=>
  have e:=KX a o hk;rw[ha]at e;cases e;refine core (λ_=>none) (λ_=>.inl rfl) (.inr ⟨_,vs.toArray,_,hk,rfl,rfl,rfl,by rw[Nv,lenV];exact hl,by simpa using rv⟩) (λb u z=>by have z':(none:Option HO)=some u:=z;cases z') (λb z=>absurd rfl z) λz=>absurd rfl z
 |none=>
  refine core (λb=>if b=a then some (.frz {cls:=.type "list",data:=.seq vs.toArray} (.lst (ns.map V.int)))else none) (λb=>?_) (.inl (.inr ⟨{cls:=.type "list",data:=.seq vs.toArray},if_pos rfl⟩)) (λb u z=>?_) (λb z=>?_) λ_=>hk
  ·by_cases hb:b=a
   ·exact .inr ⟨_,_,if_pos hb⟩
   ·exact .inl (if_neg hb)
  ·by_cases hb:b=a
   ·have z':=(if_pos hb).symm.trans z;cases z';subst hb;exact⟨ha,by rw[Ny];exact hl,vs,_,rv,ha⟩
   ·have z':=(if_neg hb).symm.trans z;cases z'
  ·by_cases hb:b=a
   ·exact hb
   ·exact absurd (if_neg hb) z
theorem IP{l:PZ}{n k:Nat}{q:QT}{loose:av}{XP:(bF)->QV->Prop}{YP:QS->QV->Prop}{d:DefRec}{K:Params->Pn}{CX:QS->t9}{sp:QS->Sp}{x:Str}
  (hn:l.most=some n) (hn2:n<=QW) (hdf:d.params.defaults=[]) (hr:dY k callerA)
  (hY:∀(w:QS)(h:QV),YP w h->(K w.params).In h)
  (F:∀ (w:QS) (mg:bF) (fa:QO) (h:QV),(K w.params).In h->h.Ns QX mg->mg d.name=some (.ref fa) ->
   ∃fd:RH,(∀(s:QR)(u:QM),RJ s fd ⟨[u],[]⟩ [(x,u)])/\
    ∀base:QV,(K w.params).In base->base.Ns QX mg->eW l.prog w (K w.params) mg base (CX w) k fa fd [x] (sp w))
  (hsp:∀(w:QS)(H:Hp)(a:QO)(ns:List Int),ns.length<=n->Only H->ju (K w.params) H a (ns.map V.int)->sp w [.ref a] H (λv _=>v=.bl true) λ_ _ _=>False)
  (hCX:∀(w:QS)(H:Hp)(s:QR)(e:QM)(s':QR),CX w [] H s (λ_ _ _=>False) e s'->False):
  PySem.W.WalkO q loose XP YP l.row.toRowW d [] (λf vs=>PySem.call f vs):=by
 refine Att.Em hn hdf λw s₀ s₁ mg mb fa o pm cd doc a vs ns G Y ho hd hcd hmg hobj hints hlen hg=>?_;have KX:=hY w _ Y;obtain⟨fd,hb,hF⟩:=F w mg fa _ KX G.T.g hmg;exact zV KX G.T.g G.T.b G.T.builtins G.T.nolimit hg hobj hints (Nf hlen hn2) hr hF hb (λH hO hS=>hsp w H a ns hlen hO hS) λH e s'=>hCX w H s₁ e s'
noncomputable def inClass(s:QQ)(j:Nat):QQ:=match s with
 |.ClassDef _ _ _ body _ _ _ _ _ _ _=>body.getD j (.Pass ⟨0,0,0,0⟩)
 |_=>.Pass ⟨0,0,0,0⟩
noncomputable def gO(s:QQ):Arguments:=match s with
 |.FunctionDef _ a _ _ _ _ _ _ _ _=>a
 |_=>{posonlyargs:=[],args:=[],vararg:=none,kwonlyargs:=[],kw_defaults:=[],kwarg:=none,defaults:=[]}
noncomputable def cU(s:QQ):cF:=match s with
 |.FunctionDef _ _ b _ _ _ _ _ _ _=>b
 |_=>[]
noncomputable def aF(s:QQ):Ra:=match s with
 |.FunctionDef _ _ _ _ _ _ sc _ _ _=>sc
 |_=>{kind:=.function,names:=[],isGenerator:=false,isCoroutine:=false}
noncomputable abbrev HD:t9:=λ_ _ _ _ _ _=>False
noncomputable abbrev E0:XK:=λ_ _ _=>False
structure ow(K:Pn)(x qual:Str)(st:QQ)(f:QO)(fd:RH):Prop where
 ex:∃(oc:QM)(od:Option QO)(kV doc pm:QM)(an:Option QO)(cdv ct:QM)(osl:Array gZ),
  fd=PX x qual (gO st) (cU st) (aF st) .none kV doc pm an cdv ct/\K.lookup f=some ⟨oc,od,.func fd,osl⟩/\PY K cdv qual=true
 kp:PQ K (.ref f)=true
section
variable{P:QT}{w:QS}{K:Pn}{mg:bF}{base:QV}
theorem ow.ok{x qual:Str}{st:QQ}{f:QO}{fd:RH}{N ps:av}{k:Nat}{sp:Sp}(F:ow K x qual st f fd)(S:bX N ps (aF st))(len:∀vs H Q E,sp vs H Q E->vs.length=ps.length)
  (hbody:∀ (cdv:QM) (A:QZ) (outer:List Env) (s:QR) (H:Hp) (vs:aH) (Q:VK) (E:XK),dY k (A.deeper (envOfC qual (aF st) s.heap.objs.size f cdv))->sp vs H Q E ->
   ∃t,pR (ir HD P w K mg base N qual (aF st) f cdv A outer s H E).nox (cU st) t/\t {nx:=λ_ H'=>Q .non H',rt:=Q} (start N vs) H):eW P w K mg base HD (k+1) f fd ps sp:=by
 obtain⟨oc,od,kV,doc,pm,an,cdv,ct,osl,rfl,lk,hcd⟩:=F.ex;refine DW lk hcd S len λA outer s H vs Q E hr hsp=>?_;obtain⟨t,h,q⟩:=hbody cdv A outer s H vs Q E hr hsp;exact⟨t,h.nox,q⟩
theorem ow.binds{x qual:Str}{st:QQ}{f:QO}{fd:RH}{ps:av}(F:ow K x qual st f fd)
  (h:∀(kV doc pm:QM)(an:Option QO)(cdv ct:QM)(us:aS),us.length=ps.length->bindArgs (PX x qual (gO st) (cU st) (aF st) .none kV doc pm an cdv ct) ⟨us,[]⟩=pure (ps.zip us)):Binds K fd ps []:=by
 obtain⟨oc,od,kV,doc,pm,an,cdv,ct,osl,rfl,lk,hcd⟩:=F.ex;exact .all (h kV doc pm an cdv ct)
theorem bO{x qual:Str}{st:QQ}{f:QO}{oc:QM}{od an:Option QO}{osl:Array gZ}{kV doc pm cdv ct:QM}(l:K.lookup f=some ⟨oc,od,.func (PX x qual (gO st) (cU st) (aF st) .none kV doc pm an cdv ct),osl⟩)
  (c:PY K cdv qual=true) (k:PQ K (.ref f)=true):ow K x qual st f (PX x qual (gO st) (cU st) (aF st) .none kV doc pm an cdv ct):=⟨⟨oc,od,kV,doc,pm,an,cdv,ct,osl,rfl,l,c⟩,k⟩
end
section
variable{X:Cx}
theorem pv(i:Nat){x:Str}{pos:Pos}(hN:X.N[i]?=some x:=by rfl)(hv:Fq X.env.scope x:=by first|exact Or.inl rfl|exact Or.inr (Or.inl rfl)|exact Or.inr (Or.inr rfl))(hd:(x==("__debug__":Str))=false:=by decide)
  (hcd:(x==("__classdict__":Str))=false:=by decide):PE X (.Name x pos) (nW i):=Ez hN hv hd hcd
end
theorem qL{A B:Prop}(h:B):if false=true then A else B:=by
 rw[if_neg Nq];exact h
theorem qq{A B:Prop}(h:A):if true=true then A else B:=by
 rw[if_pos rfl];exact h
noncomputable def aP(H H':Hp):Prop:=∀b o,H b=some o->H' b=some o
theorem aP.refl(H:Hp):aP H H:=λ_ _ h=>h
theorem aP.trans{H H1 H2:Hp}(a:aP H H1)(b:aP H1 H2):aP H H2:=λc o h=>b c o (a c o h)
theorem aP.free{H H':Hp}(e:aP H H'){l:QO}(h:H' l=Option.none):H l=Option.none:=by
 cases q:H l with
 |none=>rfl
 |some o=>
  rw[e l o q]at h;cases h
theorem aP.seq{K:Pn}{H H':Hp}{a:QO}{xs:aH}(e:aP H H')(h:ju K H a xs):ju K H' a xs:=by
 rcases h with(h|⟨o,h⟩)|h
 ·exact .inl (.inl (e _ _ h))
 ·exact .inl (.inr ⟨o,e _ _ h⟩)
 ·exact .inr h
section
variable{κ:Type}[DecidableEq κ]
noncomputable def gr(kvs:List (κ×V))(k:κ):Option V:=(kvs.find? λkv=>decide (kv.1=k)).map (·.2)
noncomputable def putK(kvs:List (κ×V))(k:κ)(v:V):List (κ×V):=
 if(kvs.any λkv=>decide (kv.1=k))=true then kvs.map (λkv=>if kv.1=k then(kv.1,v)else kv)else kvs++[(k,v)]
theorem iz{p:κ×V}{r:List (κ×V)}{k:κ}(e:p.1=k):gr (p::r) k=some p.2:=by simp[gr,NY,e]
theorem iG{p:κ×V}{r:List (κ×V)}{k:κ}(e:¬p.1=k):gr (p::r) k=gr r k:=by simp[gr,NY,e]
theorem tV(k:κ):∀kvs:List (κ×V),(kvs.any λkv=>decide (kv.1=k))=(gr kvs k).isSome
 |[]=>rfl
 |p::r=>by
  rw[NZ];by_cases e:p.1=k
  ·simp only[iz e,decide_eq_true e,Bool.true_or,Option.isSome_some]
  ·rw[iG e,decide_eq_false e,Bool.false_or];exact tV k r
theorem lr(kvs:List (κ×V))(k:κ)(v:V):(putK kvs k v).length<=kvs.length+1:=by
 unfold putK;split
 ·rw[Ny];omega
 ·rw[NR,Nw,N0];omega
theorem lO.isSome_eq{o:Option V}{u:gZ}(r:lO o u):o.isSome=u.isSome:=by
 cases o with
 |none=>cases u with
  |none=>rfl
  |some _=>exact(show False from r).elim
 |some _=>cases u with
  |none=>exact(show False from r).elim
  |some _=>rfl
theorem lO.getD{o:Option V}{u:gZ}{d:V}{d':QM}(r:lO o u)(rd:RelV d d'):RelV (o.getD d) (u.getD d'):=by
 cases o with
 |none=>cases u with
  |none=>exact rd
  |some _=>exact(show False from r).elim
 |some _=>cases u with
  |none=>exact(show False from r).elim
  |some _=>exact r
theorem KV.val{kvs:List (κ×V)}{vs:List (κ×QM)}(r:KV kvs vs)(k:κ):lO (gr kvs k) (valueAt vs k):=by
 unfold KV at r
 induction r with
 |nil=>exact True.intro
 |@cons p q ps qs h t ih=>
  obtain⟨h1,h2⟩:=h;by_cases e:p.1=k
  ·have e':q.1=k:=h1.symm.trans e;have b:valueAt (q::qs) k=some q.2:=(by simp[valueAt,NY,e']);rw[iz e,b];exact h2
  ·have e':¬q.1=k:=λz=>e (h1.trans z);have b:valueAt (q::qs) k=valueAt qs k:=(by simp[valueAt,NY,e']);rw[iG e,b];exact ih
theorem KV.any{kvs:List (κ×V)}{vs:List (κ×QM)}(r:KV kvs vs)(k:κ):(kvs.any λkv=>decide (kv.1=k))=vs.any λkv=>decide (kv.1=k):=by
 unfold KV at r
 induction r with
 |nil=>rfl
 |cons h t ih=>rw[NZ,NZ,ih,h.1]
theorem KV.repl{kvs:List (κ×V)}{vs:List (κ×QM)}(r:KV kvs vs)(k:κ){y:V}{u:QM}(ry:RelV y u):
  KV (kvs.map λkv=>if kv.1=k then(kv.1,y)else kv) (vs.map λkv=>if kv.1=k then(kv.1,u)else kv):=by
 unfold KV at r ⊢
 induction r with
 |nil=>exact .nil
 |@cons p q ps qs h t ih=>
  rw[Nx,Nx];refine .cons ?_ ih;obtain⟨h1,h2⟩:=h;by_cases e:p.1=k
  ·rw[if_pos e,if_pos (h1.symm.trans e)];exact⟨h1,ry⟩
  ·rw[if_neg e,if_neg (λz=>e (h1.trans z))];exact⟨h1,h2⟩
theorem KV.put{kvs:List (κ×V)}{vs:List (κ×QM)}(r:KV kvs vs)(k:κ){y:V}{u:QM}(ry:RelV y u):KV (putK kvs k y) (stored vs k u):=by
 unfold putK stored;rw[r.any k];by_cases e:(vs.any λkv=>decide (kv.1=k))=true
 ·rw[if_pos e,if_pos e];exact r.repl k ry
 ·rw[if_neg e,if_neg e];exact Paired.snoc r ⟨rfl,ry⟩
theorem KV.length{kvs:List (κ×V)}{vs:List (κ×QM)}(r:KV kvs vs):kvs.length=vs.length:=Paired.length r
end
theorem o4{P:QT}{w:QS}{k:Key}{u:QM}(r:RelV (kV k) u):(bI P w).is k u=true:=by
 cases k with
 |inl i=>obtain⟨t,e⟩:=(show∃t,u=Value.int i t from r);subst e;exact tR P w i t
 |inr x=>obtain⟨t,e⟩:=(show∃t,u=Value.str x t from r);subst e;exact sK P w x t
theorem pc{P:QT}{w:QS}:∀{ks:List Key}{us:aS},Vals (ks.map kV) us->ItemsAre (bI P w) ks us
 |[],_,r=>by rw[NX]at r;cases r;exact .nil
 |k::ks,_,r=>by
  rw[Nx]at r;cases r with
  |cons h t=>exact .cons (o4 h) (pc t)
noncomputable abbrev KT(H:Hp):List (List Key×V)->List (List Key×QO×QM)->Prop:=QU λp q=>p.1=q.1/\H q.2.1=some (.tup (p.1.map kV))/\RelV p.2 q.2.2
theorem KT.val{H:Hp}{kvs:List (List Key×V)}{xs:List (List Key×QO×QM)}(r:KT H kvs xs)(k:List Key):lO (gr kvs k) ((atKey xs k).map (·.2)):=by
 induction r with
 |nil=>exact True.intro
 |@cons p q ps qs h t ih=>
  obtain⟨h1,_,h2⟩:=h;by_cases e:p.1=k
  ·have e':q.1=k:=h1.symm.trans e;have b:atKey (q::qs) k=some q.2:=(by simp[atKey,NY,e']);rw[iz e,b];exact h2
  ·have e':¬q.1=k:=λz=>e (h1.trans z);have b:atKey (q::qs) k=atKey qs k:=(by simp[atKey,NY,e']);rw[iG e,b];exact ih
theorem KT.repl{H:Hp}{kvs:List (List Key×V)}{xs:List (List Key×QO×QM)}(r:KT H kvs xs)(k:List Key){y:V}{u:QM}(ry:RelV y u):
  KT H (kvs.map λkv=>if kv.1=k then(kv.1,y)else kv) (xs.map (putAt k u)):=by
 induction r with
 |nil=>exact .nil
 |@cons p q ps qs h t ih=>
  rw[Nx,Nx];refine .cons ?_ ih;obtain⟨h1,h2,h3⟩:=h;unfold putAt;by_cases e:p.1=k
  ·rw[if_pos e,if_pos (h1.symm.trans e)];exact⟨h1,h2,ry⟩
  ·rw[if_neg e,if_neg (λz=>e (h1.trans z))];exact⟨h1,h2,h3⟩
theorem KT.put{H:Hp}{kvs:List (List Key×V)}{xs:List (List Key×QO×QM)}(r:KT H kvs xs)(k:List Key){b:QO}{y:V}{u:QM}(hb:H b=some (.tup (k.map kV)))(ry:RelV y u):
  KT H (putK kvs k y) (storedH xs k b u):=by
 have e:(kvs.any λkv=>decide (kv.1=k))=(atKey xs k).isSome:=by
  rw[tV,(r.val k).isSome_eq,N1]
 unfold putK storedH;rw[e];by_cases q:(atKey xs k).isSome=true
 ·rw[if_pos q,if_pos q];exact r.repl k ry
 ·rw[if_neg q,if_neg q];exact Paired.snoc r ⟨rfl,hb,ry⟩
theorem KT.keeps{H H':Hp}{kvs:List (List Key×V)}{xs:List (List Key×QO×QM)}(r:KT H kvs xs)(ht:∀b ys,H b=some (.tup ys)->H' b=some (.tup ys)):KT H' kvs xs:=
 Paired.mapP r λ_ _ z=>⟨z.1,ht _ _ z.2.1,z.2.2⟩
section
variable{P:QT}{w:QS}{H:Hp}{h:QV}{a:QO}
theorem Ed{u:HO}(ok:lH P w H h)(e:Rd H a u):bM P w H h a u:=e.ok ok
theorem pT{kvs:List (Key×V)}(ok:lH P w H h)(e:Rd H a (.dK kvs)):kvs.length<=QW/\(a==sysModules)=false/\∃vs,KV kvs vs/\h.DictOf (bI P w) a vs:=
 show bM P w H h a (.dK kvs)from Ed ok e
theorem HU{kvs:List (Key×V)}(ok:lH P w H h)(e:H a=some (.dK kvs)):kvs.length<=QW/\(a==sysModules)=false/\∃vs,KV kvs vs/\h.DictOf (bI P w) a vs:=pT ok (.inl e)
theorem nM{ks:List Key}(ok:lH P w H h)(e:H a=some (.tup (ks.map kV))):(tupleKind (bI P w)).is h ks a:=by
 obtain⟨_,its,r,o,h1,h2,n,h3⟩:=(show bM P w H h a (.tup (ks.map kV))from ok a _ e)
 exact⟨o,its.toArray,n,h1,h2,h3,by simpa using pc r⟩
theorem rS{kvs:List (List Key×V)}(ok:lH P w H h)(e:Rd H a (.dT kvs)):kvs.length<=QW/\(a==sysModules)=false/\
  ∃xs,KT H kvs xs/\h.DictOfH (tupleKind (bI P w)) a xs:=by
 obtain⟨z,y,xs,r,o,es,ep,h1,h2,h3,h4,h5⟩:=(show bM P w H h a (.dT kvs)from Ed ok e)
 refine⟨z,y,xs,r,o,es,ep,h1,h2,h3,h4,λx hx=>?_,h5⟩;have all:∀{l:List (List Key×V)}{m:List (List Key×QO×QM)},KT H l m->∀x∈m,(tupleKind (bI P w)).is h x.1 x.2.1:=by
  intro l m q
  induction q with
  |nil=>intro x hx;exact nomatch hx
  |@cons p q ps qs hq t ih=>
   intro x hx;rcases List.mem_cons.mp hx with e|hx
   ·subst e;exact nM ok (by rw[<-hq.1];exact hq.2.1)
   ·exact ih x hx
 exact all r x hx
end
noncomputable def qR(H:Hp)(a:QO)(y:V)(r:Option V):Prop:=
 (∃kvs k,Rd H a (.dK kvs)/\y=kV k/\r=gr kvs k)\/∃kvs k b,Rd H a (.dT kvs)/\y=.ref b/\H b=some (.tup (k.map kV))/\r=gr kvs k
theorem qR.k{H:Hp}{a:QO}{kvs:List (Key×V)}{k:Key}(e:H a=some (.dK kvs)):qR H a (kV k) (gr kvs k):=.inl ⟨kvs,k,.inl e,rfl,rfl⟩
theorem qR.t{H:Hp}{a b:QO}{kvs:List (List Key×V)}{k:List Key}(e:H a=some (.dT kvs))(eb:H b=some (.tup (k.map kV))):qR H a (.ref b) (gr kvs k):=.inr ⟨kvs,k,b,.inl e,rfl,eb,rfl⟩
section
variable{X:Cx}{pins:aM}{σ:St}{H:Hp}{s:QR}{a:QO}{y v:V}{u r:QM}{o:Option V}{A:QZ}{E:aW}
theorem Inv.big(I:Inv X pins σ H s):sysModules<s.heap.objs.size:=by
 have h:QX<s.heap.objs.size:=(I.mod.glob.keeps I.bk).lt;exact N2 (by decide) h
theorem xu{Q:aW}(hu:A.units+1<RG)(I:Inv X pins σ H s)(g:qR H a y (some v))(ry:RelV y u)(h:∀w' s',Inv X pins σ H s'->RelV v w'->Q w' s'):
  Rc (model X.prog X.w) A (getItem (.ref a) u) Q E s:=by
 rcases g with⟨kvs,k,e,ey,l⟩|⟨kvs,k,b,e,ey,eb,l⟩
 ·subst ey;obtain⟨z,hd,vs,rel,dd⟩:=pT I.hok e;obtain⟨w',hw,rw'⟩:=lO.some_of (v:=v) (o:=valueAt vs k) (by rw[l];exact rel.val k);exact wpAny_getItem_of (o4 ry) dd.mapOf hw (h w' _ (I.tok _) rw')
 ·subst ey;cases(show u=Value.ref b from ry);obtain⟨z,hd,xs,rel,dd⟩:=rS I.hok e;obtain⟨w',hw,rw'⟩:=lO.some_of (v:=v) (o:=(atKey xs k).map (·.2)) (by rw[l];exact rel.val k);obtain⟨p,hp,hp2⟩:=Option.map_eq_some_iff.mp hw;refine wpAny_getItem_heap (R0 hu) (nM I.hok eb) dd hp ?_;rw[hp2];exact h w' _ (I.tok _) rw'
theorem Cg{Q:aW}(hu:A.units+1<RG)(I:Inv X pins σ H s)(g:qR H a y o)(ry:RelV y u)(h:∀s',Inv X pins σ H s'->Q (.bool (!o.isSome)) s'):
  Rc (model X.prog X.w) A (Rj .NotIn u (.ref a)) Q E s:=by
 rcases g with⟨kvs,k,e,ey,l⟩|⟨kvs,k,b,e,ey,eb,l⟩
 ·subst ey;obtain⟨z,hd,vs,rel,dd⟩:=pT I.hok e;refine wpAny_notIn_of (o4 ry) hd dd.mapOf ?_;rw[<-(rel.val k).isSome_eq,<-l];exact h _ (I.tok _)
 ·subst ey;cases(show u=Value.ref b from ry);obtain⟨z,hd,xs,rel,dd⟩:=rS I.hok e;refine wpAny_notIn_heap (R0 hu) (nM I.hok eb) hd dd ?_;have q:=(rel.val k).isSome_eq;rw[N1]at q;rw[<-q,<-l];exact h _ (I.tok _)
theorem rl{h':QV}{t':Nat}{ob:HO}(I:Inv X pins σ H s)(mu:Hv (H a))(hs:Qo a s.heap h')(he:∃q,h'.get? a=some q)(new:bM X.prog X.w (upd H a ob) h' a ob):
  Inv X pins σ (upd H a ob) {s with heap:=h',toks:=t'}:=
 I.write (x:=a) (e:=a) mu (.inl rfl) (λb q hb z=>(hs.2 b hb).trans z) he new
theorem Ai{P:QT}{w:QS}{H':Hp}{h':QV}{kvs:List (Key×V)}{vs:List (Key×QM)}(z:kvs.length<=QW)(hd:(a==sysModules)=false)(rel:KV kvs vs)(dd:h'.DictOf (bI P w) a vs):
  bM P w H' h' a (.dK kvs):=⟨z,hd,vs,rel,dd⟩
end
noncomputable def Ew(i:QP):Prop:=∀ov iv,subscripted i false ov iv=operate [ov,iv] (getItem ov iv)
theorem BQ{prog:QT}{w:QS}{A:QZ}{E:aW}{s:QR}{env:Env}{value slice:QP}{pos:Pos}{T id:String}{Q:aW}
  (hl:typeLookup (.type T) "__getitem__"=pure (some (.builtin id))) (hs:Ew slice)
  (h:Rc (model prog w) A (eval value env) (λo s₁=>Rc (model prog w) A (eval slice env) (λi s₂=>s₂.TypeIs o T/\Rc (model prog w) A (getItem o i) Q E s₂) E s₁) E s):
  Rc (model prog w) A (eval (.Subscript value slice pos) env) Q E s:=by
 refine Subscript_ (Rg h (λo s₁ h₁=>Rg h₁ (λi s₂ h₂=>?_) λ_ _ x=>x) λ_ _ x=>x);obtain⟨hT,h₂⟩:=h₂;unfold subscriptTail;refine Rq ?_;rw[getitemInPython_of_ne hT.not_modules];refine Rq (wpAny_specialOf hT hl ?_);have fin:Rc (model prog w) A (subscripted slice false o i) (λr s₃=>Rc (model prog w) A (letTemporaryGo value o r >>= λ_=>pure r) Q E s₃) E s₂:=by
  rw[hs o i];exact wpAny_operating (Rg h₂ (λr s₃ h₃=>Rq (wpAny_letTemporaryGo (Rp h₃))) λ_ _ x=>x)
 first
  |exact Rp (Rq fin)
  |exact Rq (Rp (Rq fin))
  |exact Rq fin
theorem sR{X:Cx}{pins:aM}{σ:St}{H:Hp}{s:QR}{a:QO}{y:V}{o:Option V}(I:Inv X pins σ H s)(g:qR H a y o):s.TypeIs (.ref a) "dict":=by
 rcases g with⟨kvs,k,e,_,_⟩|⟨kvs,k,b,e,_,_,_⟩
 ·obtain⟨_,_,vs,_,dd⟩:=pT I.hok e;exact dd.typeIs
 ·obtain⟨_,_,xs,_,dd⟩:=rS I.hok e;exact dd.typeIs
noncomputable def Ig(td ty:TE):TE:=λσ H Q=>td σ H λx H1=>ty σ H1 λy H2=>∃a v,x=.ref a/\qR H2 a y (some v)/\Q v H2
section
variable{X:Cx}{o i e value:QP}{pos pos' tpos:Pos}{td ty tv:TE}
theorem CO(hu:X.A.units+1<RG)(ho:PE X o td)(hi:PE X i ty)(hs:Ew i):PE X (.Subscript o i pos) (Ig td ty):=by
 intro pins s σ H Q I h;refine BQ PySem.F.slot_dict_getitem.lookup hs (bU (ho pins s σ H _ I h) λu s1 ⟨x,H1,I1,rx,q1⟩=>bU (hi pins s1 σ H1 _ I1 q1) λiv s2 ⟨y,H2,I2,ry,a,v,ex,g,q2⟩=>?_);subst ex;obtain rfl:u=Value.ref a:=rx;exact⟨sR I2 g,xu hu I2 g ry λw' s3 I3 rw'=>⟨v,H2,I3,rw',q2⟩⟩
end
theorem yV{P:QT}{w:QS}{H:Hp}(h:QV)(hb:sysModules<h.objs.size):bM P w H (h.push {cls:=.type "dict",data:=.dict #[]}) h.objs.size (.dK []):=
 ⟨NC _,beq_eq_false_iff_ne.mpr (Ne.symm (Nc hb)),[],.nil,Heap.DictOf.new h⟩
noncomputable def qz:List (TE×TE)->St->Hp->(List (V×V)->Hp->Prop)->Prop
 |[],_,H,Q=>Q [] H
 |(tk,tv)::r,σ,H,Q=>tk σ H λx H1=>tv σ H1 λy H2=>qz r σ H2 λps H3=>Q ((x,y)::ps) H3
noncomputable abbrev VV:List (V×V)->List (QM×QM)->Prop:=QU λp q=>RelV p.1 q.1/\RelV p.2 q.2
noncomputable def GZ(X:Cx)(pos:Pos)(keys:List (Option QP))(values:aR)(trs:List (TE×TE)):Prop:=
 ∀(pins:aM)(s:QR)(σ:St)(H:Hp)(Q:List (V×V)->Hp->Prop),Inv X pins σ H s->qz trs σ H Q->
  Rc (model X.prog X.w) X.A (evalPairs (pairTrees keys values X.env pos)) (λvs s'=>∃ps H',Inv X pins σ H' s'/\VV ps vs/\Q ps H') X.xe s
theorem mJ{X:Cx}{pos:Pos}:GZ X pos [] [] []:=λpins s σ H Q I h=>pairTrees_nil_walk ⟨[],H,I,.nil,h⟩
theorem eZ{X:Cx}{pos:Pos}{k v:QP}{ks:List (Option QP)}{vs:aR}{tk tv:TE}{trs:List (TE×TE)}(hk:PE X k tk)(hv:PE X v tv)(hr:GZ X pos ks vs trs):
  GZ X pos (some k::ks) (v::vs) ((tk,tv)::trs):=λpins s σ H Q I h=>
 pairTrees_cons_walk (bU (hk pins s σ H _ I h) λu s1 ⟨x,H1,I1,rx,q1⟩=>bU (hv pins s1 σ H1 _ I1 q1) λw2 s2 ⟨y,H2,I2,ry,q2⟩=>
  bU (hr pins s2 σ H2 _ I2 q2) λws s3 ⟨ps,H3,I3,rel,q3⟩=>⟨(x,y)::ps,H3,I3,.cons ⟨rx,ry⟩ rel,q3⟩)
noncomputable def fw(kvs more:List (Key×V)):List (Key×V):=more.foldl (λacc kv=>putK acc kv.1 kv.2) kvs
theorem KV.merge:∀{more:List (Key×V)}{rs:List (Key×QM)}{kvs:List (Key×V)}{vs:List (Key×QM)},KV more rs->KV kvs vs->KV (fw kvs more) (merged vs rs):=by
 intro more rs kvs vs r;unfold KV at r
 induction r generalizing kvs vs with
 |nil=>intro q;exact q
 |@cons p q ps qs h t ih=>
  intro r0;have e:KV (putK kvs p.1 p.2) (stored vs q.1 q.2):=by
   have:=r0.put p.1 h.2
   rw[<-h.1];exact this
  exact ih e
theorem fO:∀(more kvs:List (Key×V)),(fw kvs more).length<=kvs.length+more.length
 |[],kvs=>by show kvs.length<=kvs.length+0;omega
 |p::r,kvs=>by
  have h1:=fO r (putK kvs p.1 p.2);have h2:=lr kvs p.1 p.2;show(fw (putK kvs p.1 p.2) r).length<=_;rw[Nw];omega
theorem oa{P:QT}{w:QS}:∀{kvs:List (Key×V)}{ws:List (QM×QM)},VV (kvs.map λkv=>(kV kv.1,kv.2)) ws->∃rs,Carries (bI P w) ws rs/\KV kvs rs
 |[],_,r=>by rw[NX]at r;cases r;exact⟨[],True.intro,.nil⟩
 |p::kvs,_,r=>by
  rw[Nx]at r;cases r with
  |@cons a b as bs h t=>
   obtain⟨rs,c,q⟩:=oa (P:=P) (w:=w) t;obtain⟨b1,b2⟩:=b;exact⟨(p.1,b2)::rs,⟨o4 h.1,rfl,c⟩,.cons ⟨rfl,h.2⟩ q⟩
noncomputable def Hi(trs:List (TE×TE)):TE:=λσ H Q=>∀p,H p=none->qz trs σ (upd H p (.dK [])) λps H2=>H2 p=some (.dK [])/\∃kvs:List (Key×V),ps=kvs.map (λkv=>(kV kv.1,kv.2))/\kvs.length<=15/\Q (.ref p) (upd H2 p (.dK (fw [] kvs)))
theorem vI{X:Cx}{pos:Pos}{keys:List (Option QP)}{values:aR}{trs:List (TE×TE)}(h:GZ X pos keys values trs)(hall:keys.all (·.isSome)=true)(hl:keys.length=values.length)(h0:keys≠[])
  (h15:keys.length<=15):PE X (.Dict keys values pos) (Hi trs):=by
 intro pins s σ H Q I q;have hn:=I.hok.fresh (Nt s.heap.objs.size);have I1:=I.laid (a:=s.heap.objs.size) (o:=.dK []) (h':=s.heap.push {cls:=.type "dict",data:=.dict #[]}) (t':=s.toks) (λ_ _ q=>Qp _ q) (Nt _) (yV s.heap I.big);refine wpAny_Dict_walk (knd:=bI X.prog X.w) hall hl h0 h15 (bU (h pins _ σ _ _ I1 (q _ hn)) λws s2 ⟨ps,H2,I2,rel,e,kvs,ep,lk,q2⟩=>?_);subst ep;obtain⟨rs,c,rk⟩:=oa (P:=X.prog) (w:=X.w) rel;obtain⟨z,hd,vs0,r0,dd⟩:=HU I2.hok e;cases r0;refine⟨rs,c,dd,λh' dd' hs=>⟨.ref s.heap.objs.size,_,?_,rfl,q2⟩⟩;have hz:(fw [] kvs).length<=QW:=by
  have h1:=fO kvs [];rw[N0]at h1;rw[Rv];omega
 have he:∃q,h'.get? s.heap.objs.size=some q:=let ⟨q,_,_,hq,_⟩:=dd';⟨q,hq⟩
 exact rl I2 (by rw[e];exact True.intro) hs he (Ai hz hd (rk.merge .nil) dd')
structure M2(X:Cx)(o:QP)(m:Str)(apos:Pos)(e f:QP)(cpos:Pos):Prop where
 base:RC o m X.env (eval o X.env)=eval o X.env
 few:((backTo cpos (Rf [e,f] X.env)).all (λx=>!x.1)&&(backToKw cpos (RF [] X.env)).all (λx=>x.1.isSome)
  && decide (([e,f]:aR).length+([]:List RZ).length+(if([]:List RZ).isEmpty then 0 else 1)<30))=true
 line:(apos.endLine==cpos.line)=true
 trees:backTo cpos (Rf [e,f] X.env)=[(false,eval e X.env),(false,eval f X.env)]
noncomputable def Li(H:Hp)(a:QO):Prop:=(∃kvs,Rd H a (.dK kvs))\/∃kvs,Rd H a (.dT kvs)
theorem E7{X:Cx}{pins:aM}{σ:St}{H:Hp}{s:QR}{a:QO}(I:Inv X pins σ H s)(d:Li H a):
  s.TypeIs (.ref a) "dict"/\(∀b,Value.ref a=.ref b->∃ob,s.heap.get? b=some ob/\ob.dict=none)/\(a==sysModules)=false:=by
 rcases d with⟨kvs,e⟩|⟨kvs,e⟩
 ·obtain⟨_,hd,vs,_,dd⟩:=pT I.hok e;refine⟨dd.typeIs,λb q=>?_,hd⟩;cases q;obtain⟨ob,_,_,h1,h2,_⟩:=dd;exact⟨ob,h1,h2.2.1⟩
 ·obtain⟨_,hd,xs,_,dd⟩:=rS I.hok e;refine⟨dd.typeIs,λb q=>?_,hd⟩;cases q;obtain⟨ob,_,_,h1,h2,_⟩:=dd;exact⟨ob,h1,h2.2.1⟩
section
variable{X:Cx}{pins:aM}{σ:St}{H:Hp}{s:QR}{a:QO}{y d:V}{u r:QM}{o:Option V}{A:QZ}{E:aW}
theorem z9{Q:aW}(hu:A.units+1<RG)(I:Inv X pins σ H s)(g:qR H a y o)(ry:RelV y u)(rd:RelV d r)(h:∀w' s',Inv X pins σ H s'->RelV (o.getD d) w'->Q w' s'):
  Rc (model X.prog X.w) A (call (.builtin "dict.get") [.ref a,u,r]) Q E s:=by
 rcases g with⟨kvs,k,e,ey,l⟩|⟨kvs,k,b,e,ey,eb,l⟩
 ·subst ey;obtain⟨z,hd,vs,rel,dd⟩:=pT I.hok e;refine call_meetsIn QH dd.typeIs QI (QJ _ _ _) (meets_dict_get_default (bI X.prog X.w) a (o4 ry) hd r) ⟨_,dd.mapOf,h _ _ (I.tok _) ?_⟩;rw[l];exact(rel.val k).getD rd
 ·subst ey;cases(show u=Value.ref b from ry);obtain⟨z,hd,xs,rel,dd⟩:=rS I.hok e;refine call_meetsIn QH dd.typeIs QI (QJ _ _ _) (meetsH_dict_get_default (tupleKind (bI X.prog X.w)) a b hd r) ⟨R0 hu,k,xs,nM I.hok eb,dd,h _ _ (I.tok _) ?_⟩;rw[l];exact(rel.val k).getD rd
end
noncomputable def cB(cells:kR):n8->kR->kR
 |[],acc=>acc
 |(n,k)::r,acc=>if k=.free then(match cells.lookup n with|some c=>cB cells r ((n,c)::acc)|none=>cB cells r acc)else cB cells r acc
theorem iX{cells:kR}:∀(names:n8)(acc:kR),(∀x c,acc.lookup x=some c->cells.lookup x=some c)->
  ∀x c,(cB cells names acc).lookup x=some c->cells.lookup x=some c
 |[],acc,h=>h
 |(n,k)::r,acc,h=>by
  unfold cB;by_cases hk:k=.free
  ·rw[if_pos hk];cases e:cells.lookup n with
   |none=>exact iX r acc h
   |some c0=>
    refine iX r _ λx c q=>?_;rw[N3]at q;cases hx:x==n with
    |true=>
     rw[hx]at q;have e1:x=n:=(by simpa using hx);cases q;rw[e1];exact e
    |false=>rw[hx]at q;exact h x c q
  ·rw[if_neg hk];exact iX r acc h
theorem gY{cells:kR}:∀(names:n8)(acc:kR)(x:Str),(acc.lookup x).isSome=true->((cB cells names acc).lookup x).isSome=true
 |[],acc,x,h=>h
 |(n,k)::r,acc,x,h=>by
  unfold cB;by_cases hk:k=.free
  ·rw[if_pos hk];cases e:cells.lookup n with
   |none=>exact gY r acc x h
   |some c0=>
    refine gY r _ x ?_;rw[N3];cases hx:x==n with
    |true=>rfl
    |false=>exact h
  ·rw[if_neg hk];exact gY r acc x h
theorem gu{cells:kR}:∀(names:n8)(acc:kR)(x:Str),(x,NameKind.free)∈names->(∃c,cells.lookup x=some c)->((cB cells names acc).lookup x).isSome=true
 |[],acc,x,h,_=>absurd h (by simp)
 |(n,k)::r,acc,x,h,hc=>by
  unfold cB;rcases List.mem_cons.mp h with e|h
  ·cases e;rw[if_pos rfl];obtain⟨c,e⟩:=hc;rw[e];refine gY r _ _ ?_;rw[N3];simp
  ·by_cases hk:k=.free
   ·rw[if_pos hk];cases e:cells.lookup n with
    |none=>exact gu r acc x h hc
    |some c0=>exact gu r _ x h hc
   ·rw[if_neg hk];exact gu r acc x h hc
theorem ke{scope:Ra}{env:Env}(h:∀p∈scope.names,p.2=.free->∃c,env.cells.lookup p.1=some c):closureFor scope env=pure (cB env.cells scope.names []):=by
 have go:∀(names:n8)(acc:kR),(∀p∈names,p.2=.free->∃c,env.cells.lookup p.1=some c)->
   (forIn names acc λx cs=>(match x with|(name,kind)=>if(kind==NameKind.free)=true then do let a<-cellOf env name;pure (ForInStep.yield ((name,a)::cs))else pure (ForInStep.yield cs):Sem (ForInStep kR)))=pure (cB env.cells names acc):=by
  intro names
  induction names with
  |nil=>intro acc _;rfl
  |cons p r ih=>
   intro acc hp;obtain⟨n,k⟩:=p;rw[N4];by_cases hk:k=.free
   ·obtain⟨c,e⟩:=hp (n,k) Ni hk;subst hk;have e2:cellOf env n=pure c:=(by unfold cellOf;rw[e]);simp only[beq_self_eq_true,if_true,e2,pure_bind];rw[ih _ λq hq=>hp q (Nj _ hq)]
    conv=>rhs;rw[cB]
    simp[e]
   ·have hb:(k==NameKind.free)=false:=(by simpa using hk);simp only[hb,N5,if_false,pure_bind];rw[ih _ λq hq=>hp q (Nj _ hq)]
    conv=>rhs;rw[cB,if_neg hk]
 have:=go scope.names [] h
 unfold closureFor;simp only[];rw[this];rfl
noncomputable def bK(X:Cx)(scope:Ra)(N:av)(cl:kR)(C:QO)(fp:aD)(s:QR)(H:Hp)(E:aW):Cx where
 prog:=X.prog
 w:=X.w
 K:=X.K
 mg:=X.mg
 base:=X.base
 A:=X.A
 N:=N
 s₀:=s
 H₀:=H
 env:=compEnvC scope cl C X.env
 outer:=X.stack
 stack:=X.stack
 ex:=fp
 fn:=λ_=>false
 calm:=X.calm
 pn:=[]
 xe:=E
noncomputable def qp(XN N:av)(names:n8)(ix:eD):Bool:=
 decide (ix.length=N.length)&&(N.zip ix).all λp=>match p.2 with
  |some i=>decide (XN[i]?=some p.1)&&decide (names.lookup p.1=some .free)
  |none=>true
noncomputable def inBlock(ix:eD)(σ:St):St:=ix.map λo=>match o with
 |some i=>(σ[i]?).getD none
 |none=>none
theorem qp.len{XN N:av}{names:n8}{ix:eD}(h:qp XN N names ix=true):ix.length=N.length:=by
 unfold qp at h;rw[NU]at h;exact of_decide_eq_true h.1
theorem qp.at_{XN N:av}{names:n8}{ix:eD}(h:qp XN N names ix=true){j i:Nat}{x:Str}(h1:N[j]?=some x)(h2:ix[j]?=some (some i)):XN[i]?=some x/\names.lookup x=some .free:=by
 unfold qp at h;rw[NU]at h;have hm:(x,some i)∈N.zip ix:=by
  have e:(N.zip ix)[j]?=some (x,some i):=by rw[List.getElem?_zip_eq_some];exact⟨h1,h2⟩
  exact NQ e
 have q:=List.all_eq_true.mp h.2 _ hm;simp only[NU]at q;exact⟨of_decide_eq_true q.1,of_decide_eq_true q.2⟩
theorem iL{env:Env}:∀{names:n8}{x:Str}{k:QN},
  (names.map λ(n,k)=>if(k==NameKind.free&&env.scope.kind==.function&&env.kindOf n==some .cell)then(n,NameKind.cell)else(n,k)).lookup x=some k->
  names.lookup x=some k\/(names.lookup x=some .free/\k=.cell)
 |[],_,_,h=>by simp at h
 |(n,k0)::r,x,k,h=>by
  have ih:=@iL env r x k
  replace h:List.lookup x ((if(k0==NameKind.free&&env.scope.kind==.function&&env.kindOf n==some .cell)=true then(n,NameKind.cell)else(n,k0))::(r.map λ(n,k)=>if(k==NameKind.free&&env.scope.kind==.function&&env.kindOf n==some .cell)then(n,NameKind.cell)else(n,k)))=some k:=h
  by_cases hc:(k0==NameKind.free&&env.scope.kind==.function&&env.kindOf n==some .cell)=true
  ·rw[if_pos hc]at h;have hk0:k0=.free:=by
    simp only[NU]at hc
    simpa using hc.1.1
   cases hx:x==n with
   |true=>
    simp only[N3,hx]at h;simp only[N3,hx];cases h;exact .inr ⟨by rw[hk0],rfl⟩
   |false=>
    simp only[N3,hx]at h ⊢;exact ih h
  ·rw[if_neg hc]at h;cases hx:x==n with
   |true=>
    simp only[N3,hx]at h ⊢;exact .inl h
   |false=>
    simp only[N3,hx]at h ⊢;exact ih h
noncomputable def Ga(X:Cx)(ifs:aR)(t:TT):Prop:=
 ∀(pins:aM)(s:QR)(σ:St)(H:Hp)(Q:Bool->Hp->Prop),Inv X pins σ H s->t σ H Q->
  Rc (model X.prog X.w) X.A (forIn ifs true λc r=>if r=true then do let ok<-isTrue c X.env (eval c X.env);pure (ForInStep.yield ok)else pure (ForInStep.yield r)) (TP X pins σ Q) X.xe s
noncomputable def HY:TT:=λ_ H Q=>Q true H
theorem BJ{X:Cx}:Ga X [] HY:=λ_ _ _ H _ I h=>wpAny_tests_nil ⟨H,I,h⟩
theorem CA{X:Cx}{c:QP}{t:TT}(h:PT X c t):Ga X [c] t:=λpins s σ H Q I q=>wpAny_tests_one (h pins s σ H Q I q)
theorem iM{prog:QT}{w:QS}{A:QZ}{R:Rz->eI}{s:QR}{elt target iter:QP}{ifs:aR}{scope:Ra}{pos:Pos}{it acc:QM}{env:Env}(I:Nat->eI)
  (turn:∀ n s,I n s->Rc (model prog w) A (pyNext it) (fun r s₁=>match r with
   |none=>R (.ok .next) s₁
   |some v=>Rc (model prog w) A (letOwnedTupleGo target it v) (λ_ s₁'=>Rc (model prog w) A (assign target env v) (λ_ s₂=>
     Rc (model prog w) A (forIn ifs true λc r=>if r=true then do let ok<-isTrue c env (eval c env);pure (ForInStep.yield ok)else pure (ForInStep.yield r)) (λok s₃=>
      if ok=true then Rc (model prog w) A (eval elt env) (λx s₄=>
       Rc (model prog w) A (call (.builtin "list.append") [acc,x]) (λ_ s₅=>∃m,m<n/\I m s₅) (notedBy (model prog w) A env λe s'=>R (.error e) s') s₄) (notedBy (model prog w) A env λe s'=>R (.error e) s') s₃
      else∃m,m<n/\I m s₃) (notedBy (model prog w) A env λe s'=>R (.error e) s') s₂) (notedBy (model prog w) A env λe s'=>R (.error e) s') s₁') (notedBy (model prog w) A env λe s'=>R (.error e) s') s₁) (notedBy (model prog w) A env λe s'=>R (.error e) s') s)
  (n:Nat) (h:I n s):
  RB (model prog w) A (.compLoop (.ListComp elt [⟨target,iter,ifs,0⟩] scope pos) 0 it acc env) R s:=by
 refine codeAny_loop rfl I (λn s hI=>?_) n h;show Rc _ A ((compTurn (.ListComp elt [⟨target,iter,ifs,0⟩] scope pos) 0 it acc env).onRaise (λx=>do noteFrame x env;theTreesLotGoes x)) _ _ s;refine wpAny_noted ?_;rw[compTurn_list];refine Rq (R1 (Rq (Rg (turn n s hI) (λr s₁ h₁=>?_) λ_ _ h'=>h')));cases r with
 |none=>exact Rp h₁
 |some v=>
  refine Rq (Rg h₁ (λ_ s₁' h₁'=>?_) λ_ _ h'=>h');refine Rq (Rg h₁' (λ_ s₂ h₂=>Rq (Rg h₂ (λok s₃ h₃=>?_) λ_ _ h'=>h')) λ_ _ h'=>h');cases ok with
  |false=>exact Rp ⟨rfl,h₃⟩
  |true=>
   exact Rq (Rq (Rg h₃ (λx s₄ h₄=>Rq (Rg h₄ (λ_ s₅ h₅=>Rp (Rp ⟨rfl,h₅⟩)) λ_ _ h'=>h')) λ_ _ h'=>h'))
noncomputable def IQ(wi:TI)(g:TG)(tc:TT)(te:TE)(ix:eD):TE:=λσ H Q=>
 wi σ H λJ H1=>∀D,H1 D=none->∃W:Nat->Nat->St->Hp->Prop,(∃m,W 0 m (inBlock ix σ) (upd H1 D (.lst [])))/\
  ∀i m σ' H',W i m σ' H'->(J.stop i H'/\Q (.ref D) H') \/
   (J.go i H'/\∀ x H2,J.yld i H' x H2->g x σ' H2 fun σ3 H3=>tc σ3 H3 fun b H4 =>
    if b=true then te σ3 H4 λv H5=>∃acc,H5 D=some (.lst acc)/\acc.length<QW/\∃m',m'<m/\W (i+1) m' σ3 (upd H5 D (.lst (acc++[v])))
    else∃m',m'<m/\W (i+1) m' σ3 H4)
section
variable{X:Cx}{elt tg iter:QP}{ifs:aR}{scope:Ra}{pos:Pos}{N:av}{ix:eD}{wi:TI}{g:TG}{tc:TT}{te:TE}
theorem m8{pins:aM}{σ:St}{s2:QR}{H2:Hp}{it:QO}{fp:aD}{tn:Nat->QV->Prop}{J:It}{Q:V->Hp->Prop}{E:aW}{RR:QM->QO->Rz->eI}
    (hc:X.calm=true) (hcell:∀y∈scope.names,y.2≠.cell) (hkind:scope.kind=.function)
    (hfr:∀y∈scope.names,y.2=.free->X.env.scope.names.lookup y.1=some .cell\/X.env.scope.names.lookup y.1=some .free)
    (hix:qp X.N N scope.names ix=true)
    (hb:∀cl C fp s H E,PG (bK X scope N cl C fp s H E) tg g/\Ga (bK X scope N cl C fp s H E) ifs tc/\PE (bK X scope N cl C fp s H E) elt te)
    (I2:Inv X pins σ H2 s2) (T:Turn X.prog X.w X.K tg J fp it tn) (st2:tn 0 s2.heap) (f2:∀b∈fp,oM X pins H2 b)
    (q:∀ D,H2 D=none->∃ W:Nat->Nat->St->Hp->Prop,(∃ m,W 0 m (inBlock ix σ) (upd H2 D (.lst []))) /\
      ∀i m σ' H',W i m σ' H'->(J.stop i H'/\Q (.ref D) H') \/
        (J.go i H'/\∀ x H3,J.yld i H' x H3->g x σ' H3 fun σ3 H3=>tc σ3 H3 fun b H4 =>
          if b=true then te σ3 H4 λv H5=>∃acc,H5 D=some (.lst acc)/\acc.length<QW/\∃m',m'<m/\W (i+1) m' σ3 (upd H5 D (.lst (acc++[v])))
          else∃m',m'<m/\W (i+1) m' σ3 H4))
    (hRR:∀D C H' s' m,H2 D=none->s2.heap.objs.size<=C->H' C=none->s'.heap.Ns C m->(∀h',Qo C s'.heap h'->Inv X pins σ H' {s' with heap:=h'})->Q (.ref D) H'->RR (.ref D) C (.ok .next) s'):
    Rc (model X.prog X.w) X.A (newList []) (λacc s₃=>Rc (model X.prog X.w) X.A (newFunctionEnv scope X.env.globals (cB X.env.cells scope.names []) [] X.env.qual none .none (some X.env)) (λcenv s₄=>
      RB (model X.prog X.w) X.A (.compStart (.ListComp elt [⟨tg,iter,ifs,0⟩] scope pos) 0 (.ref it) acc {cenv with scope:=relabel scope X.env}) (RR acc cenv.locals) s₄) E s₃) E s2:=by
  refine RY (wpAny_newFunctionEnv hcell (by intro y hy;simp at hy) (λh₁ hns₁ hsb₁=>?_) hkind);dsimp only at hns₁ hsb₁ ⊢;have I3:Inv X pins σ (upd H2 s2.heap.objs.size (.lst [])) {s2 with heap:=s2.heap.push {cls:=.type "list",dict:=none,data:=.seq ([]:aS).toArray},toks:=s2.toks}:=I2.lnew (its:=[]) (t':=s2.toks) .nil (NC _);generalize hs3:({s2 with heap:=s2.heap.push {cls:=.type "list",dict:=none,data:=.seq ([]:aS).toArray},toks:=s2.toks}:QR)=s3 at I3;have eh3:s2.heap.push {cls:=.type "list",dict:=none,data:=.seq ([]:aS).toArray}=s3.heap:=by rw[<-hs3]
  rw[eh3]at hns₁ hsb₁ ⊢;have hC3:s3.heap.objs.size=s2.heap.objs.size+1:=by rw[<-eh3,Qr]
  have hD:H2 s2.heap.objs.size=none:=I2.fresh;obtain⟨W,⟨m0,w0⟩,turn⟩:=q s2.heap.objs.size hD;generalize hH3:upd H2 s2.heap.objs.size (.lst [])=H3 at I3 w0;have old:∀b o,s3.heap.get? b=some o->h₁.get? b=some o:=λb o e=>hsb₁.extBut b o (Nc (Qm e)) (Qp _ e);have fpH3:∀b∈fp,H3 b=none:=λb hb'=>by
    rw[<-hH3,ak]
    ·exact(f2 b hb').1
    · obtain⟨o,e,_⟩:=T.obj _ _ st2 b hb'
      exact Nc (Qm e)
  have fpLt:∀b∈fp,b<s3.heap.objs.size:=λb hb'=>by
    obtain⟨o,e,_⟩:=T.obj _ _ st2 b hb';rw[hC3];exact Nat.lt_succ_of_lt (Qm e)
  have hfree:∀p∈scope.names,p.2=.free->∃c,X.env.cells.lookup p.1=some c:=λp hp hk=>I2.ok.has p.1 (hfr p hp hk);have csub:∀x c,(cB X.env.cells scope.names []).lookup x=some c->X.env.cells.lookup x=some c:=iX scope.names [] (λx c e=>by simp at e);have names':∀x k,(relabel scope X.env).names.lookup x=some k->scope.names.lookup x=some k\/(scope.names.lookup x=some .free/\k=.cell):=λx k h=>iL h;have ok:(bK X scope N (cB X.env.cells scope.names []) s3.heap.objs.size fp s3 H3 (notedBy (model X.prog X.w) X.A (compEnvC scope (cB X.env.cells scope.names []) s3.heap.objs.size X.env) λe s'=>RR (.ref s2.heap.objs.size) s3.heap.objs.size (.error e) s')).Ok:=
    { mod:=I3.ok.mod
      kind:=hkind
      glob:=I3.ok.glob
      blt:=I3.ok.blt
      above:=Nt _
      inj:=λx y c h1 h2=>I3.ok.inj x y c (csub x c h1) (csub y c h2)
      has:=λx hx=>by
        have fr:scope.names.lookup x=some .free:=by
          rcases hx with hx|hx
          · rcases names' x .cell hx with h|⟨h,_⟩
            ·exact absurd rfl (hcell _ (PySem.mem_of_lookup h))
            ·exact h
          · rcases names' x .free hx with h|⟨_,h⟩
            ·exact h
            ·cases h
        have hm:=PySem.mem_of_lookup fr;exact Option.isSome_iff_exists.mp (gu scope.names [] x hm (hfree _ hm rfl))
      cab:=λx c h _=>by cases h
      hd:=I3.ok.hd
      frames:=I3.ok.frames
      stk:=.inl rfl
      exf:=λb hb'=>⟨Nc (fpLt b hb'),λx c e=>(f2 b hb').2.2.2.2.1 x c (csub x c e)⟩
      bs:=λb o e=>I3.bs b o e
      bsz:=Nf I3.ok.bsz I3.sz
      noex:=λb o e hb'=>by
        obtain⟨_,_,_,h4,_⟩:=f2 b hb';rcases h4 with h4|h4
        ·exact I3.ok.noex b o e h4
        ·exact absurd (M9 (Qm (I3.ok.bs b o e).1) h4) (Nb _)
      exfs:=λb hb' hs=>by
        obtain⟨_,h2,h3,_⟩:=f2 b hb';rcases List.mem_cons.mp (I3.stkSub b hs)with e|e
        ·exact h2 e
        ·exact h3 e
      funs:=I3.stack
      frf:=λb hb'=>I3.stkFree b hb'}
  generalize hE:(notedBy (model X.prog X.w) X.A (compEnvC scope (cB X.env.cells scope.names []) s3.heap.objs.size X.env) λe s'=>RR (.ref s2.heap.objs.size) s3.heap.objs.size (.error e) s')=E' at ok;obtain⟨hg,htc,hel⟩:=hb (cB X.env.cells scope.names []) s3.heap.objs.size fp s3 H3 E';have Istart:∀tk,Inv (bK X scope N (cB X.env.cells scope.names []) s3.heap.objs.size fp s3 H3 E') [] (inBlock ix σ) H3 {s3 with heap:=h₁,toks:=tk}:=λtk=>by
    refine⟨ok,rfl,I3.bare,Un.kept old,⟨_,hns₁,λj x v e1 e2 _=>?_⟩,λx c e=>?_,I3.fresh,λx c e=>I3.freeC x c (csub x c e),λp hp=>absurd (show p∈([]:aM)from hp) (by simp),I3.hok.kept old,?_⟩
    ·
      unfold inBlock at e2;rw[NP]at e2;cases q1:ix[j]? with
      |none=>rw[q1]at e2;simp at e2
      |some o=>
        rw[q1]at e2;cases o with
        |none=>simp at e2
        |some i=>
          obtain⟨n1,n2⟩:=qp.at_ hix e1 q1;have e2':(σ[i]?).getD none=some v:=Option.some.inj e2;have e3:σ[i]?=some (some v):=by
            cases q2:σ[i]? with
            |none=>rw[q2]at e2';simp at e2'
            |some o2=>rw[q2]at e2';simpa using e2'
          obtain⟨m,hn,hl⟩:=I3.loc;have hm:=PySem.mem_of_lookup n2;have hk:=hfr _ hm rfl;have hv:Fq X.env.scope x:=by
            rcases hk with hk|hk
            ·exact .inr (.inl hk)
            ·exact .inr (.inr hk)
          obtain⟨u,r,l⟩:=hl i x v n1 e3 hv;refine⟨u,r,.inr ?_⟩;rcases l with⟨kl,_⟩|⟨_,c,hcx,hcell'⟩
          · have kl':X.env.scope.names.lookup x=some .local:=kl
            rcases hk with hk|hk
            ·rw[kl']at hk;cases hk
            ·rw[kl']at hk;cases hk
          · obtain⟨c',hc'⟩:=Option.isSome_iff_exists.mp (gu (cells:=X.env.cells) scope.names [] x hm ⟨c,hcx⟩)
            have ec:c'=c:=Option.some.inj ((csub x c' hc').symm.trans hcx);subst ec;refine⟨?_,c',hc',?_⟩
            ·
              show(relabel scope X.env).names.lookup x=some .cell\/(relabel scope X.env).names.lookup x=some .free;have gen:∀names:n8,names.lookup x=some .free->((names.map λ(n,k)=>if(k==NameKind.free&&X.env.scope.kind==.function&&X.env.kindOf n==some .cell)then(n,NameKind.cell)else(n,k)).lookup x=some .cell\/(names.map λ(n,k)=>if(k==NameKind.free&&X.env.scope.kind==.function&&X.env.kindOf n==some .cell)then(n,NameKind.cell)else(n,k)).lookup x=some .free):=by
                intro names
                induction names with
                |nil=>intro h;simp at h
                |cons p r ih=>
                  obtain⟨n,k⟩:=p;intro h;show List.lookup x ((if(k==NameKind.free&&X.env.scope.kind==.function&&X.env.kindOf n==some .cell)=true then(n,NameKind.cell)else(n,k))::_)=_\/List.lookup x ((if(k==NameKind.free&&X.env.scope.kind==.function&&X.env.kindOf n==some .cell)=true then(n,NameKind.cell)else(n,k))::_)=_;cases hx:x==n with
                  |true=>
                    simp only[N3,hx]at h;by_cases hcc:(k==NameKind.free&&X.env.scope.kind==.function&&X.env.kindOf n==some .cell)=true
                    ·rw[if_pos hcc];left;simp only[N3,hx]
                    ·rw[if_neg hcc];right;simp only[N3,hx];exact h
                  |false=>
                    simp only[N3,hx]at h;by_cases hcc:(k==NameKind.free&&X.env.scope.kind==.function&&X.env.kindOf n==some .cell)=true
                    ·rw[if_pos hcc];simp only[N3,hx];exact ih h
                    ·rw[if_neg hcc];simp only[N3,hx];exact ih h
              exact gen scope.names n2
            ·exact hcell'.keeps old
    · obtain⟨v,z⟩:=I3.cell x c (csub x c e)
      exact⟨v,z.keeps old⟩
    · show(inBlock ix σ).length=N.length
      unfold inBlock;rw[Ny];exact qp.len hix
  have stat:∀{H':Hp},(∀b∈fp,H' b=none)->∀b∈fp,oM (bK X scope N (cB X.env.cells scope.names []) s3.heap.objs.size fp s3 H3 E') [] H' b:=λhn b hb'=>
    ⟨hn b hb',(ok.exf b hb').1,ok.exfs b hb',.inl hb',(ok.exf b hb').2,λp hp=>absurd (show p∈([]:aM)from hp) (by simp)⟩
  have tn1:tn 0 h₁:=T.keep _ _ _ st2 λb hb' o e=>old b o (by rw[<-eh3];exact Qp _ e);have loop:∀tk,RB (model X.prog X.w) X.A (.compLoop (.ListComp elt [⟨tg,iter,ifs,0⟩] scope pos) 0 (.ref it) (.ref s2.heap.objs.size) (compEnvC scope (cB X.env.cells scope.names []) s3.heap.objs.size X.env))
      (RR (.ref s2.heap.objs.size) s3.heap.objs.size) {s3 with heap:=h₁,toks:=tk}:=by
    intro tk;refine iM (λn s'=>∃i σ' H',Inv (bK X scope N (cB X.env.cells scope.names []) s3.heap.objs.size fp s3 H3 E') [] σ' H' s'/\tn i s'.heap/\(∀b∈fp,H' b=none)/\W i n σ' H') ?_ m0 ⟨0,_,_,Istart tk,tn1,fpH3,w0⟩;rintro n s5 ⟨i,σ5,H5,I5,st5,fr5,w5⟩;rw[hE];rcases turn i n σ5 H5 w5 with⟨stop,qn⟩|⟨go,step⟩
    · refine bU (T.done (bK X scope N (cB X.env.cells scope.names []) s3.heap.objs.size fp s3 H3 E') rfl rfl rfl hc i [] s5 σ5 H5 _ I5 (stat fr5) st5 stop) λr s6 ⟨hr,I6⟩=>?_
      subst hr;obtain⟨m6,hn6,_⟩:=I6.loc;refine hRR s2.heap.objs.size s3.heap.objs.size H5 s6 m6 hD (by rw[hC3];exact NE _) I6.free hn6 (λh' sb=>?_) qn;have ne:∀b o,s3.heap.get? b=some o->b≠s3.heap.objs.size:=λb o e=>Nc (Qm e);refine I3.call' (s':={s6 with heap:=h'}) (H':=H5) (ch:=fp) I6.os ⟨λb o e n hb' hx=>?_,λb o e n hb' hx=>?_,λb o e n hx=>?_,λb o e hx=>?_,I6.base.tups,I6.base.frzs,I6.base.tbls⟩ ?_ I6.bare λb hb'=>?_
      ·exact(sb.2 b (ne b o e)).trans (I6.base.keep b o e n hb' hx)
      · obtain⟨sl,e1⟩:=I6.base.slot b o e n hb' hx
        exact⟨sl,(sb.2 b (ne b o e)).trans e1⟩
      ·exact I6.base.free b o e n hx
      · obtain⟨o',e1⟩:=I6.base.there b o e hx
        exact⟨o',(sb.2 b (ne b o e)).trans e1⟩
      · intro b ob e
        have hfreeC:H5 s3.heap.objs.size=none:=I6.free;refine(I6.hok b ob e).stay (λc v hcc q=>(sb.2 c ?_).trans q) (λ_ q=>q) λ_ _ q=>q;rintro rfl;rcases hcc with rfl|hcc
        ·rw[hfreeC]at e;cases e
        ·rw[hfreeC]at hcc;cases hcc
      · obtain⟨_,h2',_,h4',h5',h6'⟩:=f2 b hb'
        exact⟨h4',h2',h5',h6'⟩
    · refine bU (T.item (bK X scope N (cB X.env.cells scope.names []) s3.heap.objs.size fp s3 H3 E') rfl rfl rfl hc i [] s5 σ5 H5 _ I5 (stat fr5) st5 go) λr s6 ⟨u,hr,h6⟩=>?_
      subst hr;refine bU h6 λ_ s7 ⟨x,H7,I7,r7,y7,st7,fr7⟩=>?_;have I7':=I7.pinned (stat fr7) (T.obj _ _ st7);refine bU (hg _ s7 σ5 H7 x u _ I7' r7 (step x H7 y7)) λ_ s8 ⟨σ8,H8,I8,q8⟩=>?_;refine bU (htc _ s8 σ8 H8 _ I8 q8) λb s9 ⟨H9,I9,q9⟩=>?_;have again:∀{σ':St}{H':Hp}{s':QR}{m':Nat},Inv (bK X scope N (cB X.env.cells scope.names []) s3.heap.objs.size fp s3 H3 E') ([]++ni fp s7.heap) σ' H' s'->m'<n->W (i+1) m' σ' H'->
          ∃m,m<n/\∃i σ' H',Inv (bK X scope N (cB X.env.cells scope.names []) s3.heap.objs.size fp s3 H3 E') [] σ' H' s'/\tn i s'.heap/\(∀b∈fp,H' b=none)/\W i m σ' H':=λ{σ' H' s' m'} I' hm w'=>by
        refine⟨m',hm,i+1,σ',H',I'.unpinned,T.keep _ _ _ st7 λb hb' o e=>(I'.pin (b,o) (Nu _ (Nu _ (gX hb' e)))).1,λb hb'=>?_,w'⟩;obtain⟨o,e,d⟩:=T.obj _ _ st7 b hb';exact(I'.pin (b,o) (Nu _ (Nu _ (gX hb' e)))).2.1
      cases b with
      |false=>
        rw[if_neg Nq]at q9 ⊢;obtain⟨m',hm,w9⟩:=q9;exact again I9 hm w9
      |true=>
        rw[if_pos rfl]at q9 ⊢;refine bU (hel _ s9 σ8 H9 _ I9 q9) λy s10 ⟨v,H10,I10,r10,q10⟩=>?_;obtain⟨acc,ha,hz,m',hm,w10⟩:=q10;refine bU (oP _ s10 σ8 H10 (.ref s2.heap.objs.size) [v] (.ref s2.heap.objs.size) [y] (λ_ H'=>H'=upd H10 s2.heap.objs.size (.lst (acc++[v]))) I10 rfl (.cons r10 .nil) ⟨_,acc,v,rfl,rfl,ha,hz,rfl⟩) λ_ s11 ⟨_,H11,I11,_,IC⟩=>?_;subst IC;exact again I11 hm w10
  subst hs3;exact codeAny_compStart_list (loop _) (T.self _ 0 _ _ _ tn1 (loop _))
theorem Ef(hc:X.calm=true)(hcell:∀y∈scope.names,y.2≠.cell)(hkind:scope.kind=.function)(hnames:∀y∈scope.names,y.2=.local->scope.names.lookup y.1=some .local)
  (hfr:∀y∈scope.names,y.2=.free->X.env.scope.names.lookup y.1=some .cell\/X.env.scope.names.lookup y.1=some .free)
  (hix:qp X.N N scope.names ix=true) (hi:PI X tg iter wi)
  (hb:∀cl C fp s H E,PG (bK X scope N cl C fp s H E) tg g/\Ga (bK X scope N cl C fp s H E) ifs tc/\PE (bK X scope N cl C fp s H E) elt te)
  (hs:∀x,Rt iter X.env x=pure x:=by intro _;rfl):PE X (.ListComp elt [⟨tg,iter,ifs,0⟩] scope pos) (IQ wi g tc te ix):=by
 intro pins s σ H Q I h;rw[eval_ListComp];refine R3 (use:=none) rfl hs (ke λp hp hk=>I.ok.has p.1 (hfr p hp hk)) hkind hnames (bU (hi pins s σ H _ I h) λv s1 h1=>bU h1 λitv s2 h2=>?_);obtain⟨it,fp,tn,J,H2,e,I2,T,st2,f2,q⟩:=h2;subst e;refine m8 (Q:=Q) (RR:=λacc C=>compPost (model X.prog X.w) X.A X.xe none (EP X pins σ Q) acc C) hc hcell hkind hfr hix hb I2 T st2 f2 q ?_;intro D C H' s' m _ _ _ hn hI hq;exact⟨m,hn,λh' sb=>⟨.ref D,H',hI h' sb,rfl,hq⟩⟩
theorem DY{i:Nat}{y:Str}{py spos:Pos}(hN:X.N.Nodup)(hi':X.N[i]?=some y)(hx:Loc X.env.scope y)
  (hc:X.calm=true) (hcell:∀y∈scope.names,y.2≠.cell) (hkind:scope.kind=.function) (hnames:∀y∈scope.names,y.2=.local->scope.names.lookup y.1=some .local)
  (hfr:∀y∈scope.names,y.2=.free->X.env.scope.names.lookup y.1=some .cell\/X.env.scope.names.lookup y.1=some .free)
  (hix:qp X.N N scope.names ix=true) (hi:PI X tg iter wi)
  (hb:∀cl C fp s H E,PG (bK X scope N cl C fp s H E) tg g/\Ga (bK X scope N cl C fp s H E) ifs tc/\PE (bK X scope N cl C fp s H E) elt te)
  (hsw:swapsWith (.ListComp elt [⟨tg,iter,ifs,0⟩] scope pos) (some (.Name y py)) spos.line X.env=pure true:=by rfl)
  (hs:∀x,Rt iter X.env x=pure x:=by intro _;rfl)
  (hf:X.fn y=true\/X.env.scope.names.lookup y=some .local:=by first|exact .inl rfl|exact .inr rfl|assumption):
  PS X (.Assign [.Name y py] (.ListComp elt [⟨tg,iter,ifs,0⟩] scope pos) spos) (yY (IQ wi g tc te ix) (o7 i)):=by
 intro pins s σ H D0 I h;rw[exec_Assign_Name_used _ _ _ _ hsw];refine Rq (R1 (Rq ?_));show Rc _ X.A (do let _<-comprehension (.ListComp elt [⟨tg,iter,ifs,0⟩] scope pos) scope X.env _ (newList []) false (eval iter X.env) (some (assign (.Name y py) X.env))) _ _ s;refine Rq (bU (R3 (use:=some (assign (.Name y py) X.env)) (Q:=λ_ s'=>SP X pins D0 .next s') rfl hs (ke λp hp hk=>I.ok.has p.1 (hfr p hp hk)) hkind hnames
  (bU (hi pins s σ H _ I h) λv s1 h1=>bU h1 λitv s2 h2=>?_)) λ_ s' hq=>Rp (Rp hq))
 obtain⟨it,fp,tn,J,H2,e,I2,T,st2,f2,q⟩:=h2;subst e;refine m8 (Q:=λv H'=>o7 i v σ H' D0.nx) (RR:=λacc C=>compPost (model X.prog X.w) X.A X.xe (some (assign (.Name y py) X.env)) (λ_ s'=>SP X pins D0 .next s') acc C) hc hcell hkind hfr hix hb I2 T st2 f2 q ?_;intro D C H' s' m _ hC hfree hn hI hq;have I':Inv X pins σ H' s':=hI s'.heap (.refl ..);have nL:C≠X.env.locals:=Nr (M9 I2.lt hC);have nC:∀x c,X.env.cells.lookup x=some c->c≠C:=λx c e z=>by
  obtain⟨v,q⟩:=I2.cell x c e;exact absurd (M9 q.lt (by rw[z];exact hC)) (Nb _)
 have nP:∀p∈X.pn++pins,p.1≠C:=λp hp z=>absurd (M9 (Qm (I2.pin p hp).1) (by rw[z];exact hC)) (Nb _);show Rc _ X.A (assign (.Name y py) X.env (.ref D)) _ _ _;refine wpAny_assign_Name (oS I' hN hi' hx (v:=.ref D) rfl (λs'' I'' ch=>?_) hf);obtain⟨a,sb,ha⟩:=ch;have hCa:C≠a:=by
  rcases ha with ha|ha
  ·rw[ha];exact nL
  ·exact Ne.symm (nC y a ha)
 refine⟨m,hn.sameBut sb hCa,λh' sb'=>⟨_,H',?_,hq⟩⟩;exact I''.turned (t':=s''.toks) (λb o hb' e=>(sb'.2 b hb').trans e) hfree nL (.inr (Nf I2.sz hC)) nC nP
end
end L2
namespace TG
open PySem PySem.Spec
noncomputable def DP{α:Type}:Sem α->Prop
 |.pure _=>True
 |.raise _=>True
 |.unsupported _=>True
 |.finish _=>True
 |.rule _ k=>DP (k ())
 |.at _ k=>DP (k ())
 |.load _ _ k=>∀o,DP (k o)
 |.update _ _ f k=>(∀o,(f o).dict=o.dict)/\DP (k ())
 |.loadIfAlive _ k=>∀o,DP (k o)
 |.point _ k=>DP (k ())
 |.alloc _ k=>∀a,DP (k a)
 |.fresh k=>∀a,DP (k a)
 |.ask k=>∀a,DP (k a)
 |.stack k=>∀a,DP (k a)
 |_=>False
theorem DP.bind{α β:Type}{f:α->Sem β}(hf:∀a,DP (f a)):∀{m:Sem α},DP m->DP (m >>= f):=λ{m} h=>by
 show DP (m.bind f)
 induction m with
 |pure a=>exact hf a
 |raise _=>trivial
 |unsupported _=>trivial
 |finish _=>trivial
 |rule _ k ih=>exact ih () h
 |«at» _ k ih=>exact ih () h
 |load _ _ k ih=>exact λo=>ih o (h o)
 |update _ _ g k ih=>exact⟨h.1,ih () h.2⟩
 |loadIfAlive _ k ih=>exact λo=>ih o (h o)
 |point _ k ih=>exact ih () h
 |alloc _ k ih=>exact λo=>ih o (h o)
 |fresh k ih=>exact λo=>ih o (h o)
 |ask k ih=>exact λo=>ih o (h o)
 |stack k ih=>exact λo=>ih o (h o)
 |_=>exact h.elim
noncomputable def DS(h h':QV):Prop:=∀(a:Nat)(o:Obj),h.objs[a]?=some o->∃o',h'.objs[a]?=some o'/\o'.dict=o.dict
theorem DS.refl(h:QV):DS h h:=λ_ o e=>⟨o,e,rfl⟩
theorem DS.trans{h1 h2 h3:QV}(x:DS h1 h2)(y:DS h2 h3):DS h1 h3:=λa o e=>by
 obtain⟨o1,e1,d1⟩:=x a o e;obtain⟨o2,e2,d2⟩:=y a o1 e1;exact⟨o2,e2,d2.trans d1⟩
theorem se{h:QV}{a:QO}{o:Obj}(e:h.get? a=some o):h.objs[a]?=some o:=by
 unfold Heap.get? at e;split at e
 ·cases e
 ·exact e
theorem DS.dict{h h':QV}(x:DS h h'){a:QO}{o o':Obj}(e:h.get? a=some o)(e':h'.get? a=some o'):o'.dict=o.dict:=by
 obtain⟨o1,e1,d1⟩:=x a o (se e);rw[se e']at e1;cases e1;exact d1
theorem DS.push(h:QV)(o:Obj):DS h (h.push o):=λa u e=>⟨u,by
 show(h.objs.push o)[a]?=_
 have:=(Array.getElem?_eq_some_iff.mp e).1
 rw[Array.getElem?_push,if_neg ‹0›];exact e,rfl⟩
theorem DS.upd(h:QV)(b:QO){f:Obj->Obj}(hf:∀o,(f o).dict=o.dict):DS h (h.update b f):=λa u e=>by
 show∃o',(h.objs.modify b f)[a]?=some o'/\_;rw[Array.getElem?_modify,e];split
 ·exact⟨_,rfl,hf u⟩
 ·exact⟨_,rfl,rfl⟩
theorem DP.wp{α:Type}{M:Rb}{Γ:PySem.Ctx}{Q:α->Pos->QR->Prop}{E:QM->Pos->QR->Prop}{t:Sem α}(d:DP t){p:Pos}{s:QR}(h:Sem.wp M Γ t Q E p s):Sem.wp M Γ t (λa p' s'=>Q a p' s'/\DS s.heap s'.heap) (λa p' s'=>E a p' s'/\DS s.heap s'.heap) p s:=by
 have go:∀(h0:QV)(p:Pos)(s:QR),DS h0 s.heap->Sem.wp M Γ t Q E p s->Sem.wp M Γ t (λa p' s'=>Q a p' s'/\DS h0 s'.heap) (λa p' s'=>E a p' s'/\DS h0 s'.heap) p s:=by
  intro h0;clear h
  induction t with
  |pure a=>exact λp s z h=>⟨h,z⟩
  |raise a=>exact λp s z h=>⟨h,z⟩
  |unsupported _=>exact λp s z h=>h
  |finish _=>exact λp s z h=>h
  |rule _ k ih=>exact λp s z h=>ih () d p s z h
  |«at» q k ih=>exact λp s z h=>ih () d q s z h
  |load a _ k ih=>exact λp s z h=>let ⟨o,ho,h⟩:=h;⟨o,ho,ih o (d o) p s z h⟩
  |update a _ f k ih=>exact λp s z h=>⟨h.1,ih () d.2 p _ (z.trans (DS.upd _ a d.1)) h.2⟩
  |loadIfAlive a k ih=>exact λp s z h=>ih _ (d _) p s z h
  |point _ k ih=>exact λp s z h=>ih () d p s z h
  |alloc o k ih=>exact λp s z h=>ih _ (d _) p _ (z.trans (DS.push _ o)) h
  |fresh k ih=>exact λp s z h=>ih _ (d _) p _ z h
  |ask k ih=>exact λp s z h=>ih _ (d _) p _ z h
  |stack k ih=>exact λp s z h=>ih _ (d _) p _ z h
  |_=>exact d.elim
 exact go s.heap p s (DS.refl _) h
theorem DP.any{α:Type}{M:Rb}{A:QZ}{Q:α->QR->Prop}{E:QM->QR->Prop}{t:Sem α}{s:QR}(d:DP t)(h:Rc M A t Q E s):Rc M A t (λa s'=>Q a s'/\DS s.heap s'.heap) E s:=λΓ p hi=>Sem.wp_mono _ _ _ (λ_ _ _ x=>x) (λ_ _ _ x=>x.1) _ _ (d.wp (h Γ p hi))
theorem DP.go{M:Rb}{A:QZ}{Q:Unit->QR->Prop}{E:QM->QR->Prop}{t:Sem Unit}{s:QR}{P:QV->Prop}(d:DP t)(h:Rc M A t (λ_ s'=>∃h',s'={s with heap:=h'}/\P h') E s)(k:∀h',P h'->DS s.heap h'->Q () {s with heap:=h'}):Rc M A t Q E s:=Rg (d.any h) (λ_ s' z=>by
 obtain⟨⟨h',rfl,p⟩,ds⟩:=z;exact k h' p ds) λ_ _ z=>z
theorem j5(v:QM)(i:Nat):DP (field v i):=by
 unfold field fieldsOf;cases v with
 |ref a=>
  refine DP.bind (λxs=>?_) ?_
  ·split<;>trivial
  ·refine DP.bind (λo=>?_) (λo=>trivial);split<;>trivial
 |_=>exact DP.bind (λxs=>by split<;>trivial) trivial
theorem wg(a:QO):DP (load a):=λ_=>trivial
theorem EQ(f:Array QM->Array QM)(o:Obj):(Obj.mapFields f o).dict=o.dict:=by
 unfold Obj.mapFields;split<;>rfl
theorem uD(v:QM)(i:Nat)(x:QM):DP (setField v i x):=by
 unfold setField;cases v with
 |ref a=>
  unfold updateField;refine DP.bind (λo=>?_) (wg a);split
  ·split
   ·exact⟨EQ _,trivial⟩
   ·trivial
  ·trivial
 |_=>trivial
theorem kE(e:QM)(f:Option QO):DP (setFlight e f):=by
 unfold setFlight;refine DP.bind (λtb=>?_) (j5 _ _);split
 ·exact uD _ _ _
 ·trivial
theorem yF:DP stack:=λ_=>trivial
theorem Ak:DP underTheClaimsCaller:=by
 unfold underTheClaimsCaller;exact λ_=>trivial
theorem rY:∀l:List Env,DP (readyFrames l)
 |[]=>trivial
 |env::outer=>by
  unfold readyFrames;cases env.frame with
  |none=>trivial
  |some f=>
   refine DP.bind ?_ (wg f);intro o;split
   ·trivial
   ·refine DP.bind ?_ ?_
    ·intro b;refine DP.bind ?_ ?_
     ·intro b;refine DP.bind ?_ ?_
      ·intro _;exact rY outer
      ·exact⟨λ_=>rfl,trivial⟩
     ·unfold keptBack;split
      ·split
       ·trivial
       ·refine DP.bind ?_ Ak;intro _;trivial
      ·trivial
    ·unfold behindIsImport;split
     ·trivial
     ·split
      ·trivial
      ·refine DP.bind ?_ (j5 _ _);intro _;trivial
theorem DH:DP frameEnvs:=λ_=>trivial
theorem ub(env:Env):DP (frameOf env):=by
 unfold frameOf;refine DP.bind ?_ DH;intro l;refine DP.bind ?_ ?_
 ·intro f;split<;>trivial
 ·unfold frameObject;split
  ·trivial
  ·refine DP.bind ?_ (rY _);intro _;trivial
theorem Gp(ty:String)(vs:List QM):DP (newFields ty vs):=by
 unfold newFields newObj;dsimp only;split
 ·trivial
 ·exact λ_=>trivial
theorem Ao(f:QO)(b:Bool):DP (entryPlaceOf f b):=by
 unfold entryPlaceOf;refine DP.bind ?_ yF;intro l;split<;>trivial
theorem wc(e:QM)(env:Env):DP (noteFrame e env):=by
 unfold noteFrame;cases env.frame with
 |none=>trivial
 |some f=>
  have tl:∀head:QM,DP (do setField e 1 (<-EntryCells.newEntry head (<-frameOf env) .none (rawInt f) .none (<-entryPlaceOf f (head !=.none)))):=λhead=>by
   refine DP.bind ?_ (ub env);intro a;refine DP.bind ?_ (Ao _ _);intro b;refine DP.bind ?_ (Gp _ _);intro c;exact uD _ _ _
  refine DP.bind ?_ (j5 _ _);intro head;dsimp only;split
  ·refine DP.bind ?_ (j5 _ _);intro x;split
   ·trivial
   ·refine DP.bind ?_ (uD _ _ _);intro _;exact tl head
  ·exact tl head
theorem ur(env:Env)(e:QM):DP (leaving env e):=by
 unfold leaving;refine DP.bind ?_ (wc _ _);intro _;exact kE _ _
open PySem PySem.Spec L2
inductive D where
 |non|bl (b:Bool)|int (i:Int)|str (x:Str)|tup (xs:List D)|lst (xs:List D)
 |dct (ks vs:List D)|obj (c:Str) (fs:av) (vs:List D)|exc (c:Str) (fs:av) (vs:List D)
noncomputable abbrev fz:=List (List Key×D)
noncomputable abbrev aY:=Option D
noncomputable def bC:Key->D
 |.inl i=>.int i
 |.inr x=>.str x
noncomputable def clsAt(K:Pn)(c:Str)(C:QO):Prop:=P0 K QX c=some (some (.ref C))
noncomputable def mY(C a:QO)(dx:Option QO):(QO->Prop)->QV->Prop:=λ_ h=>∃o,h.get? a=some o/\o.cls=.ref C/\o.dict=dx/\P4 o=true
mutual
noncomputable def bJ(K:Pn)(H:Hp):D->V->Prop
 |.non,v=>v=.non
 |.bl b,v=>v=.bl b
 |.int i,v=>v=.int i
 |.str x,v=>v=.str x
 |.tup xs,v=>∃a vs,v=.ref a/\H a=some (.tup vs)/\aG K H xs vs
 |.lst xs,v=>∃a vs,v=.ref a/\ju K H a vs/\aG K H xs vs
 |.dct ks ds,v=>∃a vs,v=.ref a/\aG K H ds vs/\((∃kvs:List (Key×V),H a=some (.dK kvs)/\ks=kvs.map (λp=>bC p.1)/\vs=kvs.map (·.2)) \/
   (∃kvs:List (List Key×V),H a=some (.dT kvs)/\ks=kvs.map (λp=>.tup (p.1.map bC))/\vs=kvs.map (·.2)) \/
   ∃(kvs:List (List Key×V))(o:Obj),H a=some (.frz o (.dT kvs))/\ks=.non::kvs.map (λp=>.tup (p.1.map bC))/\vs=kvs.map (·.2))
 |.obj c fs ds,v=>∃a vs,v=.ref a/\aG K H ds vs/\fs.length=vs.length/\∃C dx,clsAt K c C/\H a=some (.ins C dx (fs.zip vs))
 |.exc c fs ds,v=>∃a vs,v=.ref a/\aG K H ds vs/\fs.length=vs.length/\∃C dx,clsAt K c C/\H a=some (.ext (mY C a dx))/\(fs=[]\/∃d,dx=some d/\H d=some (.xd (fs.zip vs)))
noncomputable def aG(K:Pn)(H:Hp):List D->aH->Prop
 |[],vs=>vs=[]
 |x::xs,vs=>∃v r,vs=v::r/\bJ K H x v/\aG K H xs r
end
theorem ww{K:Pn}{H H':Hp}{a:QO}{xs:aH}(e:aP H H')(h:lu K H a xs):lu K H' a xs:=by
 rcases h with(h|⟨o,h⟩)|h
 ·exact .inl (.inl (e _ _ h))
 ·exact .inl (.inr ⟨o,e _ _ h⟩)
 ·exact .inr h
theorem bL{K:Pn}{H H':Hp}{a:QO}{xs:aH}(e:aP H H')(h:H a=some (.tup xs)):lu K H' a xs:=lu.of (e _ _ h)
mutual
theorem bJ.mono{K:Pn}{H H':Hp}(e:aP H H'):∀{d:D}{v:V},bJ K H d v->bJ K H' d v
 |.non,_,h=>by unfold bJ at h ⊢;exact h
 |.bl _,_,h=>by unfold bJ at h ⊢;exact h
 |.int _,_,h=>by unfold bJ at h ⊢;exact h
 |.str _,_,h=>by unfold bJ at h ⊢;exact h
 |.tup xs,_,h=>by
  unfold bJ at h ⊢;obtain⟨a,vs,e1,h1,h2⟩:=h;exact⟨a,vs,e1,e _ _ h1,aG.mono e h2⟩
 |.lst xs,_,h=>by
  unfold bJ at h ⊢;obtain⟨a,vs,e1,h1,h2⟩:=h;exact⟨a,vs,e1,e.seq h1,aG.mono e h2⟩
 |.dct _ ds,_,h=>by
  unfold bJ at h ⊢;obtain⟨a,vs,e1,h1,h2⟩:=h;refine⟨a,vs,e1,aG.mono e h1,?_⟩;rcases h2 with⟨kvs,h2,h3⟩|⟨kvs,h2,h3⟩|⟨kvs,o,h2,h3⟩
  ·exact .inl ⟨kvs,e _ _ h2,h3⟩
  ·exact .inr (.inl ⟨kvs,e _ _ h2,h3⟩)
  ·exact .inr (.inr ⟨kvs,o,e _ _ h2,h3⟩)
 |.obj _ _ ds,_,h=>by
  unfold bJ at h ⊢;obtain⟨a,vs,e1,h1,h2,C,dx,h3,h4⟩:=h;exact⟨a,vs,e1,aG.mono e h1,h2,C,dx,h3,e _ _ h4⟩
 |.exc _ _ ds,_,h=>by
  unfold bJ at h ⊢;obtain⟨a,vs,e1,h1,h2,C,dx,h3,h4,h5⟩:=h;exact⟨a,vs,e1,aG.mono e h1,h2,C,dx,h3,e _ _ h4,h5.imp id λ⟨d,q1,q2⟩=>⟨d,q1,e _ _ q2⟩⟩
theorem aG.mono{K:Pn}{H H':Hp}(e:aP H H'):∀{ds:List D}{vs:aH},aG K H ds vs->aG K H' ds vs
 |[],_,h=>by unfold aG at h ⊢;exact h
 |x::xs,_,h=>by
  unfold aG at h ⊢;obtain⟨v,r,e1,h1,h2⟩:=h;exact⟨v,r,e1,bJ.mono e h1,aG.mono e h2⟩
end
section
variable{K:Pn}{H:Hp}
theorem gC{v:V}:bJ K H .non v↔v=.non:=by unfold bJ;rfl
theorem gF{b:Bool}{v:V}:bJ K H (.bl b) v↔v=.bl b:=by unfold bJ;rfl
theorem eQ{i:Int}{v:V}:bJ K H (.int i) v↔v=.int i:=by unfold bJ;rfl
theorem dW{x:Str}{v:V}:bJ K H (.str x) v↔v=.str x:=by unfold bJ;rfl
theorem bQ{xs:List D}{v:V}:bJ K H (.tup xs) v↔∃a vs,v=.ref a/\H a=some (.tup vs)/\aG K H xs vs:=by unfold bJ;rfl
theorem bP{xs:List D}{v:V}:bJ K H (.lst xs) v↔∃a vs,v=.ref a/\ju K H a vs/\aG K H xs vs:=by unfold bJ;rfl
theorem IJ{ks ds : List D}{v : V}: bJ K H (.dct ks ds) v ↔ ∃ a vs, v = .ref a /\ aG K H ds vs /\ ((∃ kvs : List (Key × V), H a = some (.dK kvs) /\ ks = kvs.map (fun p => bC p.1) /\ vs = kvs.map (·.2)) \/
      (∃kvs:List (List Key×V),H a=some (.dT kvs)/\ks=kvs.map (λp=>.tup (p.1.map bC))/\vs=kvs.map (·.2)) \/
      ∃(kvs:List (List Key×V))(o:Obj),H a=some (.frz o (.dT kvs))/\ks=.non::kvs.map (λp=>.tup (p.1.map bC))/\vs=kvs.map (·.2)):=by unfold bJ;rfl
theorem Jg{c:Str}{fs:av}{ds:List D}{v:V}:bJ K H (.obj c fs ds) v↔∃a vs,v=.ref a/\aG K H ds vs/\fs.length=vs.length/\∃C dx,clsAt K c C/\H a=some (.ins C dx (fs.zip vs)):=by unfold bJ;rfl
theorem IY{c:Str}{fs:av}{ds:List D}{v:V}:bJ K H (.exc c fs ds) v↔∃a vs,v=.ref a/\aG K H ds vs/\fs.length=vs.length/\∃C dx,clsAt K c C/\H a=some (.ext (mY C a dx))/\(fs=[]\/∃d,dx=some d/\H d=some (.xd (fs.zip vs))):=by unfold bJ;rfl
theorem bB{vs:aH}:aG K H [] vs↔vs=[]:=by unfold aG;rfl
theorem aI{x:D}{xs:List D}{vs:aH}:aG K H (x::xs) vs↔∃v r,vs=v::r/\bJ K H x v/\aG K H xs r:=by conv=>lhs;unfold aG
theorem aG.length:∀{ds:List D}{vs:aH},aG K H ds vs->ds.length=vs.length
 |[],_,h=>by rw[bB]at h;rw[h];rfl
 |_::xs,_,h=>by
  rw[aI]at h;obtain⟨v,r,e,_,h⟩:=h;rw[e,Nw,Nw,aG.length h]
theorem aG.get:∀{ds:List D}{vs:aH}{i:Nat}{d:D},aG K H ds vs->ds[i]?=some d->∃v,vs[i]?=some v/\bJ K H d v
 |[],_,_,_,_,e=>by simp at e
 |x::xs,_,0,d,h,e=>by
  rw[aI]at h;obtain⟨v,r,rfl,h1,_⟩:=h;simp at e;subst e;exact⟨v,rfl,h1⟩
 |x::xs,_,i+1,d,h,e=>by
  rw[aI]at h;obtain⟨v,r,rfl,_,h2⟩:=h;obtain⟨w,e1,e2⟩:=aG.get (i:=i) h2 (by simpa using e);exact⟨w,by simpa using e1,e2⟩
theorem aG.append:∀{ds es:List D}{vs ws:aH},aG K H ds vs->aG K H es ws->aG K H (ds++es) (vs++ws)
 |[],_,_,_,h,h'=>by rw[bB]at h;subst h;exact h'
 |x::xs,_,_,_,h,h'=>by
  rw[aI]at h;obtain⟨v,r,rfl,h1,h2⟩:=h;rw[N6,aI];exact⟨v,_,rfl,h1,aG.append h2 h'⟩
theorem aG.take:∀{ds:List D}{vs:aH}(n:Nat),aG K H ds vs->aG K H (ds.take n) (vs.take n)
 |_,_,0,_=>by rw[N7,N7,bB]
 |[],_,_+1,h=>by rw[bB]at h;subst h;rw[List.take_nil,List.take_nil,bB]
 |x::xs,_,n+1,h=>by
  rw[aI]at h;obtain⟨v,r,rfl,h1,h2⟩:=h;rw[N8,N8,aI];exact⟨v,_,rfl,h1,aG.take n h2⟩
theorem aG.drop:∀{ds:List D}{vs:aH}(n:Nat),aG K H ds vs->aG K H (ds.drop n) (vs.drop n)
 |_,_,0,h=>by rw[N9,N9];exact h
 |[],_,_+1,h=>by rw[bB]at h;subst h;rw[List.drop_nil,List.drop_nil,bB]
 |x::xs,_,n+1,h=>by
  rw[aI]at h;obtain⟨v,r,rfl,h1,h2⟩:=h;rw[Oa,Oa];exact aG.drop n h2
theorem aG.snoc{ds:List D}{vs:aH}{d:D}{v:V}(h:aG K H ds vs)(h':bJ K H d v):aG K H (ds++[d]) (vs++[v]):=
 h.append (aI.mpr ⟨v,[],rfl,h',bB.mpr rfl⟩)
theorem aG.one{d:D}{vs:aH}(h:aG K H [d] vs):∃v,vs=[v]/\bJ K H d v:=by
 rw[aI]at h;obtain⟨v,r,rfl,h1,h2⟩:=h;rw[bB]at h2;subst h2;exact⟨v,rfl,h1⟩
theorem aG.two{d e:D}{vs:aH}(h:aG K H [d,e] vs):∃v w,vs=[v,w]/\bJ K H d v/\bJ K H e w:=by
 rw[aI]at h;obtain⟨v,r,rfl,h1,h2⟩:=h;obtain⟨w,rfl,h3⟩:=h2.one;exact⟨v,w,rfl,h1,h3⟩
theorem oW:∀ns:List Int,aG K H (ns.map D.int) (ns.map V.int)
 |[]=>bB.mpr rfl
 |n::ns=>aI.mpr ⟨_,_,rfl,eQ.mpr rfl,oW ns⟩
end
noncomputable def hid(H:Hp)(O:aD):Hp:=λb=>if b∈O then none else H b
theorem ax(H:Hp)(O:aD):aP (hid H O) H:=λb o h=>by
 unfold hid at h;split at h
 ·cases h
 ·exact h
theorem bn{H H':Hp}{O:aD}(e:aP H H'):aP (hid H O) (hid H' O):=λb o h=>by
 unfold hid at h ⊢;by_cases hb:b∈O
 ·rw[if_pos hb]at h;cases h
 ·rw[if_neg hb]at h ⊢;exact e b o h
theorem gx{H:Hp}{O O':aD}(s:∀a∈O,a∈O'):aP (hid H O') (hid H O):=λb o h=>by
 unfold hid at h ⊢;by_cases hb:b∈O'
 ·rw[if_pos hb]at h;cases h
 ·rw[if_neg hb]at h;rw[if_neg λz=>hb (s b z)];exact h
theorem CF(H:Hp):hid H []=H:=by funext b;unfold hid;simp
theorem lQ{H:Hp}{O:aD}{p:QO}{o:HO}(h:H p=none):aP (hid H O) (hid (upd H p o) O):=λb u q=>by
 unfold hid at q ⊢;by_cases hb:b∈O
 ·rw[if_pos hb]at q;cases q
 ·rw[if_neg hb]at q ⊢;rw[ak (aK q h)];exact q
theorem bV{H:Hp}{p:QO}(h:H p=none)(o:HO):aP H (upd H p o):=λb u q=>by rw[ak (aK q h)];exact q
theorem fT{H:Hp}{O:aD}{p:QO}(h:p∉O):hid H O p=H p:=by unfold hid;rw[if_neg h]
theorem iW{H:Hp}{O:aD}{p:QO}{o:HO}(h:p∈O):aP (hid H O) (hid (upd H p o) O):=λb u q=>by
 unfold hid at q ⊢;by_cases hb:b∈O
 ·rw[if_pos hb]at q;cases q
 ·rw[if_neg hb]at q ⊢;rw[ak (λz=>hb (by rw[z];exact h))];exact q
inductive S where
 |val (d:D)|own (d:D)|nest (d:D)
noncomputable abbrev ao:=List (Option S)
noncomputable def qb:HO->Prop
 |.lst _=>True
 |.dK _=>True
 |.dT _=>True
 |_=>False
class aw where
 tab:Hp->Prop
 same:∀{H H':Hp},tab H->aP H H'->tab H'
 own:∀{H:Hp}{p:QO}{o o':HO},tab H->H p=some o->qb o->tab (upd H p o')
variable[aw]
noncomputable def cY(H:Hp)(O:aD):Prop:=aw.tab H/\∀a∈O,∃o,H a=some o/\qb o
theorem cY.not{H:Hp}{O:aD}(h:cY H O){p:QO}(n:H p=none):p∉O:=λz=>by
 obtain⟨vs,e,_⟩:=h.2 p z;rw[n]at e;cases e
theorem cY.same{H H':Hp}{O:aD}(h:cY H O)(e:aP H H'):cY H' O:=⟨aw.same h.1 e,λa ha=>let ⟨vs,q,m⟩:=h.2 a ha;⟨vs,e _ _ q,m⟩⟩
theorem cY.upd{H:Hp}{O:aD}{p:QO}{o:HO}(h:cY H O)(hp:p∈O)(m:qb o):cY (L2.upd H p o) O:=⟨let ⟨_,q,r⟩:=h.2 p hp;aw.own h.1 q r,λa ha=>by
 by_cases z:a=p
 ·rw[z];exact⟨o,aq,m⟩
 ·obtain⟨u,q,r⟩:=h.2 a ha;exact⟨u,by rw[ak z];exact q,r⟩⟩
theorem cY.cons{H:Hp}{O:aD}{p:QO}{o:HO}(h:cY H O)(hp:H p=some o)(m:qb o):cY H (p::O):=⟨h.1,λa ha=>by
 rcases List.mem_cons.mp ha with z|z
 ·rw[z];exact⟨o,hp,m⟩
 ·exact h.2 a z⟩
noncomputable def iI(K:Pn)(H:Hp)(O:aD)(a:QO)(d:D):Prop:=∃o vs,H a=some o/\match d with
 |.lst xs=>o=.lst vs/\aG K (hid H O) xs vs
 |.dct ks ds=>aG K (hid H O) ds vs/\((∃kvs:List (Key×V),o=.dK kvs/\ks=kvs.map (λp=>bC p.1)/\vs=kvs.map (·.2)) \/
   ∃kvs:List (List Key×V),o=.dT kvs/\ks=kvs.map (λp=>.tup (p.1.map bC))/\vs=kvs.map (·.2))
 |_=>False
theorem iI.mono{K:Pn}{H H':Hp}{O O':aD}{a:QO}{d:D}(h:iI K H O a d)(e:H a=H' a)(s:aP (hid H O) (hid H' O')):iI K H' O' a d:=by
 obtain⟨o,vs,h1,h2⟩:=h;refine⟨o,vs,by rw[<-e];exact h1,?_⟩;cases d with
 |lst xs=>exact⟨h2.1,h2.2.mono s⟩
 |dct ks ds=>exact⟨h2.1.mono s,h2.2⟩
 |_=>exact h2
theorem iI.some{K:Pn}{H:Hp}{O:aD}{a:QO}{d:D}(h:iI K H O a d):∃o,H a=some o:=let ⟨o,_,e,_⟩:=h;⟨o,e⟩
theorem iI.den{K:Pn}{H:Hp}{O O':aD}{a:QO}{d:D}(h:iI K H O a d)(s:aP (hid H O) (hid H O'))(ha:a∉O'):bJ K (hid H O') d (.ref a):=by
 obtain⟨o,vs,h1,h2⟩:=h;have h1':hid H O' a=Option.some o:=by rw[fT ha];exact h1
 cases d with
 |lst xs=>
  obtain⟨e,g⟩:=h2;subst e;exact bP.mpr ⟨a,vs,rfl,ju.of h1',g.mono s⟩
 |dct ks ds=>
  obtain⟨g,q⟩:=h2;refine IJ.mpr ⟨a,vs,rfl,g.mono s,?_⟩;rcases q with⟨kvs,e,q⟩|⟨kvs,e,q⟩
  ·subst e;exact .inl ⟨kvs,h1',q⟩
  ·subst e;exact .inr (.inl ⟨kvs,h1',q⟩)
 |_=>exact h2.elim
structure cM(K:Pn)(O:aD)(H:Hp)(ρ:ao)(σ:St):Prop where
 val:∀(i:Nat) d,ρ[i]?=some (some (.val d))->∃v,σ[i]?=some (some v)/\bJ K (hid H O) d v
 own:∀(i:Nat) d,ρ[i]?=some (some (.own d))->∃a,σ[i]?=some (some (.ref a))/\a∈O/\iI K H O a d
 one:∀(i j:Nat) xs ys a,ρ[i]?=some (some (.own xs))->ρ[j]?=some (some (.own ys))->σ[i]?=some (some (.ref a))->σ[j]?=some (some (.ref a))->i=j
 all:cY H O
theorem vV{H H':Hp}(e:aP H H'){a:QO}{o:HO}(h:H a=some o):H a=H' a:=by rw[h,e _ _ h]
theorem cM.same{K:Pn}{O:aD}{H H':Hp}{ρ:ao}{σ:St}(h:cM K O H ρ σ)(e:aP H H'):cM K O H' ρ σ:=
  ⟨fun i d q=>let ⟨v,a,b⟩:=h.val i d q; ⟨v,a,b.mono (bn e)⟩,
   λi xs q=>let ⟨a,q1,q2,q3⟩:=h.own i xs q;⟨a,q1,q2,q3.mono (let ⟨_,z⟩:=q3.some;vV e z) (bn e)⟩,h.one,h.all.same e⟩
structure Ex where
 c:Str
 fs:av
 vs:List D
noncomputable abbrev R(α:Type):=Except (Option Ex) α
noncomputable abbrev aQ:=ao->R (List D)
noncomputable abbrev bx:=ao->R Bool
noncomputable abbrev bE:=List D->R D
noncomputable abbrev un{α:Type}:R α:=.error none
noncomputable def rO{α:Type}:Option α->R α
 |some a=>.ok a
 |none=>.error none
noncomputable def G6(K:Pn)(Hd:Hp)(x:Ex)(C:QO)(dx:Option QO):Prop:=clsAt K x.c C/\∃ws,aG K Hd x.vs ws/\x.fs.length=ws.length/\(x.fs=[]\/∃d,dx=some d/\Hd d=some (.xd (x.fs.zip ws)))
theorem G6.mono{K:Pn}{H H':Hp}{x:Ex}{C:QO}{dx:Option QO}(h:G6 K H x C dx)(e:aP H H'):G6 K H' x C dx:=by
 obtain⟨h1,ws,h2,h3,h4⟩:=h;exact⟨h1,ws,h2.mono e,h3,h4.imp id λ⟨d,q1,q2⟩=>⟨d,q1,e _ _ q2⟩⟩
end TG
namespace TG
open PySem PySem.Spec L2
variable[aw]
open PyProof.Rows (AllBare)
theorem uV{P:QT}{w:QS}{H:Hp}{h:QV}{a:QO}{o:HO}(x:bM P w H h a o):∃u,h.get? a=some u:=by
 cases o with
 |lst xs=>obtain⟨_,_,_,_,e⟩:=x;exact⟨_,e⟩
 |tup xs=>obtain⟨_,_,_,o,e,_⟩:=x;exact⟨_,e⟩
 |dK kvs=>obtain⟨_,_,_,_,o,_,_,e,_⟩:=x;exact⟨_,e⟩
 |dT kvs=>obtain⟨_,_,_,_,o,_,_,e,_⟩:=x;exact⟨_,e⟩
 |set S n=>obtain⟨o,_,_,_,e,_⟩:=x;exact⟨_,e⟩
 |ins C dx fs=>obtain⟨_,_,_,e,_⟩:=x;exact⟨_,e⟩
 |own y=>exact x
 |xd fs=>obtain⟨_,⟨_,_,_,e,_⟩,_⟩:=x;exact⟨_,e⟩
 |rng lo hi=>obtain⟨_,_,_,e⟩:=x;exact⟨_,e⟩
 |frz ob u=>obtain⟨e,_⟩:=x;exact⟨_,e⟩
 |tbl ps=>exact⟨_,(show h.get? a=some _ from x)⟩
 |met f y=>exact⟨_,(show h.get? a=some _ from x)⟩
 |ext φ=>obtain⟨_,e,_⟩:=x;exact e
noncomputable def gM(X:Cx)(H:Hp)(b:QO):Prop:=((∃o,X.s₀.heap.get? b=some o)/\b∉X.ex)\/H b≠none\/(∃o,(b,o)∈X.pn)\/∃x,X.env.cells.lookup x=some b
noncomputable def Mh(B:QV)(e:QO)(cls a0:QM)(h:QV):Prop:=h.TracedW B e cls a0\/∃oe vs,h.get? e=some oe/\oe.cls=cls/\oe.data=.fields vs/\vs[1]?=some .none/\vs[0]?=some a0
noncomputable def tT(X:Cx)(H:Hp)(s:QR)(e C:QO)(dx:Option QO):Prop:=(∀oe,s.heap.get? e=some oe->oe.dict=dx)/\∃B a0,B.StaysIn s.heap/\B.get? e=none/\s.heap.FunFrames B X.stack/\Mh B e (.ref C) a0 s.heap/\∀b o,s.heap.get? b=some o->gM X H b->b∉frs X.stack->B.get? b=some o
noncomputable def MI(X:Cx)(H:Hp)(O:aD)(s:QR)(u:QM)(x:Ex):Prop:=∃e C dx,u=.ref e/\G6 X.K (hid H O) x C dx/\tT X H s e C dx
noncomputable def jM(P:QT)(w:QS):t9:=λouter H s E u s'=>∃e C dx H' B a0,u=.ref e/\(∀oe,s'.heap.get? e=some oe->oe.dict=dx)/\s'.os=s.os/\AllBare s'.gens/\Un (frs outer) [] H H' s.heap s'.heap/\lH P w H' s'.heap/\Qs B outer e (.ref C) a0 s'.heap/\
 (∀b o,s'.heap.get? b=some o->((∃o',s.heap.get? b=some o')\/H' b≠none)->b∉frs outer->B.get? b=some o)/\E (.ref C) dx H'
noncomputable def Ld(K:Pn)(H:Hp)(O:aD)(x:Ex)(E:XK):Prop:=∀C dx H',aP H H'->G6 K (hid H' O) x C dx->E (.ref C) dx H'
noncomputable def EJ(X:Cx)(σ:St)(O:aD)(H:Hp)(x:Ex):Prop:=∀pins s u H',Inv X pins σ H' s->aP H H'->MI X H' O s u x->X.xe u s
theorem EJ.mono{X:Cx}{σ:St}{O:aD}{H H':Hp}{x:Ex}(h:EJ X σ O H x)(s:aP H H'):EJ X σ O H' x:=λpins st u H2 I s2 f=>h pins st u H2 I (s.trans s2) f
noncomputable def vp(X:Cx)(O:aD)(H:Hp)(x:Ex):XK:=λu dx H'=>∃C,u=.ref C/\aP H H'/\G6 X.K (hid H' O) x C dx
noncomputable def iK(CX:t9)(X:Cx)(σ:St)(E:XK):Prop:=∀(pins:aM)(H:Hp)(s:QR)(e:QM)(s':QR),Inv X pins σ H s->CX X.stack H s E e s'->X.xe e s'
theorem vm{X:Cx}{σ:St}{O:aD}{H:Hp}{x:Ex}(h:EJ X σ O H x):iK (jM X.prog X.w) X σ (vp X O H x):=by
 rintro pins H1 s u s' I ⟨e,C,dx,H',B,a0,rfl,hdx,os,bare,un,hok,⟨f1,f2,f3,f4⟩,kp,C',eC,sm,hd⟩;cases eC;have I':Inv X pins σ H' s':=I.call' os un hok bare (ch:=[]) λb z=>absurd z (by simp);refine h pins s' _ H' I' sm ⟨e,C,dx,rfl,hd,hdx,B,a0,f1,f2,f3,.inl f4,λb o eb hb nf=>kp b o eb ?_ nf⟩;rcases hb with⟨⟨o',hb⟩,nx⟩|hb|⟨o',hb⟩|⟨y,hb⟩
 ·exact .inl (I.base.there b o' hb nx)
 ·exact .inr hb
 ·exact .inl ⟨_,(I.pin _ (Nk _ hb)).1⟩
 ·obtain⟨v,o,q,_⟩:=I.cell y b hb;exact .inl ⟨o,q⟩
theorem vz{X:Cx}{σ:St}:iK (jM X.prog X.w) X σ E0:=λ_ _ _ _ _ _ h=>by
 obtain⟨_,_,_,_,_,_,_,_,_,_,_,_,_,_,z⟩:=h;exact z.elim
theorem sy{X:Cx}{O:aD}{H:Hp}{x:Ex}:Ld X.K H O x (vp X O H x):=λC dx H' s e=>⟨C,rfl,s,e⟩
section
variable{X:Cx}{pins:aM}{σ:St}{H:Hp}{s:QR}{h':QV}
theorem vS(I:Inv X pins σ H s)(k:∀b o,s.heap.get? b=some o->gM X H b->b∉frs X.stack->h'.get? b=some o):lH X.prog X.w H h':=λa ob ea=>
 (I.hok a ob ea).stay (λb u hb q=>by
  have hn:H b≠none:=by
   rcases hb with e|e
   ·rw[e,ea];intro z;cases z
   ·rw[e];intro z;cases z
  exact k b u q (.inr (.inl hn)) λhf=>hn (I.stkFree b hf)) (λ_ q=>q) λ_ _ q=>q
theorem pF(I:Inv X pins σ H s)(us:s.heap.UpToSlots h'){b:QO}{o:Obj}(hb:b∈frs X.stack)(e:s.heap.get? b=some o):∃sl,h'.get? b=some {o with slots:=sl}:=by
 obtain⟨_,o',e',nf⟩:=I.stack.mem hb;rw[e]at e';cases e';exact us b o e nf
theorem yZ(I:Inv X pins σ H s)(hx:X.ex=[])(hst:X.stack=X.env::X.outer)(hf:X.env.frame=some X.env.locals)(us:s.heap.UpToSlots h')(k:∀b o,s.heap.get? b=some o->gM X H b->b∉frs X.stack->h'.get? b=some o):
  Un (frs X.outer) [] X.H₀ H X.s₀.heap h':=by
 have U:=I.base;rw[hx]at U;have fr:frs X.stack=X.env.locals::frs X.outer:=by rw[hst];show List.filterMap _ (_::_)=_;rw[Nh,hf];rfl
 have nl:∀b o,X.s₀.heap.get? b=some o->b≠X.env.locals:=λb o q z=>by
  have h1:=Qm q;have h2:=I.ok.above;rw[z]at h1;exact Nb _ (M9 h1 h2)
 have nfr:∀b o,X.s₀.heap.get? b=some o->b∉frs X.outer->b∉frs X.stack:=λb o q nb z=>by
  rw[fr]at z;rcases List.mem_cons.mp z with z|z
  ·exact nl b o q z
  ·exact nb z
 refine⟨λb o q n nb _=>k b o (U.keep b o q n nb (by simp)) (.inl ⟨⟨o,q⟩,by rw[hx];simp⟩) (nfr b o q nb),λb o q n hb _=>?_,λb o q n _=>U.free b o q n (by simp),λb o q _=>?_,U.tups,U.frzs,U.tbls⟩
 ·obtain⟨sl,e⟩:=U.slot b o q n hb (by simp);obtain⟨sl',e'⟩:=pF I us (by rw[fr];exact Nj _ hb) e;exact⟨sl',e'⟩
 ·obtain⟨o1,e1⟩:=U.there b o q (by simp);by_cases hb:b∈frs X.stack
  ·obtain⟨sl,e⟩:=pF I us hb e1;exact⟨_,e⟩
  ·exact⟨o1,k b o1 e1 (.inl ⟨⟨o,q⟩,by rw[hx];simp⟩) hb⟩
end
theorem Gq{P:QT}{w:QS}{K:Pn}{mg:bF}{base:QV}{N:av}{qual:Str}{scope:Ra}{f:QO}{cd:QM}{A:QZ}{outer:List Env}{s:QR}{H:Hp}{E:XK}{σ:St}{O O':aD}{H':Hp}{x:Ex}
  (hx:Ld K H O x E) (sm:aP H H') (hs:∀a∈O,a∈O'):EJ (ir (jM P w) P w K mg base N qual scope f cd A outer s H E) σ O' H' x:=by
 rintro pins s1 u H1 I s2 ⟨e,C,dx,rfl,hd,hdx,B,a0,b1,b2,b3,b4,b5⟩;have fin:∀h',Qs B outer e (.ref C) a0 h'->s1.heap.UpToSlots h'->DS s1.heap h'->jM P w outer H s E (.ref e) {s1 with heap:=h'}:=λh' fl us ds=>by
  have k:∀b o,s1.heap.get? b=some o->gM (ir (jM P w) P w K mg base N qual scope f cd A outer s H E) H1 b->b∉frs (ir (jM P w) P w K mg base N qual scope f cd A outer s H E).stack->h'.get? b=some o:=λb o q kb nf=>fl.1 b o (b5 b o q kb nf);have un:=yZ I rfl rfl rfl us k;have hok:=vS I k;refine⟨e,C,dx,H1,B,a0,rfl,λoe' q=>?_,I.os,I.bare,un,hok,fl,λb o q hb nf=>?_,hx C dx H1 (sm.trans s2) (hd.mono (gx hs))⟩
  ·obtain⟨oe,q1⟩:∃oe,s1.heap.get? e=some oe:=by
    rcases b4 with⟨oe,_,_,_,_,h1,_⟩|⟨oe,_,h1,_⟩
    ·exact⟨oe,h1⟩
    ·exact⟨oe,h1⟩
   exact(ds.dict q1 q).trans (hdx oe q1)
  have nf2:b∉frs (ir (jM P w) P w K mg base N qual scope f cd A outer s H E).stack:=λz=>by
   rcases List.mem_cons.mp (show b∈s.heap.objs.size::frs outer from z)with z|z
   ·rcases hb with hb|hb
    ·obtain⟨o',hb⟩:=hb
     have:=Qm hb
     rw[z]at this;exact Nb _ this
    ·rw[z]at hb;exact hb I.free
   ·exact nf z
  have kb:gM (ir (jM P w) P w K mg base N qual scope f cd A outer s H E) H1 b:=hb.elim (λz=>.inl ⟨z,λy=>nomatch y⟩) λz=>.inr (.inl z);obtain⟨o1,e1⟩:∃o1,s1.heap.get? b=some o1:=by
   rcases hb with⟨o',hb⟩|hb
   ·exact I.base.there b o' hb (λz=>nomatch z)
   ·cases q0:H1 b with
    |none=>exact absurd q0 hb
    |some ob=>exact uV (I.hok b ob q0)
  have:=k b o1 e1 kb nf2
  rw[q]at this;cases this;exact b5 b _ e1 kb nf2
 show Rc _ _ (leaving (Qz qual scope s.heap.objs.size f cd) (.ref e)) _ _ s1;refine DP.go (ur _ _) (P:=λh'=>Qs B outer e (.ref C) a0 h'/\s1.heap.UpToSlots h') ?_ λh' z ds=>fin h' z.1 z.2 ds;rcases b4 with b4|⟨oe,vs,c1,c2,c3,c4,c5⟩
 ·exact wpAny_leaves_onW I.ok.frames rfl ⟨b1,b2,b3,b4⟩ λh' fl us=>⟨h',rfl,fl,us⟩
 ·refine wpAny_leaving_firstW I.ok.frames b3 rfl c1 b1 b2 c3 c4 c5 λh' hL=>?_;obtain⟨k1,⟨_,_,k2⟩,k3,k4⟩:=hL;exact⟨h',rfl,⟨k1,b2,k2,c2 ▸ k3⟩,k4⟩
end TG
namespace TG
open PySem PySem.Spec L2
variable[aw]
noncomputable def dJ(X:Cx)(σ:St)(O:aD)(H:Hp){α:Type}(r:R α)(Q:α->Prop):Prop:=match r with
 |.ok a=>Q a
 |.error (some x)=>EJ X σ O H x
 |.error none=>False
section
variable{X:Cx}{σ:St}{O:aD}{H H':Hp}{α β:Type}
theorem dJ.bind{r:R α}{G:α->R β}{Q:β->Prop}(h:dJ X σ O H (r.bind G) Q):dJ X σ O H r λa=>dJ X σ O H (G a) Q:=by
 match r,h with
 |.ok a,h=>exact h
 |.error (some x),h=>exact h
 |.error none,h=>exact h
theorem dJ.imp{r:R α}{Q Q':α->Prop}(h:dJ X σ O H r Q)(f:∀a,Q a->Q' a):dJ X σ O H r Q':=by
 match r,h with
 |.ok a,h=>exact f a h
 |.error (some x),h=>exact h
 |.error none,h=>exact h
theorem dJ.mono{r:R α}{Q:α->Prop}(h:dJ X σ O H r Q)(s:aP H H'):dJ X σ O H' r Q:=by
 match r,h with
 |.ok a,h=>exact h
 |.error (some x),h=>exact EJ.mono h s
 |.error none,h=>exact h
theorem dJ.rO{o:Option α}{Q:α->Prop}(h:dJ X σ O H (rO o) Q):∃a,o=some a/\Q a:=by
 match o,h with
 |some a,h=>exact⟨a,rfl,h⟩
 |none,h=>exact h.elim
end
noncomputable abbrev FX:=ao->R D
noncomputable def tF(X:Cx)(F:FX):TE:=λσ H Q=>∃O ρ,cM X.K O H ρ σ/\dJ X σ O H (F ρ) λd=>∀v H',aP H H'->bJ X.K (hid H' O) d v->Q v H'
noncomputable def Jn(X:Cx)(F:bx):TT:=λσ H Q=>∃O ρ,cM X.K O H ρ σ/\dJ X σ O H (F ρ) λb=>∀H',aP H H'->Q b H'
noncomputable def JP(X:Cx)(F:aQ):TA:=λσ H Q=>∃O ρ,cM X.K O H ρ σ/\dJ X σ O H (F ρ) λds=>∀vs H',aP H H'->aG X.K (hid H' O) ds vs->Q vs H'
noncomputable def FE(X:Cx)(e:QP)(F:FX):Prop:=PE X e (tF X F)
noncomputable def FT(X:Cx)(e:QP)(F:bx):Prop:=PT X e (Jn X F)
noncomputable def FW(X:Cx)(e:QP)(F:bx):Prop:=PW X e (Jn X F)
noncomputable def FA(X:Cx)(es:aR)(F:aQ):Prop:=PA X es (JP X F)
theorem PE.weak{X:Cx}{e:QP}{t t':TE}(h:PE X e t)(w:∀σ H Q,t' σ H Q->t σ H Q):PE X e t':=λpins s σ H Q I q=>h pins s σ H Q I (w σ H Q q)
theorem PT.weak{X:Cx}{e:QP}{t t':TT}(h:PT X e t)(w:∀σ H Q,t' σ H Q->t σ H Q):PT X e t':=λpins s σ H Q I q=>h pins s σ H Q I (w σ H Q q)
theorem PW.weak{X:Cx}{e:QP}{t t':TT}(h:PW X e t)(w:∀σ H Q,t' σ H Q->t σ H Q):PW X e t':=λwhole pins s σ H Q I q=>h whole pins s σ H Q I (w σ H Q q)
theorem PA.weak{X:Cx}{es:aR}{t t':TA}(h:PA X es t)(w:∀σ H Q,t' σ H Q->t σ H Q):PA X es t':=λpos pins s σ H Q I q=>h pos pins s σ H Q I (w σ H Q q)
theorem PS.weak{X:Cx}{st:QQ}{t t':TS}(h:PS X st t)(w:∀D σ H,t' D σ H->t D σ H):PS X st t':=λpins s σ H Q I q=>h pins s σ H Q I (w Q σ H q)
theorem pR.weak{X:Cx}{st:cF}{t t':TS}(h:pR X st t)(w:∀D σ H,t' D σ H->t D σ H):pR X st t':=λpins s σ H Q I q=>h pins s σ H Q I (w Q σ H q)
noncomputable def oq(ρ:ao)(i:Nat):R D:=match ρ[i]? with
 |some (some (.val d))=>.ok d
 |_=>un
theorem CW{ρ:ao}{i:Nat}{d:D}(h:oq ρ i=.ok d):ρ[i]?=some (some (.val d)):=by
 unfold oq at h;split at h
 ·rename_i e;cases h;exact e
 ·cases h
noncomputable def af(i:Nat):FX:=λρ=>oq ρ i
noncomputable def fC(d:D):FX:=λ_=>.ok d
section
variable{X:Cx}
theorem xB{σ:St}{O:aD}{H:Hp}{ρ:ao}{i:Nat}{Q:D->Prop}(h:dJ X σ O H (oq ρ i) Q):∃d,ρ[i]?=some (some (.val d))/\Q d:=by
 cases e:oq ρ i with
 |ok d=>rw[e]at h;exact⟨d,CW e,h⟩
 |error z=>
  rw[e]at h;cases z with
  |none=>exact h.elim
  |some x=>
   exfalso;unfold oq at e;split at e
   ·cases e
   ·have:=Except.error.inj e;cases this
theorem iN{e:QP}{d:D}{v:V}(h:PE X e (tC v))(hd:∀K H,bJ K H d v):FE X e (fC d):=
 PE.weak h λσ H Q ⟨O,ρ,E,q⟩=>q v H (aP.refl H) (hd _ _)
noncomputable def noStar:QP->Bool
 |.Starred _ _=>false
 |_=>true
theorem bu{e:QP}{es:aR}{env:Env}(h:noStar e=true):Rf (e::es) env=(false,eval e env)::Rf es env:=by
 cases e<;>first|rfl|cases h
theorem cv{pos:Pos}{env:Env}:∀{es:aR},es.all noStar=true->(backTo pos (Rf es env)).any (·.1)=false
 |[],_=>rfl
 |e::es,h=>by
  rw[Oc,NU]at h;rw[bu h.1];exact cv h.2
noncomputable def ai:aQ:=λ_=>.ok []
noncomputable def aa(f:FX)(g:aQ):aQ:=λρ=>(f ρ).bind λx=>(g ρ).bind λxs=>.ok (x::xs)
theorem JM:FA X [] ai:=PA.weak jw λσ H Q ⟨O,ρ,E,q⟩=>q [] H (aP.refl H) (bB.mpr rfl)
theorem bind_some{α β:Type}{o:Option α}{f:α->Option β}{b:β}(h:o.bind f=some b):∃a,o=some a/\f a=some b:=by
 cases o with
 |none=>cases h
 |some a=>exact⟨a,rfl,h⟩
theorem mI{ε α β:Type}{o:Except ε α}{f:α->Except ε β}{b:β}(h:o.bind f=.ok b):∃a,o=.ok a/\f a=.ok b:=by
 cases o with
 |error _=>cases h
 |ok a=>exact⟨a,rfl,h⟩
theorem IM{e:QP}{es:aR}{f:FX}{g:aQ}(he:FE X e f)(hs:FA X es g)(hns:noStar e=true:=by rfl):FA X (e::es) (aa f g):=
 PA.weak (dm he hs (bu hns)) λσ H Q ⟨O,ρ,E,h⟩=>
  ⟨O,ρ,E,(dJ.bind h).imp λx h v H1 s1 d1=>⟨O,ρ,E.same s1,((dJ.bind h).mono s1).imp λxs q vs H2 s2 d2=>q (v::vs) H2 (s1.trans s2) (aI.mpr ⟨v,vs,rfl,d1.mono (bn s2),d2⟩)⟩⟩
noncomputable def small(n:Nat):Bool:=decide (n<=100000)
theorem b8{n:Nat}(h:small n=true):n<=QW:=Nf (of_decide_eq_true h) (by decide)
theorem eA{n:Nat}(h:n<=100000):small n=true:=decide_eq_true h
noncomputable def nQ(xs:List D):aY:=if small xs.length then some (.tup xs)else none
noncomputable def nD(xs:List D):aY:=if small xs.length then some (.lst xs)else none
noncomputable def aN(g:aQ):FX:=λρ=>(g ρ).bind λxs=>rO (nQ xs)
noncomputable def jN(g:aQ):FX:=λρ=>(g ρ).bind λxs=>rO (nD xs)
theorem bb{α:Type}{c:Bool}{a b:α}(h:(if c then some a else none)=some b):c=true/\a=b:=by
 cases c with
 |true=>exact⟨rfl,Option.some.inj h⟩
 |false=>cases h
theorem dA{K:Pn}{H:Hp}{O:aD}{p:QO}{ds:List D}{vs:aH}(hO:cY H O)(hp:H p=none)(d:aG K (hid H O) ds vs):bJ K (hid (upd H p (.tup vs)) O) (.tup ds) (.ref p):=
 bQ.mpr ⟨p,vs,rfl,by rw[fT (hO.not hp),aq],d.mono (lQ hp)⟩
theorem iH{K:Pn}{H:Hp}{O:aD}{p:QO}{ds:List D}{vs:aH}(hO:cY H O)(hp:H p=none)(d:aG K (hid H O) ds vs):bJ K (hid (upd H p (.lst vs)) O) (.lst ds) (.ref p):=
 bP.mpr ⟨p,vs,rfl,ju.of (by rw[fT (hO.not hp),aq]),d.mono (lQ hp)⟩
noncomputable def CY(K:Pn)(r:V->Hp->VK->Prop)(g:D->aY):Prop:=
 ∀(a d:D)(x:V)(O:aD)(H:Hp)(Q:VK),cY H O->g a=some d->bJ K (hid H O) a x->(∀v H',aP H H'->bJ K (hid H' O) d v->Q v H')->r x H Q
noncomputable def f1(g:D->aY)(f:FX):FX:=λρ=>(f ρ).bind λa=>rO (g a)
noncomputable def cJ(K:Pn)(r:R2)(g:D->D->aY):Prop:=
 ∀(a b d:D)(x y:V)(O:aD)(H:Hp)(Q:VK),cY H O->g a b=some d->bJ K (hid H O) a x->bJ K (hid H O) b y->(∀v H',aP H H'->bJ K (hid H' O) d v->Q v H')->r x y H Q
noncomputable def f2(g:D->D->aY)(f1 f2:FX):FX:=λρ=>(f1 ρ).bind λa=>(f2 ρ).bind λb=>rO (g a b)
theorem qH{r:R2}{g:D->D->aY}{fa fb:FX}(s:cJ X.K r g):∀σ H Q,tF X (f2 g fa fb) σ H Q->HS r (tF X fa) (tF X fb) σ H Q:=λσ H Q ⟨O,ρ,E,hF⟩=>
 ⟨O,ρ,E,(dJ.bind hF).imp fun a hF x H1 s1 d1=>⟨O,ρ,E.same s1,((dJ.bind hF).mono s1).imp fun b hF y H2 s2 d2=>by
  obtain⟨d,e,q⟩:=dJ.rO hF;exact s a b d x y O H2 Q (E.all.same (s1.trans s2)) e (d1.mono (bn s2)) d2 λv H3 s3 d3=>q v H3 ((s1.trans s2).trans s3) d3⟩⟩
noncomputable def KH:D->Option Bool
 |.bl b=>some b
 |_=>none
noncomputable def fB(f:FX):bx:=λρ=>(f ρ).bind λd=>rO (KH d)
theorem kr{t:TE}{f:FX}(h:∀σ H Q,tF X f σ H Q->t σ H Q):∀σ H Q,Jn X (fB f) σ H Q->zL t σ H Q:=λσ H Q ⟨O,ρ,E,hF⟩=>
 h σ H _ ⟨O,ρ,E,(dJ.bind hF).imp λd hF v H1 s1 d1=>by
  obtain⟨b,e,q⟩:=dJ.rO hF;cases d with
  |bl b'=>
   cases e;exact⟨b,gF.mp d1,q H1 s1⟩
  |_=>cases e⟩
noncomputable def vv(K:Pn)(r:aH->Hp->VK->Prop)(g:List D->aY):Prop:=
 ∀(ds:List D)(d:D)(xs:aH)(O:aD)(H:Hp)(Q:VK),cY H O->g ds=some d->aG K (hid H O) ds xs->(∀v H',aP H H'->bJ K (hid H' O) d v->Q v H')->r xs H Q
noncomputable def fL(g:List D->aY)(f:aQ):FX:=λρ=>(f ρ).bind λds=>rO (g ds)
noncomputable def fR(g:bE)(f:aQ):FX:=λρ=>(f ρ).bind g
theorem AW{r:aH->Hp->VK->Prop}{g:List D->aY}{f:aQ}(s:vv X.K r g):∀σ H Q,tF X (fL g f) σ H Q->IL r (JP X f) σ H Q:=λσ H Q ⟨O,ρ,E,hF⟩=>
 ⟨O,ρ,E,(dJ.bind hF).imp fun ds hF vs H1 s1 d1=>by
  obtain⟨d,e,q⟩:=dJ.rO hF;exact s ds d vs O H1 Q (E.all.same s1) e d1 λv H2 s2 d2=>q v H2 (s1.trans s2) d2⟩
noncomputable def kY(f:bx):bx:=λρ=>(f ρ).bind λb=>.ok (!b)
noncomputable def ul(f g:bx):bx:=λρ=>(f ρ).bind λb=>if b then g ρ else .ok false
noncomputable def D8(f g:bx):bx:=λρ=>(f ρ).bind λb=>if b then .ok true else g ρ
variable{a b c:QP}{rest:aR}{pos:Pos}{f g:bx}
theorem FW.ft{e:QP}(h:FW X e f):FT X e f:=PW.pt h
noncomputable def truth:D->Option Bool
 |.non=>some false
 |.bl b=>some b
 |.int i=>some (i !=0)
 |.str x=>if small x.length then some (x.length !=0)else none
 |.tup xs=>some (!xs.isEmpty)
 |.lst xs=>some (!xs.isEmpty)
 |_=>none
noncomputable def bZ(f:FX):bx:=λρ=>(f ρ).bind λd=>rO (truth d)
noncomputable def uM(d:D)(k:R D):R D:=match d with
 |.bl true=>k
 |.bl false=>.ok (.bl false)
 |_=>un
noncomputable def HQ(d:D)(k:R D):R D:=match d with
 |.bl false=>k
 |.bl true=>.ok (.bl true)
 |_=>un
noncomputable def Eu:D->aY
 |.bl b=>some (.bl (!b))
 |_=>none
noncomputable def ig(f g:FX):FX:=λρ=>(f ρ).bind λd=>uM d (g ρ)
noncomputable def Cq(f g:FX):FX:=λρ=>(f ρ).bind λd=>HQ d (g ρ)
noncomputable def rQ(f:FX):FX:=f1 Eu f
variable{fa fb:FX}
noncomputable def G1(t:bx)(f g:FX):FX:=λρ=>(t ρ).bind λc=>if c then f ρ else g ρ
end
end TG
namespace TG
open PySem PySem.Spec L2
variable[aw]
open PySem.SeqAt (EqAt RcAt RcNeAt)
mutual
noncomputable def pyEq:D->D->Bool
 |.non,.non=>true
 |.bl a,.bl b=>a==b
 |.bl a,.int b=>(if a then 1 else 0)==b
 |.int a,.bl b=>a==(if b then 1 else 0)
 |.int a,.int b=>a==b
 |.str a,.str b=>a==b
 |.tup xs,.tup ys=>ie xs ys
 |.lst xs,.lst ys=>ie xs ys
 |.dct _ _,.dct _ _=>true
 |.obj _ _ _,.obj _ _ _=>true
 |.exc _ _ _,.exc _ _ _=>true
 |_,_=>false
noncomputable def ie:List D->List D->Bool
 |[],[]=>true
 |x::xs,y::ys=>pyEq x y&&ie xs ys
 |_,_=>false
end
mutual
theorem kO:∀d:D,pyEq d d=true
 |.non=>by unfold pyEq;rfl
 |.bl b=>by unfold pyEq;simp
 |.int i=>by unfold pyEq;simp
 |.str x=>by unfold pyEq;simp
 |.tup xs=>by unfold pyEq;exact jx xs
 |.lst xs=>by unfold pyEq;exact jx xs
 |.dct _ _=>by unfold pyEq;rfl
 |.obj _ _ _=>by unfold pyEq;rfl
 |.exc _ _ _=>by unfold pyEq;rfl
theorem jx:∀ds:List D,ie ds ds=true
 |[]=>by unfold ie;rfl
 |d::ds=>by unfold ie;rw[kO d,jx ds];rfl
end
noncomputable def t6(xs ys:List D)(j:Nat):Bool:=match xs[j]?,ys[j]? with
 |some a,some b=>pyEq a b
 |_,_=>false
theorem dL:∀xs ys:List D,((List.range (min xs.length ys.length)).all (t6 xs ys)&&xs.length==ys.length)=ie xs ys
 |[],[]=>by unfold ie;rfl
 |[],_::_=>by unfold ie;simp
 |_::_,[]=>by unfold ie;simp
 |x::xs,y::ys=>by
  have ih:=dL xs ys
  conv=>rhs;unfold ie
  rw[<-ih];have e:min (x::xs).length (y::ys).length=min xs.length ys.length+1:=by simp only[Nw];omega
  rw[e,Od,Oc,List.all_map];have e2:((x::xs).length==(y::ys).length)=(xs.length==ys.length):=by simp
  rw[e2,Bool.and_assoc];have e3:(List.range (min xs.length ys.length)).all (t6 (x::xs) (y::ys)∘Nat.succ)=(List.range (min xs.length ys.length)).all (t6 xs ys):=by
   congr 1
  rw[e3];rfl
mutual
noncomputable def pl:D->Bool
 |.tup xs=>lh xs
 |.lst xs=>lh xs
 |.dct _ _=>false
 |.obj _ _ _=>false
 |.exc _ _ _=>false
 |_=>true
noncomputable def lh:List D->Bool
 |[]=>true
 |x::xs=>pl x&&lh xs
end
theorem dM{ks vs:List D}(h:pl (.dct ks vs)=true):False:=by unfold pl at h;cases h
theorem dP{c:Str}{fs:av}{vs:List D}(h:pl (.obj c fs vs)=true):False:=by unfold pl at h;cases h
theorem dQ{c:Str}{fs:av}{vs:List D}(h:pl (.exc c fs vs)=true):False:=by unfold pl at h;cases h
theorem fK:∀{xs:List D},lh xs=true->∀x∈xs,pl x=true
 |[],_,_,h=>nomatch h
 |x::xs,h,y,hy=>by
  unfold lh at h;rw[NU]at h;rcases List.mem_cons.mp hy with z|z
  ·rw[z];exact h.1
  ·exact fK h.2 y z
theorem df{xs:List D}:pl (.tup xs)=lh xs:=by rw[pl]
theorem cZ{xs:List D}:pl (.lst xs)=lh xs:=by rw[pl]
noncomputable def dD:Nat->D->Bool
 |n+1,.tup xs=>xs.all (dD n)
 |n+1,.lst xs=>xs.all (dD n)
 |0,.tup _=>false
 |0,.lst _=>false
 |_,.dct _ _=>false
 |_,.obj _ _ _=>false
 |_,.exc _ _ _=>false
 |_,_=>true
section
variable{X:Cx}{pins:aM}{σ:St}{H:Hp}{s:QR}
theorem Inv.not_both(I:Inv X pins σ H s){a:QO}{xs ys:aH}(h:lu X.K H a xs)(h':ju X.K H a ys):False:=by
 obtain⟨its,_,ht,_⟩:=I.tuple h;obtain⟨its2,_,hl,_⟩:=I.list h';exact absurd rfl (SeqAt.ne_of_list_tuple hl.isList (show s.heap.IsTuple a its.toArray from ht))
mutual
theorem Inv.den_inj(I:Inv X pins σ H s):∀{a b:D}{v:V},pl a=true->pl b=true->bJ X.K H a v->bJ X.K H b v->a=b
 |.non,b,v,pa,pb,h,h'=>by
  rw[gC]at h;subst h;cases b with
  |non=>rfl
  |bl _=>rw[gF]at h';cases h'
  |int _=>rw[eQ]at h';cases h'
  |str _=>rw[dW]at h';cases h'
  |tup _=>rw[bQ]at h';obtain⟨_,_,e,_⟩:=h';cases e
  |lst _=>rw[bP]at h';obtain⟨_,_,e,_⟩:=h';cases e
  |dct _ _=>exact(dM pb).elim
  |obj _ _ _=>exact(dP pb).elim
  |exc _ _ _=>exact(dQ pb).elim
 |.bl x,b,v,pa,pb,h,h'=>by
  rw[gF]at h;subst h;cases b with
  |non=>rw[gC]at h';cases h'
  |bl _=>rw[gF]at h';cases h';rfl
  |int _=>rw[eQ]at h';cases h'
  |str _=>rw[dW]at h';cases h'
  |tup _=>rw[bQ]at h';obtain⟨_,_,e,_⟩:=h';cases e
  |lst _=>rw[bP]at h';obtain⟨_,_,e,_⟩:=h';cases e
  |dct _ _=>exact(dM pb).elim
  |obj _ _ _=>exact(dP pb).elim
  |exc _ _ _=>exact(dQ pb).elim
 |.int x,b,v,pa,pb,h,h'=>by
  rw[eQ]at h;subst h;cases b with
  |non=>rw[gC]at h';cases h'
  |bl _=>rw[gF]at h';cases h'
  |int _=>rw[eQ]at h';cases h';rfl
  |str _=>rw[dW]at h';cases h'
  |tup _=>rw[bQ]at h';obtain⟨_,_,e,_⟩:=h';cases e
  |lst _=>rw[bP]at h';obtain⟨_,_,e,_⟩:=h';cases e
  |dct _ _=>exact(dM pb).elim
  |obj _ _ _=>exact(dP pb).elim
  |exc _ _ _=>exact(dQ pb).elim
 |.str x,b,v,pa,pb,h,h'=>by
  rw[dW]at h;subst h;cases b with
  |non=>rw[gC]at h';cases h'
  |bl _=>rw[gF]at h';cases h'
  |int _=>rw[eQ]at h';cases h'
  |str _=>rw[dW]at h';cases h';rfl
  |tup _=>rw[bQ]at h';obtain⟨_,_,e,_⟩:=h';cases e
  |lst _=>rw[bP]at h';obtain⟨_,_,e,_⟩:=h';cases e
  |dct _ _=>exact(dM pb).elim
  |obj _ _ _=>exact(dP pb).elim
  |exc _ _ _=>exact(dQ pb).elim
 |.tup xs,b,v,pa,pb,h,h'=>by
  rw[bQ]at h;obtain⟨a,vs,e,h1,h2⟩:=h;subst e;cases b with
  |non=>rw[gC]at h';cases h'
  |bl _=>rw[gF]at h';cases h'
  |int _=>rw[eQ]at h';cases h'
  |str _=>rw[dW]at h';cases h'
  |tup ys=>
   rw[bQ]at h';obtain⟨a',vs',e,h1',h2'⟩:=h';cases e;have ev:=I.tuple_inj (lu.of h1) (lu.of h1');subst ev;rw[Inv.denL_inj I (by first|rw[<-df];exact pa|rw[<-cZ];exact pa) (by first|rw[<-df];exact pb|rw[<-cZ];exact pb) h2 h2']
  |lst _=>rw[bP]at h';obtain⟨_,_,e,h1',_⟩:=h';cases e;exact(Inv.not_both I (lu.of h1) h1').elim
  |dct _ _=>exact(dM pb).elim
  |obj _ _ _=>exact(dP pb).elim
  |exc _ _ _=>exact(dQ pb).elim
 |.lst xs,b,v,pa,pb,h,h'=>by
  rw[bP]at h;obtain⟨a,vs,e,h1,h2⟩:=h;subst e;cases b with
  |non=>rw[gC]at h';cases h'
  |bl _=>rw[gF]at h';cases h'
  |int _=>rw[eQ]at h';cases h'
  |str _=>rw[dW]at h';cases h'
  |lst ys=>
   rw[bP]at h';obtain⟨a',vs',e,h1',h2'⟩:=h';cases e;have ev:=I.list_inj h1 h1';subst ev;rw[Inv.denL_inj I (by first|rw[<-df];exact pa|rw[<-cZ];exact pa) (by first|rw[<-df];exact pb|rw[<-cZ];exact pb) h2 h2']
  |tup _=>rw[bQ]at h';obtain⟨_,_,e,h1',_⟩:=h';cases e;exact(Inv.not_both I (lu.of h1') h1).elim
  |dct _ _=>exact(dM pb).elim
  |obj _ _ _=>exact(dP pb).elim
  |exc _ _ _=>exact(dQ pb).elim
 |.dct _ _,_,_,pa,_,_,_=>(dM pa).elim
 |.obj _ _ _,_,_,pa,_,_,_=>(dP pa).elim
 |.exc _ _ _,_,_,pa,_,_,_=>(dQ pa).elim
theorem Inv.denL_inj(I:Inv X pins σ H s):∀{as bs:List D}{vs:aH},lh as=true->lh bs=true->aG X.K H as vs->aG X.K H bs vs->as=bs
 |[],bs,vs,pa,pb,h,h'=>by
  rw[bB]at h;subst h;cases bs with
  |nil=>rfl
  |cons b bs=>rw[aI]at h';obtain⟨_,_,e,_⟩:=h';cases e
 |a::as,bs,vs,pa,pb,h,h'=>by
  rw[aI]at h;obtain⟨v,r,e,h1,h2⟩:=h;subst e;cases bs with
  |nil=>rw[bB]at h';cases h'
  |cons b bs=>
   rw[aI]at h';obtain⟨v',r',e,h1',h2'⟩:=h';cases e;unfold lh at pa pb;rw[NU]at pa pb;rw[Inv.den_inj I pa.1 pb.1 h1 h1',Inv.denL_inj I pa.2 pb.2 h2 h2']
end
noncomputable def jm:D->Option V
 |.non=>some .non
 |.bl b=>some (.bl b)
 |.int i=>some (.int i)
 |.str x=>some (.str x)
 |_=>none
theorem kG{K:Pn}{d:D}{v x:V}(h:jm d=some x)(hd:bJ K H d v):v=x/\zA x=true:=by
 cases d with
 |non=>cases h;exact⟨gC.mp hd,rfl⟩
 |bl b=>cases h;exact⟨gF.mp hd,rfl⟩
 |int i=>cases h;exact⟨eQ.mp hd,rfl⟩
 |str y=>cases h;exact⟨dW.mp hd,rfl⟩
 |_=>cases h
theorem Dk{a b:D}{x y:V}(ha:jm a=some x)(hb:jm b=some y):JN x y=pyEq a b:=by
 cases a<;>cases ha<;>cases b<;>cases hb<;>(unfold pyEq JN;rfl)
theorem tm{a:D}{x:V}(n:Nat)(h:jm a=some x):dD n a=true:=by
 cases a with
 |tup _=>cases h
 |lst _=>cases h
 |dct _ _=>cases h
 |obj _ _ _=>cases h
 |exc _ _ _=>cases h
 |_=>cases n<;>rfl
theorem sj{a:D}(h:jm a=none):dD 0 a=false:=by
 cases a with
 |tup _=>rfl
 |lst _=>rfl
 |dct _ _=>rfl
 |obj _ _ _=>rfl
 |exc _ _ _=>rfl
 |_=>cases h
theorem in1_units(A:QZ):A.in1.units=A.units+1:=rfl
theorem iY{vs:aH}{us:aS}(r:Vals vs us){j:Nat}(h:j<us.toArray.size):∃x,vs[j]?=some x/\RelV x us.toArray[j]:=by
 have hj:j<us.length:=by simpa using h
 have hl:=r.length;have hv:j<vs.length:=by omega
 obtain⟨u,e,ru⟩:=r.get (i:=j) (x:=vs[j]) (by simp[hv]);refine⟨vs[j],by simp[hv],?_⟩;have e2:us.toArray[j]=u:=by
  rw[Oe hj]at e
  simpa using Option.some.inj e
 rw[e2];exact ru
theorem jf{K:Pn}{ds:List D}{vs:aH}(h:aG K H ds vs){j:Nat}{x:V}(e:vs[j]?=some x):∃d,ds[j]?=some d/\bJ K H d x:=by
 have hj:j<vs.length:=(List.getElem?_eq_some_iff.mp e).1;have hl:=h.length;have hd:j<ds.length:=by omega
 obtain⟨v,e1,e2⟩:=h.get (i:=j) (d:=ds[j]) (by simp[hd]);rw[e]at e1;cases e1;exact⟨ds[j],by simp[hd],e2⟩
theorem uA(I:Inv X pins σ H s):∀(n:Nat)(a b:D)(x y:V)(u v:QM)(A:QZ),pl a=true->pl b=true->(dD n a=true\/dD n b=true)->bJ X.K H a x->bJ X.K H b y->RelV x u->RelV y v->A.units+n<RG->EqAt A s u v (pyEq a b):=by
 intro n
 induction n with
 |zero=>
  intro a b x y u v A pa pb hd ha hb ru rv hA;have hu:A.units<RG:=hA;cases ha':jm a with
  |some x'=>
   obtain⟨e,f⟩:=kG ha' ha;subst e;cases hb':jm b with
   |some y'=>
    obtain⟨e,f'⟩:=kG hb' hb;subst e;rw[<-Dk ha' hb'];exact Gb ru rv f f'
   |none=>
    cases b with
    |tup ys=>
     rw[bQ]at hb;obtain⟨p,vs,e,h1,h2⟩:=hb;subst e;cases rv;obtain⟨its,_,ht,_⟩:=I.tuple (lu.of h1);have ht':s.heap.IsTuple p its.toArray:=ht;cases a with
     |non=>cases ha';cases ru;unfold pyEq;exact .none_tuple ht' hu
     |bl z=>cases ha';cases ru;unfold pyEq;exact .bool_tuple z ht' hu
     |int z=>cases ha';obtain⟨t,rfl⟩:=ru;unfold pyEq;exact .int_tuple z t ht' hu
     |str z=>cases ha';obtain⟨t,rfl⟩:=ru;unfold pyEq;exact .str_tuple z t ht' hu
     |_=>cases ha'
    |lst ys=>
     rw[bP]at hb;obtain⟨p,vs,e,h1,h2⟩:=hb;subst e;cases rv;obtain⟨its,_,ht,_⟩:=I.list h1;have ht':s.heap.IsList p its.toArray:=ht.isList;cases a with
     |non=>cases ha';cases ru;unfold pyEq;exact .none_list ht' hu
     |bl z=>cases ha';cases ru;unfold pyEq;exact .bool_list z ht' hu
     |int z=>cases ha';obtain⟨t,rfl⟩:=ru;unfold pyEq;exact .int_list z t ht' hu
     |str z=>cases ha';obtain⟨t,rfl⟩:=ru;unfold pyEq;exact .str_list z t ht' hu
     |_=>cases ha'
    |dct _ _=>exact(dM pb).elim
    |obj _ _ _=>exact(dP pb).elim
    |exc _ _ _=>exact(dQ pb).elim
    |_=>cases hb'
  |none=>
   have hdb:dD 0 b=true:=by
    rcases hd with hd|hd
    ·rw[sj ha']at hd;cases hd
    ·exact hd
   cases hb':jm b with
   |none=>rw[sj hb']at hdb;cases hdb
   |some y'=>
    obtain⟨e,f'⟩:=kG hb' hb;subst e;cases a with
    |tup xs=>
     rw[bQ]at ha;obtain⟨p,vs,e,h1,h2⟩:=ha;subst e;cases ru;obtain⟨its,_,ht,_⟩:=I.tuple (lu.of h1);have ht':s.heap.IsTuple p its.toArray:=ht;cases b with
     |non=>cases hb';cases rv;unfold pyEq;exact .tuple_none ht' hu
     |bl z=>cases hb';cases rv;unfold pyEq;exact .tuple_bool z ht' hu
     |int z=>cases hb';obtain⟨t,rfl⟩:=rv;unfold pyEq;exact .tuple_int z t ht' hu
     |str z=>cases hb';obtain⟨t,rfl⟩:=rv;unfold pyEq;exact .tuple_str z t ht' hu
     |_=>cases hb'
    |lst xs=>
     rw[bP]at ha;obtain⟨p,vs,e,h1,h2⟩:=ha;subst e;cases ru;obtain⟨its,_,ht,_⟩:=I.list h1;have ht':s.heap.IsList p its.toArray:=ht.isList;cases b with
     |non=>cases hb';cases rv;unfold pyEq;exact .list_none ht' hu
     |bl z=>cases hb';cases rv;unfold pyEq;exact .list_bool z ht' hu
     |int z=>cases hb';obtain⟨t,rfl⟩:=rv;unfold pyEq;exact .list_int z t ht' hu
     |str z=>cases hb';obtain⟨t,rfl⟩:=rv;unfold pyEq;exact .list_str z t ht' hu
     |_=>cases hb'
    |dct _ _=>exact(dM pa).elim
    |obj _ _ _=>exact(dP pa).elim
    |exc _ _ _=>exact(dQ pa).elim
    |_=>cases ha'
 |succ n ih=>
  intro a b x y u v A pa pb hd ha hb ru rv hA;have hu:A.units<RG:=by omega
  have flatWay:(∀xs ys,¬(a=.tup xs/\b=.tup ys))->(∀xs ys,¬(a=.lst xs/\b=.lst ys))->EqAt A s u v (pyEq a b):=by
   intro n1 n2;cases ha':jm a with
   |some x'=>exact ih a b x y u v A pa pb (.inl (tm n ha')) ha hb ru rv ‹0›
   |none=>
    cases hb':jm b with
    |some y'=>exact ih a b x y u v A pa pb (.inr (tm n hb')) ha hb ru rv ‹0›
    |none=>
     cases a with
     |tup xs=>
      cases b with
      |tup ys=>exact absurd ⟨rfl,rfl⟩ (n1 xs ys)
      |lst ys=>
       rw[bQ]at ha;obtain⟨p,vs,e,h1,h2⟩:=ha;subst e;rw[bP]at hb;obtain⟨p',vs',e,h1',h2'⟩:=hb;subst e;cases ru;cases rv;obtain⟨its,_,ht,_⟩:=I.tuple (lu.of h1);obtain⟨its2,_,ht2,_⟩:=I.list h1';unfold pyEq;exact .tuple_list (show s.heap.IsTuple p its.toArray from ht) ht2.isList hu
      |dct _ _=>exact(dM pb).elim
      |obj _ _ _=>exact(dP pb).elim
      |exc _ _ _=>exact(dQ pb).elim
      |_=>cases hb'
     |lst xs=>
      cases b with
      |lst ys=>exact absurd ⟨rfl,rfl⟩ (n2 xs ys)
      |tup ys=>
       rw[bP]at ha;obtain⟨p,vs,e,h1,h2⟩:=ha;subst e;rw[bQ]at hb;obtain⟨p',vs',e,h1',h2'⟩:=hb;subst e;cases ru;cases rv;obtain⟨its,_,ht,_⟩:=I.list h1;obtain⟨its2,_,ht2,_⟩:=I.tuple (lu.of h1');unfold pyEq;exact .list_tuple ht.isList (show s.heap.IsTuple p' its2.toArray from ht2) hu
      |dct _ _=>exact(dM pb).elim
      |obj _ _ _=>exact(dP pb).elim
      |exc _ _ _=>exact(dQ pb).elim
      |_=>cases hb'
     |dct _ _=>exact(dM pa).elim
     |obj _ _ _=>exact(dP pa).elim
     |exc _ _ _=>exact(dQ pa).elim
     |_=>cases ha'
  have items:∀(xs ys:List D)(vs vs':aH)(its its':aS),lh xs=true->lh ys=true->(dD (n+1) (.tup xs)=true\/dD (n+1) (.tup ys)=true)->aG X.K H xs vs->aG X.K H ys vs'->Vals vs its->Vals vs' its'->
    ∀j (h1:j<its.toArray.size) (h2:j<its'.toArray.size),EqAt A.in1 s its.toArray[j] its'.toArray[j] (t6 xs ys j):=by
   intro xs ys vs vs' its its' px py hdd hx hy rx ry j h1 h2;obtain⟨w1,e1,r1⟩:=iY rx h1;obtain⟨w2,e2,r2⟩:=iY ry h2;obtain⟨d1,f1,g1⟩:=jf hx e1;obtain⟨d2,f2,g2⟩:=jf hy e2;have e3:t6 xs ys j=pyEq d1 d2:=(by unfold t6;rw[f1,f2]);rw[e3];refine ih d1 d2 w1 w2 _ _ A.in1 (fK px _ (NQ f1)) (fK py _ (NQ f2)) ?_ g1 g2 r1 r2 (by rw[in1_units];omega);rcases hdd with hdd|hdd
   ·exact .inl (List.all_eq_true.mp hdd d1 (NQ f1))
   ·exact .inr (List.all_eq_true.mp hdd d2 (NQ f2))
  by_cases hT:∃xs ys,a=.tup xs/\b=.tup ys
  ·obtain⟨xs,ys,rfl,rfl⟩:=hT;have da:=ha;have db:=hb;rw[bQ]at ha hb;obtain⟨p,vs,e,h1,h2⟩:=ha;subst e;obtain⟨p',vs',e,h1',h2'⟩:=hb;subst e;cases ru;cases rv;by_cases hp:p=p'
   ·subst hp;have e:=Inv.den_inj I pa pb da db;rw[e,kO];exact EqAt.same _
   ·obtain⟨its,rv1,ht,_⟩:=I.tuple (lu.of h1);obtain⟨its2,rv2,ht2,_⟩:=I.tuple (lu.of h1');refine EqAt.of_refs hp ?_;have q:=RcAt.tuples (e:=t6 xs ys) (show s.heap.IsTuple p its.toArray from ht) (show s.heap.IsTuple p' its2.toArray from ht2) hu (items xs ys vs vs' its its2 (by first|rw[<-df];exact pa|rw[<-cZ];exact pa) (by first|rw[<-df];exact pb|rw[<-cZ];exact pb) hd h2 h2' rv1 rv2);have z1:its.toArray.size=xs.length:=(by rw[Nv,<-rv1.length,<-h2.length]);have z2:its2.toArray.size=ys.length:=(by rw[Nv,<-rv2.length,<-h2'.length]);rw[z1,z2,dL]at q;unfold pyEq;exact q
  ·by_cases hL:∃xs ys,a=.lst xs/\b=.lst ys
   ·obtain⟨xs,ys,rfl,rfl⟩:=hL;have da:=ha;have db:=hb;rw[bP]at ha hb;obtain⟨p,vs,e,h1,h2⟩:=ha;subst e;obtain⟨p',vs',e,h1',h2'⟩:=hb;subst e;cases ru;cases rv;by_cases hp:p=p'
    ·subst hp;have e:=Inv.den_inj I pa pb da db;rw[e,kO];exact EqAt.same _
    ·obtain⟨its,rv1,ht,_⟩:=I.list h1;obtain⟨its2,rv2,ht2,_⟩:=I.list h1';refine EqAt.of_refs hp ?_;have z1:its.toArray.size=xs.length:=(by rw[Nv,<-rv1.length,<-h2.length]);have z2:its2.toArray.size=ys.length:=(by rw[Nv,<-rv2.length,<-h2'.length]);have er:=dL xs ys;by_cases hz:its.toArray.size=its2.toArray.size
     ·have q:=RcAt.lists (e:=t6 xs ys) ht.isList ht2.isList hz hu (items xs ys vs vs' its its2 (by first|rw[<-df];exact pa|rw[<-cZ];exact pa) (by first|rw[<-df];exact pb|rw[<-cZ];exact pb) hd h2 h2' rv1 rv2);rw[z1]at q;have hz':xs.length=ys.length:=(by omega);rw[<-hz',Of]at er;simp only[beq_self_eq_true,Og]at er;rw[er]at q;unfold pyEq;exact q
     ·have hne:(its.toArray.size !=its2.toArray.size)=true:=(by simpa using hz);have q:=RcAt.lists_lengths (A:=A) ht.isList ht2.isList hne hu;have hz':(xs.length==ys.length)=false:=by
       rw[z1,z2]at hz
       simpa using hz
      rw[hz',Oh]at er;unfold pyEq;rw[<-er];exact q
   ·exact flatWay (λxs ys z=>hT ⟨xs,ys,z⟩) λxs ys z=>hL ⟨xs,ys,z⟩
end
end TG
namespace TG
open PySem PySem.Spec L2
variable[aw]
open PySem.SeqAt (EqAt RcAt RcNeAt)
section
variable{X:Cx}{pins:aM}{σ:St}{H:Hp}{s:QR}
theorem lT(I:Inv X pins σ H s){n:Nat}{xs ys:List D}{vs vs':aH}{its its':aS}{A:QZ}(px:lh xs=true)(py:lh ys=true)(hdd:dD (n+1) (.tup xs)=true\/dD (n+1) (.tup ys)=true)(hx:aG X.K H xs vs)(hy:aG X.K H ys vs')(rx:Vals vs its)(ry:Vals vs' its')(hA:A.units+n<RG):
  ∀j (h1:j<its.toArray.size) (h2:j<its'.toArray.size),EqAt A s its.toArray[j] its'.toArray[j] (t6 xs ys j):=by
 intro j h1 h2;obtain⟨w1,e1,r1⟩:=iY rx h1;obtain⟨w2,e2,r2⟩:=iY ry h2;obtain⟨d1,f1,g1⟩:=jf hx e1;obtain⟨d2,f2,g2⟩:=jf hy e2;have e3:t6 xs ys j=pyEq d1 d2:=by unfold t6;rw[f1,f2]
 rw[e3];refine uA I n d1 d2 w1 w2 _ _ A (fK px _ (NQ f1)) (fK py _ (NQ f2)) ?_ g1 g2 r1 r2 hA;rcases hdd with hdd|hdd
 ·exact .inl (List.all_eq_true.mp hdd d1 (NQ f1))
 ·exact .inr (List.all_eq_true.mp hdd d2 (NQ f2))
inductive Way(I:Inv X pins σ H s):D->QM->Prop where
 |non:Way I .non .none
 |bl (b:Bool):Way I (.bl b) (.bool b)
 |int (i:Int) (t:Tok):Way I (.int i) (.int i t)
 |str (x:Str) (t:Tok):Way I (.str x) (.str x t)
 |tup {xs:List D} {p:QO} {vs:aH} {its:aS} (h:aG X.K H xs vs) (r:Vals vs its) (t:s.heap.IsTuple p its.toArray):Way I (.tup xs) (.ref p)
 |lst {xs:List D} {p:QO} {vs:aH} {its:aS} (h:aG X.K H xs vs) (r:Vals vs its) (t:s.heap.IsList p its.toArray):Way I (.lst xs) (.ref p)
noncomputable def top:D->Bool
 |.dct _ _=>false
 |.obj _ _ _=>false
 |.exc _ _ _=>false
 |_=>true
theorem dI{d:D}(h:pl d=true):top d=true:=by
 cases d with
 |dct _ _=>exact(dM h).elim
 |obj _ _ _=>exact(dP h).elim
 |exc _ _ _=>exact(dQ h).elim
 |_=>rfl
theorem dr(I:Inv X pins σ H s){d:D}{v:V}{u:QM}(pd:top d=true)(h:bJ X.K H d v)(r:RelV v u):Way I d u:=by
 cases d with
 |non=>rw[gC]at h;subst h;cases r;exact .non
 |bl b=>rw[gF]at h;subst h;cases r;exact .bl b
 |int i=>rw[eQ]at h;subst h;obtain⟨t,rfl⟩:=r;exact .int i t
 |str x=>rw[dW]at h;subst h;obtain⟨t,rfl⟩:=r;exact .str x t
 |tup xs=>
  rw[bQ]at h;obtain⟨p,vs,e,h1,h2⟩:=h;subst e;cases r;obtain⟨its,rv,ht,_⟩:=I.tuple (lu.of h1);exact .tup h2 rv ht
 |lst xs=>
  rw[bP]at h;obtain⟨p,vs,e,h1,h2⟩:=h;subst e;cases r;obtain⟨its,rv,ht,_⟩:=I.list h1;exact .lst h2 rv ht.isList
 |dct _ _=>cases pd
 |obj _ _ _=>cases pd
 |exc _ _ _=>cases pd
theorem Fz(I:Inv X pins σ H s){n:Nat}{a b:D}{x y:V}{u v:QM}{A:QZ}(pa:pl a=true)(pb:pl b=true)(hd:dD (n+1) a=true\/dD (n+1) b=true)(ha:bJ X.K H a x)(hb:bJ X.K H b y)(ru:RelV x u)(rv:RelV y v)(hA:A.units+n+1<RG):RcAt A s u v (pyEq a b):=by
 have hu:A.units<RG:=by omega
 cases dr I (dI pa) ha ru with
 |non=>cases dr I (dI pb) hb rv with
  |non=>unfold pyEq;exact .none_none
  |bl b=>unfold pyEq;exact .none_bool b
  |int i t=>unfold pyEq;exact .none_int i t
  |str x t=>unfold pyEq;exact .none_str x t
  |tup h r t=>unfold pyEq;exact .none_tuple t hu
  |lst h r t=>unfold pyEq;exact .none_list t hu
 |bl z=>cases dr I (dI pb) hb rv with
  |non=>unfold pyEq;exact .bool_none z
  |bl b=>unfold pyEq;exact .bool_bool z b
  |int i t=>unfold pyEq;exact .bool_int z i t
  |str x t=>unfold pyEq;exact .bool_str z x t
  |tup h r t=>unfold pyEq;exact .bool_tuple z t hu
  |lst h r t=>unfold pyEq;exact .bool_list z t hu
 |int z tz=>cases dr I (dI pb) hb rv with
  |non=>unfold pyEq;exact .int_none z tz
  |bl b=>unfold pyEq;exact .int_bool z tz b
  |int i t=>unfold pyEq;exact .int_int z tz i t
  |str x t=>unfold pyEq;exact .int_str z tz x t
  |tup h r t=>unfold pyEq;exact .int_tuple z tz t hu
  |lst h r t=>unfold pyEq;exact .int_list z tz t hu
 |str z tz=>cases dr I (dI pb) hb rv with
  |non=>unfold pyEq;exact .str_none z tz
  |bl b=>unfold pyEq;exact .str_bool z tz b
  |int i t=>unfold pyEq;exact .str_int z tz i t
  |str x t=>unfold pyEq;exact .str_str z tz x t
  |tup h r t=>unfold pyEq;exact .str_tuple z tz t hu
  |lst h r t=>unfold pyEq;exact .str_list z tz t hu
 |@tup xs p vs its h1 r1 t1=>cases dr I (dI pb) hb rv with
  |non=>unfold pyEq;exact .tuple_none t1 hu
  |bl b=>unfold pyEq;exact .tuple_bool b t1 hu
  |int i t=>unfold pyEq;exact .tuple_int i t t1 hu
  |str x t=>unfold pyEq;exact .tuple_str x t t1 hu
  |@tup ys p' vs' its' h2 r2 t2=>
   have q:=RcAt.tuples (e:=t6 xs ys) t1 t2 hu (lT (A:=A.in1) I (by first|rw[<-df];exact pa|rw[<-cZ];exact pa) (by first|rw[<-df];exact pb|rw[<-cZ];exact pb) hd h1 h2 r1 r2 (by rw[in1_units];omega));have z1:its.toArray.size=xs.length:=(by rw[Nv,<-r1.length,<-h1.length]);have z2:its'.toArray.size=ys.length:=(by rw[Nv,<-r2.length,<-h2.length]);rw[z1,z2,dL]at q;unfold pyEq;exact q
  |lst h r t=>unfold pyEq;exact .tuple_list t1 t hu
 |@lst xs p vs its h1 r1 t1=>cases dr I (dI pb) hb rv with
  |non=>unfold pyEq;exact .list_none t1 hu
  |bl b=>unfold pyEq;exact .list_bool b t1 hu
  |int i t=>unfold pyEq;exact .list_int i t t1 hu
  |str x t=>unfold pyEq;exact .list_str x t t1 hu
  |tup h r t=>unfold pyEq;exact .list_tuple t1 t hu
  |@lst ys p' vs' its' h2 r2 t2=>
   have z1:its.toArray.size=xs.length:=(by rw[Nv,<-r1.length,<-h1.length]);have z2:its'.toArray.size=ys.length:=(by rw[Nv,<-r2.length,<-h2.length]);have er:=dL xs ys;by_cases hz:its.toArray.size=its'.toArray.size
   ·have q:=RcAt.lists (e:=t6 xs ys) t1 t2 hz hu (lT (A:=A.in1) I (by first|rw[<-df];exact pa|rw[<-cZ];exact pa) (by first|rw[<-df];exact pb|rw[<-cZ];exact pb) hd h1 h2 r1 r2 (by rw[in1_units];omega));rw[z1]at q;have hz':xs.length=ys.length:=(by omega);rw[<-hz',Of]at er;simp only[beq_self_eq_true,Og]at er;rw[er]at q;unfold pyEq;exact q
   ·have q:=RcAt.lists_lengths (A:=A) t1 t2 (by simpa using hz) hu;have hz':(xs.length==ys.length)=false:=by
     rw[z1,z2]at hz
     simpa using hz
    rw[hz',Oh]at er;unfold pyEq;rw[<-er];exact q
theorem A7(I:Inv X pins σ H s){n:Nat}{a b:D}{x y:V}{u v:QM}{A:QZ}(pa:pl a=true)(pb:pl b=true)(hd:dD (n+1) a=true\/dD (n+1) b=true)(ha:bJ X.K H a x)(hb:bJ X.K H b y)(ru:RelV x u)(rv:RelV y v)(hA:A.units+n+1<RG):RcNeAt A s u v (!pyEq a b):=by
 have hu:A.units<RG:=by omega
 cases dr I (dI pa) ha ru with
 |non=>cases dr I (dI pb) hb rv with
  |non=>unfold pyEq;exact .none_none
  |bl b=>unfold pyEq;exact .none_bool b
  |int i t=>unfold pyEq;exact .none_int i t
  |str x t=>unfold pyEq;exact .none_str x t
  |tup h r t=>unfold pyEq;exact .none_tuple t hu
  |lst h r t=>unfold pyEq;exact .none_list t hu
 |bl z=>cases dr I (dI pb) hb rv with
  |non=>unfold pyEq;exact .bool_none z
  |bl b=>unfold pyEq;exact .bool_bool z b
  |int i t=>unfold pyEq;exact .bool_int z i t
  |str x t=>unfold pyEq;exact .bool_str z x t
  |tup h r t=>unfold pyEq;exact .bool_tuple z t hu
  |lst h r t=>unfold pyEq;exact .bool_list z t hu
 |int z tz=>cases dr I (dI pb) hb rv with
  |non=>unfold pyEq;exact .int_none z tz
  |bl b=>unfold pyEq;exact .int_bool z tz b
  |int i t=>unfold pyEq;exact .int_int z tz i t
  |str x t=>unfold pyEq;exact .int_str z tz x t
  |tup h r t=>unfold pyEq;exact .int_tuple z tz t hu
  |lst h r t=>unfold pyEq;exact .int_list z tz t hu
 |str z tz=>cases dr I (dI pb) hb rv with
  |non=>unfold pyEq;exact .str_none z tz
  |bl b=>unfold pyEq;exact .str_bool z tz b
  |int i t=>unfold pyEq;exact .str_int z tz i t
  |str x t=>unfold pyEq;exact .str_str z tz x t
  |tup h r t=>unfold pyEq;exact .str_tuple z tz t hu
  |lst h r t=>unfold pyEq;exact .str_list z tz t hu
 |@tup xs p vs its h1 r1 t1=>cases dr I (dI pb) hb rv with
  |non=>unfold pyEq;exact .tuple_none t1 hu
  |bl b=>unfold pyEq;exact .tuple_bool b t1 hu
  |int i t=>unfold pyEq;exact .tuple_int i t t1 hu
  |str x t=>unfold pyEq;exact .tuple_str x t t1 hu
  |@tup ys p' vs' its' h2 r2 t2=>
   have q:=RcNeAt.tuples (e:=t6 xs ys) t1 t2 hu (lT (A:=A.in1) I (by first|rw[<-df];exact pa|rw[<-cZ];exact pa) (by first|rw[<-df];exact pb|rw[<-cZ];exact pb) hd h1 h2 r1 r2 (by rw[in1_units];omega));have z1:its.toArray.size=xs.length:=(by rw[Nv,<-r1.length,<-h1.length]);have z2:its'.toArray.size=ys.length:=(by rw[Nv,<-r2.length,<-h2.length]);rw[z1,z2,dL]at q;unfold pyEq;exact q
  |lst h r t=>unfold pyEq;exact .tuple_list t1 t hu
 |@lst xs p vs its h1 r1 t1=>cases dr I (dI pb) hb rv with
  |non=>unfold pyEq;exact .list_none t1 hu
  |bl b=>unfold pyEq;exact .list_bool b t1 hu
  |int i t=>unfold pyEq;exact .list_int i t t1 hu
  |str x t=>unfold pyEq;exact .list_str x t t1 hu
  |tup h r t=>unfold pyEq;exact .list_tuple t1 t hu
  |@lst ys p' vs' its' h2 r2 t2=>
   have z1:its.toArray.size=xs.length:=(by rw[Nv,<-r1.length,<-h1.length]);have z2:its'.toArray.size=ys.length:=(by rw[Nv,<-r2.length,<-h2.length]);have er:=dL xs ys;by_cases hz:its.toArray.size=its'.toArray.size
   ·have q:=RcNeAt.lists (e:=t6 xs ys) t1 t2 hz hu (lT (A:=A.in1) I (by first|rw[<-df];exact pa|rw[<-cZ];exact pa) (by first|rw[<-df];exact pb|rw[<-cZ];exact pb) hd h1 h2 r1 r2 (by rw[in1_units];omega));rw[z1]at q;have hz':xs.length=ys.length:=(by omega);rw[<-hz',Of]at er;simp only[beq_self_eq_true,Og]at er;rw[er]at q;unfold pyEq;exact q
   ·have q:=RcNeAt.lists_lengths (A:=A) t1 t2 (by simpa using hz) hu;have hz':(xs.length==ys.length)=false:=by
     rw[z1,z2]at hz
     simpa using hz
    rw[hz',Oh]at er;unfold pyEq;rw[<-er];exact q
end
section
variable{X:Cx}
noncomputable def rD(K:Pn)(g:D->D->aY):R2:=λx y H Q=>∃O a b d,cY H O/\bJ K (hid H O) a x/\bJ K (hid H O) b y/\g a b=some d/\∀v H',aP H H'->bJ K (hid H' O) d v->Q v H'
theorem b6{K:Pn}{g:D->D->aY}:cJ K (rD K g) g:=λa b d x y O H Q hO hg ha hb q=>⟨O,a,b,d,hO,ha,hb,hg,q⟩
theorem nw{f : QM -> QM -> Sem QM}{g : D -> D -> aY}(h : ∀ (pins : aM) (s : QR) (σ : St) (H : Hp) (a b d : D) (x y : V) (u v : QM), Inv X pins σ H s -> bJ X.K H a x -> bJ X.K H b y -> RelV x u -> RelV y v -> g a b = some d ->
      ∃c,d=.bl c/\∀(Q:aW),Q (.bool c) s->Rc (model X.prog X.w) X.A (f u v) Q X.xe s):ib X f (rD X.K g):=by
  rintro pins s σ H x y u v Q I rx ry ⟨O,a,b,d,hO,ha,hb,hg,q⟩;obtain⟨c,rfl,hq⟩:=h pins s σ H a b d x y u v I (ha.mono (ax H O)) (hb.mono (ax H O)) rx ry hg;exact hq _ ⟨.bl c,H,I,rfl,q _ H (aP.refl H) (gF.mpr rfl)⟩
noncomputable def lL(a b:D):aY:=if(pl a&&pl b)&&(dD 8 a||dD 8 b)then some (.bl (pyEq a b))else none
noncomputable def qa(a b:D):aY:=if(pl a&&pl b)&&(dD 8 a||dD 8 b)then some (.bl (!pyEq a b))else none
theorem zj(hu:X.A.units+64<RG):ib X (Rj .Eq) (rD X.K lL):=nw λpins s σ H a b d x y u v I ha hb ru rv hg=>by
 obtain⟨h1,h2⟩:=bb hg;subst h2;rw[NU,NU,Oi]at h1;exact⟨_,rfl,λQ q=>Fz (n:=7) (A:=X.A) I h1.1.1 h1.1.2 h1.2 ha hb ru rv ‹0› X.prog X.w X.xe Q q⟩
theorem yM(hu:X.A.units+64<RG):ib X (Rj .NotEq) (rD X.K qa):=nw λpins s σ H a b d x y u v I ha hb ru rv hg=>by
 obtain⟨h1,h2⟩:=bb hg;subst h2;rw[NU,NU,Oi]at h1;exact⟨_,rfl,λQ q=>A7 (n:=7) (A:=X.A) I h1.1.1 h1.1.2 h1.2 ha hb ru rv ‹0› X.prog X.w X.xe Q q⟩
noncomputable def inD(x:D)(ys:List D):Bool:=ys.any λy=>pyEq y x
noncomputable def tX(x y:D):aY:=match y with
 |.tup ys=>if(pl x&&lh ys)&&dD 8 x then some (.bl (inD x ys))else none
 |.lst ys=>if(pl x&&lh ys)&&dD 8 x then some (.bl (inD x ys))else none
 |_=>none
open Classical in
theorem Ej{pins:aM}{σ:St}{H:Hp}{s:QR}(I:Inv X pins σ H s){xd:D}{x:V}{u:QM}{A:QZ}(px:pl xd=true)(hd:dD 8 xd=true)(hx:bJ X.K H xd x)(ru:RelV x u)(hA:A.units+8<RG){ys:List D}{vs:aH}{its:aS}(py:lh ys=true)(hy:aG X.K H ys vs)(rv:Vals vs its):
  ∃e:QM->Bool,(∀y,y∈its.toArray->EqAt A s y u (e y))/\its.toArray.any e=inD xd ys:=by
 let e:QM->Bool:=λy=>decide (∃d w,pl d=true/\bJ X.K H d w/\RelV w y/\pyEq d xd=true)
 have he:∀d w y,pl d=true->bJ X.K H d w->RelV w y->e y=pyEq d xd:=λd w y h0 h1 h2=>by
  cases hq:pyEq d xd with
  |true=>exact decide_eq_true ⟨d,w,h0,h1,h2,hq⟩
  |false=>
   refine decide_eq_false ?_;rintro⟨d',w',g0,g1,g2,g3⟩;have ew:=RelV.inj h2 g2;subst ew;rw[Inv.den_inj I h0 g0 h1 g1,g3]at hq;cases hq
 refine⟨e,λy hy'=>?_,?_⟩
 ·have hm:y∈its:=by simpa using hy'
  obtain⟨j,hj,rfl⟩:=Oj hm;obtain⟨w,e1,r1⟩:=iY rv (j:=j) (by simpa using hj);obtain⟨d,f1,g1⟩:=jf hy e1;have r1':RelV w its[j]:=by simpa using r1
  have pd:=fK py _ (NQ f1);rw[he d w _ pd g1 r1'];exact uA I 8 d xd w x _ u A pd px (.inr hd) g1 hx r1' ru hA
 ·unfold inD;have go:∀(ys:List D)(vs:aH)(its:aS),lh ys=true->aG X.K H ys vs->Vals vs its->its.any e=ys.any λy=>pyEq y xd:=by
   intro ys
   induction ys with
   |nil=>
    intro vs its py h r;rw[bB]at h;subst h;cases r;rfl
   |cons y ys ih=>
    intro vs its py h r;unfold lh at py;rw[NU]at py;rw[aI]at h;obtain⟨v,r',e1,h1,h2⟩:=h;subst e1;cases r with
    |cons q1 q2=>rw[NZ,NZ,he y v _ py.1 h1 q1,ih _ _ py.2 h2 q2]
  rw[List.any_toArray];exact go ys vs its py hy rv
theorem AD(hu:X.A.units+64<RG):ib X (Rj .In) (rD X.K tX):=nw λpins s σ H a b d x y u v I ha hb ru rv hg=>by
 cases b with
 |tup ys=>
  obtain⟨h1,h2⟩:=bb hg;subst h2;rw[NU,NU]at h1;rw[bQ]at hb;obtain⟨p,vs,e,g1,g2⟩:=hb;subst e;cases rv;obtain⟨its,r,t,_⟩:=I.tuple (lu.of g1);obtain⟨e,he,ea⟩:=Ej (A:=X.A.in1) I h1.1.1 h1.2 ha ru (by rw[in1_units];omega) h1.1.2 g2 r;exact⟨_,rfl,λQ q=>SeqAt.in_tupleAt e (show s.heap.IsTuple p its.toArray from t) he (by rw[ea];exact q)⟩
 |lst ys=>
  obtain⟨h1,h2⟩:=bb hg;subst h2;rw[NU,NU]at h1;rw[bP]at hb;obtain⟨p,vs,e,g1,g2⟩:=hb;subst e;cases rv;obtain⟨its,r,t,_⟩:=I.list g1;obtain⟨e,he,ea⟩:=Ej (A:=X.A.in1) I h1.1.1 h1.2 ha ru (by rw[in1_units];omega) h1.1.2 g2 r;exact⟨_,rfl,λQ q=>SeqAt.in_listAt e t.isList he (by rw[ea];exact q)⟩
 |_=>cases hg
noncomputable def GW(p:Int->Int->D)(a b:D):aY:=match a,b with
 |.int i,.int j=>some (p i j)
 |_,_=>none
noncomputable def M1:=GW λi j=>.bl (decide (i<j))
noncomputable def Bq:=GW λi j=>.bl (decide (i<=j))
noncomputable def HM:=GW λi j=>.bl (decide (j<i))
noncomputable def M8:=GW λi j=>.bl (decide (j<=i))
theorem dB{K:Pn}{g:Int->Int->Bool}:cJ K (Bo λi j=>.bl (g i j)) (GW λi j=>.bl (g i j)):=λa b d x y O H Q hO hg ha hb q=>by
 cases a with
 |int i=>
  cases b with
  |int j=>cases hg;exact⟨i,j,eQ.mp ha,eQ.mp hb,q _ H (aP.refl H) (gF.mpr rfl)⟩
  |_=>cases hg
 |_=>cases hg
theorem uK{K:Pn}{g:Int->Int->Int}:cJ K (Bo λi j=>.int (g i j)) (GW λi j=>.int (g i j)):=λa b d x y O H Q hO hg ha hb q=>by
 cases a with
 |int i=>
  cases b with
  |int j=>cases hg;exact⟨i,j,eQ.mp ha,eQ.mp hb,q _ H (aP.refl H) (eQ.mpr rfl)⟩
  |_=>cases hg
 |_=>cases hg
noncomputable def G3(c:Int->Int->Bool)(p:Int->Int->Int)(a b:D):aY:=match a,b with
 |.int i,.int j=>if c i j then some (.int (p i j))else none
 |_,_=>none
theorem iU{K:Pn}{C:Int->Int->Prop}{c:Int->Int->Bool}{g:Int->Int->Int}(hc:∀i j,c i j=true->C i j):cJ K (rI C λi j=>.int (g i j)) (G3 c g):=λa b d x y O H Q hO hg ha hb q=>by
 cases a with
 |int i=>
  cases b with
  |int j=>
   obtain⟨h1,h2⟩:=bb hg;subst h2;exact⟨i,j,eQ.mp ha,eQ.mp hb,hc i j h1,q _ H (aP.refl H) (eQ.mpr rfl)⟩
  |_=>cases hg
 |_=>cases hg
noncomputable def DB:=GW λi j=>.int (i-j)
noncomputable def kJ:=G3 (λi j=>decide ((-(2^64)<i/\i<2^64)\/(-(2^64)<j/\j<2^64))) (·*·)
noncomputable def DQ(_ j:Int):Prop:=0<j/\j<10^200
theorem Az:ib X (Ru .FloorDiv) (rI DQ λi j=>.int (i/j)):=IX λi j _ _ _ _ _ hc q=>by
 have h1:(0:Int)<j:=hc.1;have h2:j<10^200:=hc.2;refine PyProof.Rows.floordiv_int ‹0› (by rw[Int.fdiv_eq_ediv_of_nonneg i ‹0›];exact q) (.inl (PyProof.noPylong_of_log2 ?_));have h3:j.natAbs<10^200:=by omega
 rw[Nat.log2_lt ‹0›];exact N2 h3 (by decide +kernel)
noncomputable def rq:=G3 (λ_ j=>decide (0<j/\j<10^200)) (·/·)
noncomputable def gB:=G3 (λ_ j=>decide (0<j)) (·%·)
noncomputable def uk:=G3 (λi j=>decide (0<=j/\j<=1000000/\i.natAbs<2^64)) λi j=>i^j.toNat
theorem Gx{K:Pn}:cJ K (Bo λi j=>.int (i-j)) DB:=uK
theorem Gn{K:Pn}:cJ K (rI E8 λi j=>.int (i*j)) kJ:=iU λi j h=>by have q:=of_decide_eq_true h;exact q
theorem Fl{K:Pn}:cJ K (rI DQ λi j=>.int (i/j)) rq:=iU λi j h=>by have q:=of_decide_eq_true h;exact q
theorem FD{K:Pn}:cJ K (rI (λ_ j=>0<j) λi j=>.int (i%j)) gB:=iU λ_ _ h=>of_decide_eq_true h
theorem Ft{K:Pn}:cJ K (rI G2 λi j=>.int (i^j.toNat)) uk:=iU λi j h=>by have q:=of_decide_eq_true h;exact q
noncomputable def Hj(K:Pn):R2:=λx y H Q=>∃l b xs zs,x=.ref l/\y=.ref b/\ju K H l xs/\ju K H b zs/\xs.length+zs.length<=QW/\∀p,H p=none->Q (.ref p) (upd H p (.lst (xs++zs)))
theorem BO:ib X (Ru .Add) (Hj X.K):=by
 intro pins s σ H x y v u Q I rx ry h;obtain⟨l,b,xs,zs,rfl,rfl,hH,hB,hz,q⟩:=h;cases rx;cases ry;obtain⟨its,r,t1,_⟩:=I.list hH;obtain⟨its2,r2,t2,_⟩:=I.list hB;obtain⟨⟨c1,d1,dt1,sl1⟩,n1,ho,hc,hd,hdt⟩:=t1;obtain⟨⟨c2,d2,dt2,sl2⟩,n2,ho2,hc2,hd2,hdt2⟩:=t2;simp only at hc hd hdt hc2 hd2 hdt2;subst hc hd hdt hc2 hd2 hdt2;have z1:=r.length;have z2:=r2.length;refine RN ⟨_,ho,rfl⟩ ⟨_,ho2,rfl⟩ noFill_list_add seq_list_add F.slot_list_add F.entry_list_add (F.args_list_add_2 _ _) (PyProof.Rows.list_addW l b its.toArray its2.toArray n1 n2 none none sl1 sl2 (by rw[Nv,Nv];omega)) ⟨ho,ho2,?_⟩;have ea:its.toArray++its2.toArray=(its++its2).toArray:=by simp
 rw[ea];exact⟨.ref _,_,I.lnew (t':=s.toks) (r.append r2) (by rw[NR];omega),rfl,q _ I.fresh⟩
noncomputable def Ff(K:Pn):R2:=λx y H Q=>∃a b xs ys,x=.ref a/\y=.ref b/\lu K H a xs/\lu K H b ys/\xs.length+ys.length<=QW/\
 (xs=[]->Q (.ref b) H)/\(xs≠[]->ys=[]->Q (.ref a) H)/\(xs≠[]->ys≠[]->∀p,H p=none->Q (.ref p) (upd H p (.tup (xs++ys))))
theorem Bl:ib X (Ru .Add) (Ff X.K):=by
 intro pins s σ H x y v u Q I rx ry h;obtain⟨a,b,xs,ys,ex,ey,ha,hb,hz,q0,q1,q2⟩:=h;by_cases hx:xs=[]
 ·subst ex ey;cases rx;cases ry;obtain⟨its,r1,p1,_⟩:=I.tuple ha;obtain⟨its2,r2,p2,_⟩:=I.tuple hb;obtain⟨⟨cls,dd,data,sl⟩,ho,hc,n,hd⟩:=id p1;obtain⟨⟨cls2,dd2,data2,sl2⟩,ho2,hc2,n2,hd2⟩:=id p2;simp only at hc hd hc2 hd2;subst hc hd hc2 hd2;have e:its=[]:=r1.nil_iff.mpr hx;exact RN ⟨_,ho,rfl⟩ ⟨_,ho2,rfl⟩ RO RP F.slot_tuple_add F.entry_tuple_add (F.args_tuple_add_2 _ _)
   (PyProof.Rows.tuple_addW0 a b its.toArray its2.toArray n n2 dd dd2 sl sl2 (by rw[e];rfl)) ⟨ho,ho2,⟨.ref b,H,I,rfl,q0 hx⟩⟩
 ·exact CT pins s σ H x y v u Q I rx ry ⟨a,b,xs,ys,ex,ey,ha,hb,hx,hz,q1 hx,q2 hx⟩
noncomputable def bN(a b:D):aY:=match a,b with
 |.int i,.int j=>some (.int (i+j))
 |.str x,.str y=>if small (x.length+y.length)then some (.str (x++y))else none
 |.lst xs,.lst ys=>if small (xs.length+ys.length)then some (.lst (xs++ys))else none
 |.tup xs,.tup ys=>if small (xs.length+ys.length)then some (.tup (xs++ys))else none
 |_,_=>none
theorem DE:ib X (Ru .Add) (rD X.K bN):=by
 rintro pins s σ H x y u v Q I rx ry ⟨O,a,b,d,hO,ha,hb,hg,q⟩;cases a with
 |int i=>
  cases b with
  |int j=>
   cases hg;exact Fk pins s σ H x y u v Q I rx ry ⟨i,j,eQ.mp ha,eQ.mp hb,q _ H (aP.refl H) (eQ.mpr rfl)⟩
  |_=>cases hg
 |str i=>
  cases b with
  |str j=>
   obtain⟨h1,h2⟩:=bb hg;subst h2;exact uY pins s σ H x y u v Q I rx ry ⟨i,j,dW.mp ha,dW.mp hb,b8 h1,q _ H (aP.refl H) (dW.mpr rfl)⟩
  |_=>cases hg
 |lst xs=>
  cases b with
  |lst ys=>
   obtain⟨h1,h2⟩:=bb hg;subst h2;rw[bP]at ha hb;obtain⟨p,vs,ex,g1,g2⟩:=ha;obtain⟨p',vs',ey,g1',g2'⟩:=hb;refine BO pins s σ H x y u v Q I rx ry ⟨p,p',vs,vs',ex,ey,(ax H O).seq g1,(ax H O).seq g1',?_,λr hr=>?_⟩
   ·rw[<-g2.length,<-g2'.length];exact b8 h1
   ·exact q _ _ (bV hr _) (iH hO hr (g2.append g2'))
  |_=>cases hg
 |tup xs=>
  cases b with
  |tup ys=>
   obtain⟨h1,h2⟩:=bb hg;subst h2;have da:=ha;have db:=hb;rw[bQ]at ha hb;obtain⟨p,vs,ex,g1,g2⟩:=ha;obtain⟨p',vs',ey,g1',g2'⟩:=hb;have l1:=g2.length;have l2:=g2'.length;refine Bl pins s σ H x y u v Q I rx ry ⟨p,p',vs,vs',ex,ey,bL (ax H O) g1,bL (ax H O) g1',?_,λz=>?_,λz z'=>?_,λz z' r hr=>?_⟩
   ·rw[<-l1,<-l2];exact b8 h1
   ·have e:xs=[]:=List.length_eq_zero_iff.mp (by rw[l1,z];rfl);rw[<-ey];refine q _ H (aP.refl H) ?_;rw[e,Ol];exact db
   ·have e:ys=[]:=List.length_eq_zero_iff.mp (by rw[l2,z'];rfl);rw[<-ex];refine q _ H (aP.refl H) ?_;rw[e,ND];exact da
   ·exact q _ _ (bV hr _) (dA hO hr (g2.append g2'))
  |_=>cases hg
 |_=>cases hg
noncomputable def ap(a b:D):aY:=match a,b with
 |.tup xs,.int i=>kD xs i
 |.lst xs,.int i=>kD xs i
 |.str x,.int i=>if small x.length then(kD x.cps.toList i).bind λc=>some (.str ⟨#[c]⟩)else none
 |_,_=>none
theorem vT{K:Pn}{H:Hp}{ds:List D}{vs:aH}{i:Int}{d:D}(h:aG K H ds vs)(e:kD ds i=some d):∃v,kD vs i=some v/\bJ K H d v:=by
 unfold kD at e ⊢;obtain⟨j,e1,e2⟩:=bind_some e;rw[<-h.length,e1];exact h.get e2
theorem KN:HI X (rD X.K ap):=by
 rintro value slice pins s σ H x y u v Q I rx ry ⟨O,a,b,d,hO,ha,hb,hg,q⟩ hsub;cases a with
 |tup xs=>
  cases b with
  |int i=>
   rw[bQ]at ha;obtain⟨p,vs,ex,g1,g2⟩:=ha;obtain⟨w,e1,e2⟩:=vT g2 hg;refine FJ value slice pins s σ H x y u v Q I rx ry ?_ hsub;exact⟨p,vs,i,w,ex,eQ.mp hb,bL (ax H O) g1,e1,q w H (aP.refl H) e2⟩
  |_=>cases hg
 |lst xs=>
  cases b with
  |int i=>
   rw[bP]at ha;obtain⟨p,vs,ex,g1,g2⟩:=ha;obtain⟨w,e1,e2⟩:=vT g2 hg;refine C3 value slice pins s σ H x y u v Q I rx ry ?_ hsub;exact⟨p,vs,i,w,ex,eQ.mp hb,(ax H O).seq g1,e1,q w H (aP.refl H) e2⟩
  |_=>cases hg
 |str z=>
  cases b with
  |int i=>
   have hg':(if small z.length then(kD z.cps.toList i).bind λc=>some (D.str ⟨#[c]⟩)else none)=some d:=hg;cases hs:small z.length with
   |false=>rw[hs]at hg';cases hg'
   |true=>
    rw[hs]at hg';obtain⟨c,e1,e2⟩:=bind_some hg';cases e2;refine FH value slice pins s σ H x y u v Q I rx ry ?_ hsub;exact⟨z,i,c,dW.mp ha,eQ.mp hb,b8 hs,e1,q _ H (aP.refl H) (dW.mpr rfl)⟩
  |_=>cases hg
 |_=>cases hg
noncomputable def cutD{α:Type}(xs:List α)(lo hi:cA):List α:=(xs.drop (HT.sIx xs.length 0 lo)).take (HT.sIx xs.length xs.length hi-HT.sIx xs.length 0 lo)
theorem tM{α:Type}(xs:List α)(lo hi:cA):(cutD xs lo hi).length<=xs.length:=by
 unfold cutD;rw[NI,NT];omega
theorem oo{M:Rb}{A:QZ}{E:aW}{s:QR}{t:QO}{items:Array QM}{Q:Bool->eI}(ht:QA s.heap t items)(h:Q true s):Rc M A (Builtin.Tuple.tupleIsExact (.ref t)) Q E s:=by
 unfold Builtin.Tuple.tupleIsExact;refine Rq (RX ht.typeIs ?_);exact Rp h
theorem jk{prog:QT}{w:QS}{A:QZ}{E:aW}{s:QR}{t sl:QO}{items:Array QM}{vl vu:QM}{lo hi:cA}{Q:aW}(ht:QA s.heap t items)(hs:s.heap.IsSliceOf sl vl vu .none)(pl:RQ vl lo)(pu:RQ vu hi)
  (hw:HT.sIx items.size 0 lo=0/\HT.sIx items.size items.size hi=items.size) (h:Q (.ref t) s):Rc (model prog w) A (getItem (.ref t) (.ref sl)) Q E s:=by
 obtain⟨os,hos,hcs,hds⟩:=id hs;have hTs:s.TypeIs (.ref sl) "slice":=⟨os,hos,hcs⟩
 unfold getItem
 try with_reducible refine RU ?_
 first|refine Rq (Rp ?_)|skip
 refine Rq (wpAny_sequenceKey ht.typeIs (by decide) ?_);refine Rq (RV (name:=Str.ofString "__getitem__") ht.typeIs Qy
  (RW Qy ht.typeIs PyProof.Rows.entry_tuple_getitem ?_ (PyProof.Rows.args_tuple_getitem _ _)))
 show Rc _ _ (Builtin.Tuple.tupleItemsOf (.ref t) >>= _) _ _ s;refine Rq (PyProof.Rows.tupleItemsOf_ ht ?_);refine Rq (RX hTs ?_);rw[if_pos (by decide)];refine Rq (HT.li hs pl pu ?_);have hyes:(((HT.sIx items.size 0 lo:Nat):Int)==0&&(1:Int)==1&&(HT.sIx items.size items.size hi-HT.sIx items.size 0 lo)==items.size)=true:=by
  rw[hw.1,hw.2];simp
 show Rc _ _ (if(((HT.sIx items.size 0 lo:Nat):Int)==0&&(1:Int)==1&&(HT.sIx items.size items.size hi-HT.sIx items.size 0 lo)==items.size)=true then _ else _) _ _ s;rw[if_pos hyes];refine Rq (oo ht ?_);rw[if_pos rfl]
 first
  |exact Rq (R4 (Rp ⟨_,rfl,Rp h⟩))
  |exact Rq (R4 (Rq (Rp (Rp ⟨_,rfl,Rp h⟩))))
noncomputable def nB(a:D)(lo hi:cA):aY:=match a with
 |.lst xs=>some (.lst (cutD xs lo hi))
 |.tup xs=>some (.tup (cutD xs lo hi))
 |.str x=>if small x.length then some (.str ⟨(cutD x.cps.toList lo hi).toArray⟩)else none
 |_=>none
theorem D5(v:cA)(d n:Nat)(hd:d<=n):(match v with|none=>(d:Int)|some i=>if(1:Int)>0 then max 0 (min (if i<0 then i+(n:Int)else i) (n:Int))else max (-1) (min (if i<0 then i+(n:Int)else i) ((n:Int)-1)))=((HT.sIx n d v:Nat):Int):=by
 cases v with
 |none=>rfl
 |some i=>
  show(if(1:Int)>0 then max 0 (min (if i<0 then i+(n:Int)else i) (n:Int))else max (-1) (min (if i<0 then i+(n:Int)else i) ((n:Int)-1)))=(((if i<0 then(i+(n:Int)).toNat else min i.toNat n):Nat):Int)
  rw[if_pos (by decide)];by_cases h:i<0
  ·rw[if_pos h,if_pos h];omega
  ·rw[if_neg h,if_neg h];omega
theorem za(lo hi:cA)(n:Nat):Builtin.Str.strSliceIndices lo hi 1 n=(List.range (HT.sIx n n hi-HT.sIx n 0 lo)).map λk=>HT.sIx n 0 lo+k:=by
 have e1:=D5 lo 0 n (NC _);have e2:=D5 hi n n (Nt _);have e:Builtin.Str.strSliceIndices lo hi 1 n=sliceRange ((HT.sIx n 0 lo:Nat):Int) ((HT.sIx n n hi:Nat):Int) 1:=by
  rw[<-e1,<-e2];cases lo<;>cases hi<;>rfl
 rw[e];unfold sliceRange;dsimp only;rw[if_pos (by decide:(1:Int)>0)];have e3:(if((HT.sIx n 0 lo:Nat):Int)<((HT.sIx n n hi:Nat):Int)then(((HT.sIx n n hi:Nat):Int)-((HT.sIx n 0 lo:Nat):Int)+1-1)/1 else 0:Int).toNat=HT.sIx n n hi-HT.sIx n 0 lo:=by
  rw[Int.ediv_one];split<;>omega
 rw[e3];refine Om λk _=>?_;omega
theorem y8{α:Type}(l:List α)(a:Nat):∀n:Nat,((List.range n).map λk=>a+k).filterMap (λi=>l[i]?)=(l.drop a).take n
 |0=>by simp
 |n+1=>by
  rw[List.range_succ,Oo,List.filterMap_append,y8 l a n,List.take_add_one,List.getElem?_drop];cases e:l[a+n]?<;>simp[e]
theorem yq(x:Str)(lo hi:cA):Txt.slice x lo hi=⟨(cutD x.cps.toList lo hi).toArray⟩:=by
 have hl:x.cps.toList.length=x.length:=by simp[Str.length]
 have pick:(Builtin.Str.strSliceIndices lo hi 1 x.length).filterMap (x.cps[·]?)=cutD x.cps.toList lo hi:=by
  rw[za];have q:=y8 x.cps.toList (HT.sIx x.length 0 lo) (HT.sIx x.length x.length hi-HT.sIx x.length 0 lo);unfold cutD;rw[hl,<-q];congr 1;funext i;simp
 unfold Txt.slice;split
 ·rename_i h;have h':(Builtin.Str.strSliceIndices lo hi 1 x.length).length=x.length:=by simpa using h
  rw[za,Ny,Oq]at h';have h1:=HT.FP x.length x.length (Nt _) hi;have z1:HT.sIx x.length 0 lo=0\/x.length=0:=by omega
  have e:cutD x.cps.toList lo hi=x.cps.toList:=by
   unfold cutD;rw[hl,h'];rcases z1 with z1|z1
   ·rw[z1,N9,<-hl,List.take_length]
   ·have:x.cps.toList=[]:=List.length_eq_zero_iff.mp (by rw[hl];exact z1)
    rw[this];simp
  rw[e]
 ·rw[pick]
noncomputable def KQ(K:Pn):V->cA->cA->Hp->VK->Prop:=λx lo hi H Q=>∃O a d,cY H O/\bJ K (hid H O) a x/\nB a lo hi=some d/\∀v H',aP H H'->bJ K (hid H' O) d v->Q v H'
theorem aG.cut{K:Pn}{H:Hp}{ds:List D}{vs:aH}(h:aG K H ds vs)(lo hi:cA):aG K H (cutD ds lo hi) (sf vs lo hi):=by
 unfold cutD sf;rw[h.length];exact(h.drop _).take _
theorem KC:IR X (KQ X.K):=by
 rintro pins s σ H x v vl vu lo hi sl Q I rx hs pl pu ⟨O,a,d,hO,ha,hg,q⟩;cases a with
 |lst xs=>
  cases hg;rw[bP]at ha;obtain⟨p,vs,ex,g1,g2⟩:=ha;exact CM pins s σ H x v vl vu lo hi sl Q I rx hs pl pu ⟨p,vs,ex,(ax H O).seq g1,λr hr=>q _ _ (bV hr _) (iH hO hr (g2.cut lo hi))⟩
 |tup xs=>
  cases hg;have da:=ha;rw[bQ]at ha;obtain⟨p,vs,ex,g1,g2⟩:=ha;by_cases hw:HT.sIx vs.length 0 lo=0/\HT.sIx vs.length vs.length hi=vs.length
  ·subst ex;cases rx;obtain⟨its,r,ht,hz⟩:=I.tuple (bL (ax H O) g1);have hlen:its.toArray.size=vs.length:=(by rw[Nv];exact r.length.symm);refine⟨"tuple",_,PyProof.Rows.slot_tuple_getitem.lookup,ht.typeIs,jk ht hs pl pu (by rw[hlen];exact hw) ⟨.ref p,H,I,rfl,q _ H (aP.refl H) ?_⟩⟩;have e:cutD xs lo hi=xs:=by
    unfold cutD;rw[g2.length,hw.1,hw.2,Ot,N9,<-g2.length,List.take_length]
   rw[e];exact da
  ·exact FL pins s σ H x v vl vu lo hi sl Q I rx hs pl pu ⟨p,vs,ex,bL (ax H O) g1,hw,λr hr=>q _ _ (bV hr _) (dA hO hr (g2.cut lo hi))⟩
 |str z=>
  obtain⟨h1,h2⟩:=bb hg;subst h2;rw[dW]at ha;subst ha;obtain⟨t,rfl⟩:=rx;have fin:∀t' tk,EP X pins σ Q (.str (Txt.slice z lo hi) t') {s with toks:=tk}:=λt' tk=>by
   rw[yq];exact⟨.str _,H,I.tok _,⟨_,rfl⟩,q _ H (aP.refl H) (dW.mpr rfl)⟩
  obtain⟨os,hos,hcs,hds⟩:=id hs;have hz:=b8 h1;refine⟨"str",_,F.slot_str_getitem.lookup,typeIs_str _ _ _,?_⟩;cases pl with
  |none=>
   cases pu with
   |none=>exact R5 (l:=none) (u:=none) (st:=none) ⟨os,hos,hcs,hds⟩ rfl (R6 ⟨Nf (Txt.slice_le z _ _) hz,λt' k=>fin t' k⟩)
   |int j tj=>exact R5 (l:=none) (u:=some (j,tj)) (st:=none) ⟨os,hos,hcs,hds⟩ rfl (R6 ⟨Nf (Txt.slice_le z _ _) hz,λt' k=>fin t' k⟩)
  |int i ti=>
   cases pu with
   |none=>exact R5 (l:=some (i,ti)) (u:=none) (st:=none) ⟨os,hos,hcs,hds⟩ rfl (R6 ⟨Nf (Txt.slice_le z _ _) hz,λt' k=>fin t' k⟩)
   |int j tj=>exact R5 (l:=some (i,ti)) (u:=some (j,tj)) (st:=none) ⟨os,hos,hcs,hds⟩ rfl (R6 ⟨Nf (Txt.slice_le z _ _) hz,λt' k=>fin t' k⟩)
 |_=>cases hg
noncomputable def bR:ao->R (cA):=λ_=>.ok none
noncomputable def uF:D->Option (cA)
 |.int i=>some (some i)
 |_=>none
noncomputable def cO(f:FX):ao->R (cA):=λρ=>(f ρ).bind λd=>rO (uF d)
noncomputable def MD(X:Cx)(F:ao->R cA):TO:=λσ H Q=>∃O ρ,cM X.K O H ρ σ/\dJ X σ O H (F ρ) λo=>∀H',aP H H'->Q o H'
noncomputable def FO(X:Cx)(e:Option QP)(F:ao->R cA):Prop:=PO X e (MD X F)
noncomputable def cj(f:FX)(l h:ao->R cA):FX:=λρ=>(f ρ).bind λa=>(l ρ).bind λlo=>(h ρ).bind λhi=>rO (nB a lo hi)
end
end TG
namespace TG
open PySem PySem.Spec L2
variable[aw]
noncomputable def Au(K:Pn)(g:List D->aY):aH->Hp->VK->Prop:=λxs H Q=>∃O ds d,cY H O/\aG K (hid H O) ds xs/\g ds=some d/\∀v H',aP H H'->bJ K (hid H' O) d v->Q v H'
theorem n9{K:Pn}{g:List D->aY}:vv K (Au K g) g:=λds d xs O H Q hO hg hd q=>⟨O,ds,d,hO,hd,hg,q⟩
section
variable{X:Cx}{x:Str}{p pos:Pos}{e:QP}{es:aR}{id T:String}{g:List D->aY}{f:aQ}
noncomputable def fg:List D->aY
 |[.lst xs]=>some (.int xs.length)
 |[.tup xs]=>some (.int xs.length)
 |[.str x]=>if small x.length then some (.int x.length)else none
 |_=>none
theorem xZ:dh X (.builtin "len") (Au X.K fg):=by
 rintro pins s σ H xs us Q I r ⟨O,ds,d,hO,hd,hg,q⟩;unfold fg at hg;split at hg
 ·rename_i ys;cases hg;obtain⟨v,ev,h1⟩:=hd.one;rw[bP]at h1;obtain⟨p,vs,ep,g1,g2⟩:=h1;exact kx pins s σ H xs us Q I r ⟨p,vs,by rw[ev,ep],.inl ((ax H O).seq g1),q _ H (aP.refl H) (eQ.mpr (by rw[g2.length]))⟩
 ·rename_i ys;cases hg;obtain⟨v,ev,h1⟩:=hd.one;rw[bQ]at h1;obtain⟨p,vs,ep,g1,g2⟩:=h1;exact kx pins s σ H xs us Q I r ⟨p,vs,by rw[ev,ep],.inr (bL (ax H O) g1),q _ H (aP.refl H) (eQ.mpr (by rw[g2.length]))⟩
 ·rename_i z;obtain⟨h1,h2⟩:=bb hg;subst h2;obtain⟨v,ev,h1'⟩:=hd.one;exact rE pins s σ H xs us Q I r ⟨z,by rw[ev,dW.mp h1'],b8 h1,q _ H (aP.refl H) (eQ.mpr rfl)⟩
 ·cases hg
noncomputable def eG:List D->aY
 |[.lst xs]=>some (.tup xs)
 |[.tup xs]=>some (.tup xs)
 |_=>none
theorem tO:dh X (.type "tuple") (Au X.K eG):=by
 rintro pins s σ H xs us Q I r ⟨O,ds,d,hO,hd,hg,q⟩;unfold eG at hg;split at hg
 ·rename_i ys;cases hg;obtain⟨v,ev,h1⟩:=hd.one;rw[bP]at h1;obtain⟨p,vs,ep,g1,g2⟩:=h1;exact jr pins s σ H xs us Q I r ⟨p,vs,by rw[ev,ep],.inl ⟨(ax H O).seq g1,λl hl=>q _ _ (bV hl _) (dA hO hl g2)⟩⟩
 ·rename_i ys;cases hg;obtain⟨v,ev,h1⟩:=hd.one;have h0:=h1;rw[bQ]at h1;obtain⟨p,vs,ep,g1,g2⟩:=h1;rw[ep]at h0;exact jr pins s σ H xs us Q I r ⟨p,vs,by rw[ev,ep],.inr ⟨bL (ax H O) g1,q _ H (aP.refl H) h0⟩⟩
 ·cases hg
noncomputable def tH:List D->aY
 |[.int i,.int j]=>some (.int (if j>i then j else i))
 |_=>none
noncomputable def sM:List D->aY
 |[.int i,.int j]=>some (.int (if j<i then j else i))
 |_=>none
theorem u6(hc:X.calm=true):dh X (.builtin "max") (Au X.K tH):=by
 rintro pins s σ H xs us Q I r ⟨O,ds,d,hO,hd,hg,q⟩;unfold tH at hg;split at hg
 ·rename_i i j;cases hg;obtain⟨v,w,ev,h1,h2⟩:=hd.two;exact xJ hc pins s σ H xs us Q I r ⟨i,j,by rw[ev,eQ.mp h1,eQ.mp h2],q _ H (aP.refl H) (eQ.mpr rfl)⟩
 ·cases hg
theorem uE(hc:X.calm=true):dh X (.builtin "min") (Au X.K sM):=by
 rintro pins s σ H xs us Q I r ⟨O,ds,d,hO,hd,hg,q⟩;unfold sM at hg;split at hg
 ·rename_i i j;cases hg;obtain⟨v,w,ev,h1,h2⟩:=hd.two;exact x0 hc pins s σ H xs us Q I r ⟨i,j,by rw[ev,eQ.mp h1,eQ.mp h2],q _ H (aP.refl H) (eQ.mpr rfl)⟩
 ·cases hg
noncomputable def FU:D->String
 |.non=>"NoneType"
 |.bl _=>"bool"
 |.int _=>"int"
 |.str _=>"str"
 |.tup _=>"tuple"
 |.lst _=>"list"
 |.dct _ _=>"dict"
 |_=>""
noncomputable def BP(T:String)(d:D):Bool:=match d with
 |.bl _=>T=="bool"||T=="int"
 |.non=>T=="NoneType"
 |.int _=>T=="int"
 |.str _=>T=="str"
 |.tup _=>T=="tuple"
 |.lst _=>T=="list"
 |.dct _ _=>T=="dict"
 |_=>false
noncomputable def tZ(K:Pn)(T:String):Prop:=∀d:D,top d=true->P5 K (.type (FU d)) (.type T)=some (BP T d)
noncomputable def Kg(K:Pn)(T:String):aH->Hp->VK->Prop:=λxs H Q=>∃O x d,xs=[x,.ty T]/\top d=true/\bJ K (hid H O) d x/\Q (.bl (BP T d)) H
theorem zc(ok:tZ X.K T):dh X (.builtin "isinstance") (Kg X.K T):=by
 rintro pins s σ H xs us Q I r ⟨O,x,d,ex,td,hd,q⟩;subst ex;obtain⟨u,w',rfl,rx,rt⟩:=vals2 r;cases rt;have e:=ok d td;have fin:∀tk,EP X pins σ Q (.bool (BP T d)) {s with toks:=tk}:=λtk=>⟨.bl _,H,I.tok _,rfl,q⟩
 cases dr I td (hd.mono (ax H O)) rx with
 |non=>exact P6 PySem.W.kitx_none I.kIn True.intro e (λz=>nomatch z) fin
 |bl b=>exact P6 PySem.W.kitx_bool I.kIn True.intro e (λz=>nomatch z) fin
 |int i t=>exact P6 PySem.W.kitx_int I.kIn True.intro e (λz=>nomatch z) fin
 |str y t=>exact P6 PySem.W.kitx_str I.kIn True.intro e (λz=>nomatch z) fin
 |tup h rv t=>
  obtain⟨o,h1,h2,_⟩:=t;exact P6 PySem.W.kitx_tuple I.kIn ⟨o,h1,h2⟩ e (λz=>nomatch z) fin
 |lst h rv t=>
  obtain⟨o,h1,h2,_⟩:=t;exact P6 PySem.W.kitx_list I.kIn ⟨o,h1,h2⟩ e (λz=>nomatch z) fin
theorem iF:QY "isinstance"=some (.builtin "isinstance"):=by first|rfl|decide +kernel
noncomputable def BD(T:String)(d:D):aY:=if top d then some (.bl (BP T d))else none
noncomputable def nU(T:String)(f:FX):FX:=f1 (BD T) f
end
section
variable{X:Cx}{a:QP}{f:FX}{pos:Pos}
noncomputable def isNon:D->Bool
 |.non=>true
 |_=>false
theorem p6{K:Pn}{H:Hp}{d:D}{v:V}(h:bJ K H d v):decide (v=.non)=isNon d:=by
 cases d with
 |non=>rw[gC.mp h];rfl
 |bl b=>rw[gF.mp h];rfl
 |int i=>rw[eQ.mp h];rfl
 |str x=>rw[dW.mp h];rfl
 |tup xs=>obtain⟨_,_,e,_⟩:=bQ.mp h;rw[e];rfl
 |lst xs=>obtain⟨_,_,e,_⟩:=bP.mp h;rw[e];rfl
 |dct _ _=>obtain⟨_,_,e,_⟩:=IJ.mp h;rw[e];rfl
 |obj _ _ _=>obtain⟨_,_,e,_⟩:=Jg.mp h;rw[e];rfl
 |exc _ _ _=>obtain⟨_,_,e,_⟩:=IY.mp h;rw[e];rfl
noncomputable def K8(d:D):aY:=some (.bl (isNon d))
noncomputable def Hl(d:D):aY:=some (.bl (!isNon d))
noncomputable def oO(f:FX):FX:=f1 K8 f
noncomputable def lI(f:FX):FX:=f1 Hl f
theorem vQ:∀σ H Q,tF X (oO f) σ H Q->tF X f σ H λv H'=>Q (.bl (decide (v=.non))) H':=λσ H Q ⟨O,ρ,E,hF⟩=>⟨O,ρ,E,(dJ.bind hF).imp λa hF v H1 s1 d1=>by
 obtain⟨d,e,q⟩:=dJ.rO hF;cases e;rw[p6 d1];exact q _ H1 s1 (gF.mpr rfl)⟩
theorem tJ:∀σ H Q,tF X (lI f) σ H Q->tF X f σ H λv H'=>Q (.bl (!decide (v=.non))) H':=λσ H Q ⟨O,ρ,E,hF⟩=>⟨O,ρ,E,(dJ.bind hF).imp λa hF v H1 s1 d1=>by
 obtain⟨d,e,q⟩:=dJ.rO hF;cases e;rw[p6 d1];exact q _ H1 s1 (gF.mpr rfl)⟩
end
noncomputable def Walk(K:Pn)(Hd:Hp)(J:It)(ds:List D):Prop:=
 ∀(Hn:Hp)(O':aD)(i:Nat),cY Hn O'->aP Hd (hid Hn O')->(∀d,ds[i]?=some d->J.go i Hn/\∀x H2,J.yld i Hn x H2->aP Hn H2/\bJ K (hid H2 O') d x)/\(i=ds.length->J.stop i Hn)
noncomputable def Js(X:Cx)(G:aQ):TI:=λσ H RR=>∃O ρ,cM X.K O H ρ σ/\dJ X σ O H (G ρ) λds=>∀J H1,aP H H1->Walk X.K (hid H1 O) J ds->RR J H1
noncomputable def FI(X:Cx)(tg iter:QP)(G:aQ):Prop:=PI X tg iter (Js X G)
noncomputable def m9:D->Option (List D)
 |.lst xs=>some xs
 |.tup xs=>some xs
 |_=>none
noncomputable def bj(f:FX):aQ:=λρ=>(f ρ).bind λd=>rO (m9 d)
section
variable{X:Cx}{tg:QP}
theorem xh{K:Pn}{Hd:Hp}{a:QO}{ds:List D}{vs:aH}(h:ju K Hd a vs)(g:aG K Hd ds vs):Walk K Hd (J0 K a) ds:=λHn O' i hO s=>
  have s':aP Hd Hn:=s.trans (ax Hn O')
  ⟨fun d e=>by
    obtain⟨v,ev,dv⟩:=g.get e;refine⟨⟨vs,v,s'.seq h,ev⟩,λx H2 ⟨e2,y⟩=>?_⟩;have q:=y vs (s'.seq h);rw[ev]at q;cases q;subst e2;exact⟨aP.refl _,dv.mono s⟩,
   λhl=>⟨vs,s'.seq h,by rw[<-g.length];exact Nz hl.symm⟩⟩
theorem yJ{K:Pn}{Hd:Hp}{a:QO}{ds:List D}{vs:aH}(h:Hd a=some (.tup vs))(g:aG K Hd ds vs):Walk K Hd (Kz K a) ds:=λHn O' i hO s=>
  have s':aP Hd Hn:=s.trans (ax Hn O')
  ⟨fun d e=>by
    obtain⟨v,ev,dv⟩:=g.get e;refine⟨⟨vs,v,bL s' h,ev⟩,λx H2 ⟨e2,y⟩=>?_⟩;have q:=y vs (bL s' h);rw[ev]at q;cases q;subst e2;exact⟨aP.refl _,dv.mono s⟩,
   λhl=>⟨vs,bL s' h,by rw[<-g.length];exact Nz hl.symm⟩⟩
noncomputable def cD(lo:Int)(n:Nat):List D:=(List.range n).map λ(k:Nat)=>D.int (lo+(k:Int))
theorem oA(lo:Int)(n:Nat):(cD lo n).length=n:=by unfold cD;rw[Ny,Oq]
theorem uO{K:Pn}{Hd:Hp}(lo:Int)(n:Nat):Walk K Hd (IK lo n) (cD lo n):=λHn O' i hO s=>
  ⟨fun d e=>by
    unfold cD at e;rw[NP]at e;cases hi:(List.range n)[i]? with
    |none=>rw[hi]at e;cases e
    |some k=>
      rw[hi]at e;cases e;have hlt:i<n:=by
        have:=(List.getElem?_eq_some_iff.mp hi).1
        rwa [Oq]at this
      have ek:k=i:=by
        rw[Ou hlt]at hi;exact(Option.some.inj hi).symm
      subst ek;exact⟨hlt,λx H2 ⟨e1,e2⟩=>by subst e1;exact⟨aP.refl _,eQ.mpr e2⟩⟩,
   λhl=>by rw[oA]at hl;exact Nz hl.symm⟩
noncomputable def okR(j:Int):Bool:=decide (-(2^62)<=j/\j<2^62)
noncomputable def iZ:List D->Option (List D)
 |[.int j]=>if okR j then some (cD 0 j.toNat)else none
 |_=>none
noncomputable def vY:List D->Option (List D)
 |[.int i,.int j]=>if okR i&&okR j then some (cD i (j-i).toNat)else none
 |_=>none
noncomputable def dq(f:aQ):aQ:=λρ=>(f ρ).bind λds=>rO (iZ ds)
noncomputable def CN(f:aQ):aQ:=λρ=>(f ρ).bind λds=>rO (vY ds)
end
noncomputable abbrev GF:=D->ao->Option ao
noncomputable def IE(K:Pn)(g:GF):TG:=λv σ H Q=>∃O ρ d ρ',cM K O H ρ σ/\bJ K (hid H O) d v/\g d ρ=some ρ'/\∀σ',cM K O H ρ' σ'->(∀(i:Nat) x,ρ'[i]?=some (some x)->(∀d,x≠.val d)->σ'[i]?=σ[i]?/\ρ[i]?=some (some x))->Q σ' H
noncomputable def FG(X:Cx)(tg:QP)(g:GF):Prop:=PG X tg (IE X.K g)
noncomputable def setV(i:Nat)(d:D)(ρ:ao):ao:=ρ.set i (some (.val d))
theorem aT{α:Type}{l:List α}{i j:Nat}{a b:α}(h:(l.set i a)[j]?=some b):(j=i/\b=a)\/(j≠i/\l[j]?=some b):=by
 by_cases e:j=i
 ·subst e;left;have hj:j<(l.set j a).length:=(List.getElem?_eq_some_iff.mp h).1;rw[List.length_set]at hj;rw[Nn hj]at h;exact⟨rfl,(Option.some.inj h).symm⟩
 ·right;rw[Np (Ne.symm e)]at h;exact⟨e,h⟩
theorem cM.setV{K:Pn}{O:aD}{H:Hp}{ρ:ao}{σ:St}(E:cM K O H ρ σ){i:Nat}{d:D}{v:V}(hi:i<σ.length)(hd:bJ K (hid H O) d v):cM K O H (setV i d ρ) (σ.set i (some v)):=
  ⟨fun j d' e=>by
    rcases aT e with⟨hj,eq⟩|⟨ne,eq⟩
    ·cases eq;rw[hj];exact⟨v,Nn hi,hd⟩
    · obtain⟨w,e1,e2⟩:=E.val j d' eq
      exact⟨w,by rw[Np (Ne.symm ne)];exact e1,e2⟩,
   λj xs e=>by
    rcases aT e with⟨_,eq⟩|⟨ne,eq⟩
    ·cases eq
    · obtain⟨a,e1,e2⟩:=E.own j xs eq
      exact⟨a,by rw[Np (Ne.symm ne)];exact e1,e2⟩,
   λj k xs ys a e1 e2 e3 e4=>by
    rcases aT e1 with⟨_,q1⟩|⟨ne1,q1⟩
    ·cases q1
    · rcases aT e2 with⟨_,q2⟩|⟨ne2,q2⟩
      ·cases q2
      · rw[Np (Ne.symm ne1)]at e3
        rw[Np (Ne.symm ne2)]at e4;exact E.one j k xs ys a q1 q2 e3 e4,E.all⟩
section
variable{X:Cx}{pos:Pos}
noncomputable def gN(i:Nat):GF:=λd ρ=>some (setV i d ρ)
noncomputable abbrev Bp:=List D->ao->Option ao
noncomputable def Ke(K:Pn)(g:Bp):Ec:=λvs σ H Q=>∃O ρ ds ρ',cM K O H ρ σ/\aG K (hid H O) ds vs/\g ds ρ=some ρ'/\∀σ',cM K O H ρ' σ'->(∀(i:Nat) x,ρ'[i]?=some (some x)->(∀d,x≠.val d)->σ'[i]?=σ[i]?/\ρ[i]?=some (some x))->Q σ' H
noncomputable def L8(X:Cx)(ts:aR)(g:Bp):Prop:=HK X ts (Ke X.K g)
noncomputable def DU:Bp:=λds ρ=>match ds with
 |[]=>some ρ
 |_=>none
noncomputable def yQ(g:GF)(h:Bp):Bp:=λds ρ=>match ds with
 |d::r=>(g d ρ).bind λρ1=>h r ρ1
 |_=>none
noncomputable def gT(n:Nat)(g:Bp):GF:=λd ρ=>match d with
 |.tup xs=>if xs.length=n then g xs ρ else none
 |_=>none
end
noncomputable def Bt{α:Type}(r:R α):R α:=match r with
 |.ok a=>.ok a
 |.error _=>un
theorem zf{α:Type}{r:R α}{a:α}(h:Bt r=.ok a):r=.ok a:=by
 cases r with
 |ok b=>exact h
 |error z=>cases h
noncomputable def inB(ix:eD)(ρ:ao):ao:=ix.map λo=>match o with
 |some i=>match ρ[i]? with
  |some (some (.val d))=>some (.val d)
  |_=>none
 |none=>none
noncomputable def wj(ρ:ao)(g:GF)(C:bx)(Fe:FX):List D->R (List D)
 |[]=>.ok []
 |d::ds=>(rO (g d ρ)).bind λρ1=>(Bt (C ρ1)).bind λc=>if c then(Bt (Fe ρ1)).bind λv=>(wj ρ g C Fe ds).bind λr=>.ok (v::r)else wj ρ g C Fe ds
theorem mV(ρ:ao)(g:GF)(C:bx)(Fe:FX)(d:D)(ds:List D):wj ρ g C Fe (d::ds)=(rO (g d ρ)).bind λρ1=>(Bt (C ρ1)).bind λc=>if c then(Bt (Fe ρ1)).bind λv=>(wj ρ g C Fe ds).bind λr=>.ok (v::r)else wj ρ g C Fe ds:=rfl
noncomputable def eE(ix:eD)(G:aQ)(g:GF)(C:bx)(Fe:FX):FX:=λρ=>(G ρ).bind λds=>if small ds.length then Bt ((wj (inB ix ρ) g C Fe ds).bind λr=>.ok (.lst r))else un
noncomputable def Lf(X:Cx)(ifs:aR)(F:bx):Prop:=Ga X ifs (Jn X F)
noncomputable def bz:bx:=λ_=>.ok true
theorem jV{ix:eD}{ρ:ao}{j:Nat}{x:S}(e:(inB ix ρ)[j]?=some (some x)):∃i d,ix[j]?=some (some i)/\ρ[i]?=some (some (.val d))/\x=.val d:=by
 unfold inB at e;rw[NP]at e;cases q:ix[j]? with
 |none=>rw[q]at e;cases e
 |some o=>
  rw[q]at e;cases o with
  |none=>cases e
  |some i=>
   have e':(match ρ[i]? with|some (some (.val d))=>some (S.val d)|_=>none)=some x:=Option.some.inj e;split at e'
   ·rename_i d hd;cases e';exact⟨i,d,rfl,hd,rfl⟩
   ·cases e'
theorem CH{K:Pn}{O:aD}{H:Hp}{ρ:ao}{σ:St}(ix:eD)(E:cM K O H ρ σ):cM K O H (inB ix ρ) (inBlock ix σ):=by
 refine⟨λj d e=>?_,λj xs e=>?_,λj k xs ys a e=>?_,E.all⟩
 ·obtain⟨i,d',q1,q2,q3⟩:=jV e;cases q3;obtain⟨v,e1,e2⟩:=E.val i d q2;refine⟨v,?_,e2⟩;unfold inBlock;rw[NP,q1];show some ((σ[i]?).getD none)=some (some v);rw[e1];rfl
 ·obtain⟨_,_,_,_,q3⟩:=jV e;cases q3
 ·obtain⟨_,_,_,_,q3⟩:=jV e;cases q3
theorem rW{H:Hp}{O:aD}{p:QO}{o:HO}(hp:H p=none):aP (hid H O) (hid (upd H p o) (p::O)):=λb u h=>by
 unfold hid at h ⊢;by_cases hb:b∈O
 ·rw[if_pos hb]at h;cases h
 ·rw[if_neg hb]at h;have ne:=aK h hp;rw[if_neg (by intro z;rcases List.mem_cons.mp z with z|z;exact ne z;exact hb z),ak ne];exact h
theorem cM.hideNew{K:Pn}{O:aD}{H:Hp}{ρ:ao}{σ:St}{p:QO}{o:HO}(m:qb o)(E:cM K O H ρ σ)(hp:H p=none):cM K (p::O) (upd H p o) ρ σ:=by
 have s:aP (hid H O) (hid (upd H p o) (p::O)):=rW hp;refine⟨λi d e=>let ⟨v,a,b⟩:=E.val i d e;⟨v,a,b.mono s⟩,λi xs e=>?_,E.one,(E.all.same (bV hp o)).cons aq m⟩;obtain⟨a,e1,e2,e3⟩:=E.own i xs e;obtain⟨u,hu⟩:=e3.some;exact⟨a,e1,Nj _ e2,e3.mono (by rw[ak (aK hu hp)]) s⟩
theorem cM.rewrite{K:Pn}{O:aD}{H:Hp}{ρ:ao}{σ:St}{p:QO}{o:HO}(m:qb o)(E:cM K O H ρ σ)(hp:p∈O)(hs:∀(i:Nat) xs,ρ[i]?=some (some (.own xs))->σ[i]?≠some (some (.ref p))):cM K O (upd H p o) ρ σ:=by
 have s:aP (hid H O) (hid (upd H p o) O):=iW hp;refine⟨λi d e=>let ⟨v,a,b⟩:=E.val i d e;⟨v,a,b.mono s⟩,λi xs e=>?_,E.one,E.all.upd hp m⟩;obtain⟨a,e1,e2,e3⟩:=E.own i xs e;have ne:a≠p:=λz=>hs i xs e (by rw[<-z];exact e1);exact⟨a,e1,e2,e3.mono (by rw[ak ne]) s⟩
theorem cM.forget{K:Pn}{O:aD}{H:Hp}{ρ ρ':ao}{σ:St}(E:cM K O H ρ σ)(h:∀(i:Nat) x,ρ'[i]?=some (some x)->ρ[i]?=some (some x)):cM K O H ρ' σ:=
 ⟨λi d e=>E.val i d (h i _ e),λi xs e=>E.own i xs (h i _ e),λi j xs ys a e1 e2=>E.one i j xs ys a (h i _ e1) (h j _ e2),E.all⟩
noncomputable def Fills(ρ:ao)(g:GF):Prop:=∀d ρ1,g d ρ=some ρ1->∀(i:Nat) x,ρ[i]?=some (some x)->ρ1[i]?=some (some x)
theorem pQ(ix:eD)(ρ:ao):∀(i:Nat) xs,(inB ix ρ)[i]?≠some (some (.own xs)):=by
 intro j xs e;obtain⟨_,_,_,_,q3⟩:=jV e;cases q3
theorem Io{α:Type}{o:Option α}{a:α}(h:rO o=.ok a):o=some a:=by
 cases o with
 |none=>cases h
 |some b=>cases h;rfl
end TG
namespace TG
open PySem PySem.Spec L2
variable[aw]
section
variable{X:Cx}{elt tg iter:QP}{ifs:aR}{scope:Ra}{pos:Pos}{N:av}{ix:eD}{G:aQ}{g:GF}{C:bx}{Fe:FX}
structure lP(ix:eD)(g:GF):Prop where
 fill:∀ρ,Fills (inB ix ρ) g
 own:∀ρ d ρ1,g d (inB ix ρ)=some ρ1->∀(i:Nat) xs,ρ1[i]?≠some (some (.own xs))
theorem rT{ρ:ao}{i:Nat}(h:ix[i]?=some none):∀x,(inB ix ρ)[i]?≠some (some x):=λx e=>by
 obtain⟨_,_,q,_⟩:=jV e;rw[h]at q;cases q
theorem iT{i:Nat}(h:ix[i]?=some none):lP ix (gN i):=
  ⟨fun ρ d ρ1 e j x q=>by
    cases e;by_cases z:j=i
    ·subst z;exact absurd q (rT h x)
    ·unfold setV;rw[Np (Ne.symm z)];exact q,
   λρ d ρ1 e j xs q=>by
    cases e;rcases aT q with⟨_,z⟩|⟨_,z⟩
    ·cases z
    ·exact pQ ix ρ j xs z⟩
noncomputable def CL(ix:eD)(is:List Nat):Bool:=is.all λi=>match ix[i]? with
 |some none=>true
 |_=>false
noncomputable def tY:List Nat->Bp
 |[]=>DU
 |i::is=>yQ (gN i) (tY is)
theorem wu:∀(is:List Nat)(ds:List D)(ρ ρ1:ao),tY is ds ρ=some ρ1->∀(k:Nat)(x:S),ρ1[k]?=some (some x)->(k∈is/\∃d,x=.val d)\/ρ[k]?=some (some x)
 |[],ds,ρ,ρ1,h,k,x,e=>by
  cases ds with
  |nil=>cases h;exact .inr e
  |cons _ _=>cases h
 |i::is,ds,ρ,ρ1,h,k,x,e=>by
  cases ds with
  |nil=>cases h
  |cons d ds=>
   rcases wu is ds (setV i d ρ) ρ1 h k x e with⟨a,b⟩|q
   ·exact .inl ⟨Nj _ a,b⟩
   ·rcases aT q with⟨z,w⟩|⟨_,w⟩
    ·exact .inl ⟨by rw[z];exact Ni,d,Option.some.inj w⟩
    ·exact .inr w
theorem rL:∀(is:List Nat)(ds:List D)(ρ ρ1:ao),tY is ds ρ=some ρ1->∀(k:Nat)(x:S),k∉is->ρ[k]?=some (some x)->ρ1[k]?=some (some x)
 |[],ds,ρ,ρ1,h,k,x,_,e=>by
  cases ds with
  |nil=>cases h;exact e
  |cons _ _=>cases h
 |i::is,ds,ρ,ρ1,h,k,x,n,e=>by
  cases ds with
  |nil=>cases h
  |cons d ds=>
   refine rL is ds (setV i d ρ) ρ1 h k x (λz=>n (Nj _ z)) ?_;unfold setV;rw[Np (λz=>n (by rw[z];exact Ni))];exact e
theorem gW{is:List Nat}{n:Nat}(h:CL ix is=true):lP ix (gT n (tY is)):=by
 have hn:∀i∈is,ix[i]?=some none:=λi hi=>by
  have:=List.all_eq_true.mp h i hi
  cases e:ix[i]? with
  |none=>rw[e]at this;cases this
  |some o=>cases o with
   |none=>rfl
   |some _=>rw[e]at this;cases this
 have shape:∀ρ d ρ1,gT n (tY is) d ρ=some ρ1->∃ds,tY is ds ρ=some ρ1:=λρ d ρ1 e=>by
  cases d with
  |tup xs=>
   have e':(if xs.length=n then tY is xs ρ else none)=some ρ1:=e;by_cases hl:xs.length=n
   ·rw[if_pos hl]at e';exact⟨xs,e'⟩
   ·rw[if_neg hl]at e';cases e'
  |_=>cases e
 refine⟨λρ d ρ1 e k x q=>?_,λρ d ρ1 e k xs q=>?_⟩
 ·obtain⟨ds,e⟩:=shape _ d ρ1 e;exact rL is ds _ ρ1 e k x (λz=>rT (hn k z) x q) q
 ·obtain⟨ds,e⟩:=shape _ d ρ1 e;rcases wu is ds _ ρ1 e k _ q with⟨_,d,z⟩|z
  ·cases z
  ·exact pQ ix ρ k xs z
structure jU(X:Cx)(scope:Ra)(N:av)(ix:eD):Prop where
 cell:∀y∈scope.names,y.2≠.cell
 kind:scope.kind=.function
 names:∀y∈scope.names,y.2=.local->scope.names.lookup y.1=some .local
 free:∀y∈scope.names,y.2=.free->X.env.scope.names.lookup y.1=some .cell\/X.env.scope.names.lookup y.1=some .free
 ix:qp X.N N scope.names ix=true
noncomputable def ja(XS:n8)(XN:av)(scope:Ra)(N:av)(ix:eD):Bool:=
 scope.names.all (λy=>decide (y.2≠.cell))&&decide (scope.kind=.function)&&scope.names.all (λy=>decide (y.2≠.local)||decide (scope.names.lookup y.1=some .local)) &&
  scope.names.all (λy=>decide (y.2≠.free)||(decide (XS.lookup y.1=some .cell)||decide (XS.lookup y.1=some .free)))&&qp XN N scope.names ix
theorem jU.of(h:ja X.env.scope.names X.N scope N ix=true):jU X scope N ix:=by
 unfold ja at h;simp only[NU]at h;obtain⟨⟨⟨⟨h1,h2⟩,h3⟩,h4⟩,h5⟩:=h;refine⟨λy hy=>of_decide_eq_true (List.all_eq_true.mp h1 y hy),of_decide_eq_true h2,λy hy e=>?_,λy hy e=>?_,h5⟩
 ·rcases Oi _ _ ▸ List.all_eq_true.mp h3 y hy with q|q
  ·exact absurd e (of_decide_eq_true q)
  ·exact of_decide_eq_true q
 ·rcases Oi _ _ ▸ List.all_eq_true.mp h4 y hy with q|q
  ·exact absurd e (of_decide_eq_true q)
  ·rcases Oi _ _ ▸ q with q|q
   ·exact .inl (of_decide_eq_true q)
   ·exact .inr (of_decide_eq_true q)
noncomputable def Le(X:Cx)(scope:Ra)(N:av)(tg elt:QP)(ifs:aR)(g:GF)(C:bx)(Fe:FX):Prop:=
 ∀cl C' fp s H E,FG (bK X scope N cl C' fp s H E) tg g/\Lf (bK X scope N cl C' fp s H E) ifs C/\FE (bK X scope N cl C' fp s H E) elt Fe
noncomputable def Fv(K:Pn)(F:bx):TT:=λσ H Q=>∃O ρ b,cM K O H ρ σ/\F ρ=.ok b/\∀H',aP H H'->Q b H'
noncomputable def Km(K:Pn)(F:FX):TE:=λσ H Q=>∃O ρ d,cM K O H ρ σ/\F ρ=.ok d/\∀v H',aP H H'->bJ K (hid H' O) d v->Q v H'
theorem Le.k(hb:Le X scope N tg elt ifs g C Fe):∀cl C' fp s H E,PG (bK X scope N cl C' fp s H E) tg (IE X.K g)/\Ga (bK X scope N cl C' fp s H E) ifs (Fv X.K C)/\PE (bK X scope N cl C' fp s H E) elt (Km X.K Fe):=λcl C' fp s H E=>by
 obtain⟨h1,h2,h3⟩:=hb cl C' fp s H E;refine⟨h1,λpins s σ H Q I ⟨O,ρ,b,e1,e2,q⟩=>h2 pins s σ H Q I ⟨O,ρ,e1,by rw[e2];exact q⟩,λpins s σ H Q I ⟨O,ρ,d,e1,e2,q⟩=>h3 pins s σ H Q I ⟨O,ρ,e1,by rw[e2];exact q⟩⟩
noncomputable def Kr(X:Cx)(F:FX):TE:=λσ H Q=>∃O ρ,cM X.K O H ρ σ/\dJ X σ O H (F ρ) λd=>∀D H' total acc,d=.lst total->aP H H'->H D=none->H' D=some (.lst acc)->aG X.K (hid H' (D::O)) total acc->Q (.ref D) H'
theorem Lc{F:FX}:∀σ H Q,tF X F σ H Q->Kr X F σ H Q:=λσ H Q ⟨O,ρ,E,hF⟩=>⟨O,ρ,E,hF.imp λd q D H' total acc e sm hD hD' dn=>by
 subst e;have DO:D∉O:=E.all.not hD;exact q _ H' sm (bP.mpr ⟨D,acc,rfl,ju.of (by rw[fT DO];exact hD'),dn.mono (gx λa ha=>Nj _ ha)⟩)⟩
theorem zQ(tk:lP ix g):∀σ H Q,Kr X (eE ix G g C Fe) σ H Q->IQ (Js X G) (IE X.K g) (Fv X.K C) (Km X.K Fe) ix σ H Q:=λσ H Q ⟨O,ρ,E,hF⟩=>by
 refine⟨O,ρ,E,(dJ.bind hF).imp λds hF=>?_⟩;have hz:small ds.length=true:=by
  cases e:small ds.length with
  |true=>rfl
  |false=>rw[e]at hF;exact hF.elim
 rw[hz,if_pos rfl]at hF;cases hL:wj (inB ix ρ) g C Fe ds with
 |error z=>rw[hL]at hF;exact hF.elim
 |ok total=>
 rw[hL]at hF;have q:∀D H' total' acc,TG.D.lst total=.lst total'->aP H H'->H D=none->H' D=some (.lst acc)->aG X.K (hid H' (D::O)) total' acc->Q (.ref D) H':=hF;have e2:=hL;have hfill:=tk.fill;have hown:=tk.own;refine λJ H1 s1 wk D hD=>?_;have E1:cM X.K (D::O) (upd H1 D (.lst [])) (inB ix ρ) (inBlock ix σ):=((CH ix E).same s1).hideNew trivial hD;have DO:D∉O:=(E.all.same s1).not hD;refine⟨λi m σ' H'=>m=ds.length-i/\i<=ds.length/\aP H1 H'/\cM X.K (D::O) H' (inB ix ρ) σ'/\∃acc dn rest,H' D=some (.lst acc)/\acc.length<=i/\aG X.K (hid H' (D::O)) dn acc/\wj (inB ix ρ) g C Fe (ds.drop i)=.ok rest/\dn++rest=total,
  ⟨ds.length,by rw[Ot],NC _,bV hD _,E1,[],[],total,aq,Nt _,bB.mpr rfl,by rw[N9];exact e2,rfl⟩,?_⟩
 rintro i m σ' H' ⟨rfl,hi,sm,E',acc,dn,rest,hacc,hlen,hdn,hrest,htot⟩;have sH:aP (hid H1 O) (hid H' (D::O)):=λb o h=>by
  have h2:=sm b o (ax H1 O b o h);unfold hid at h ⊢;by_cases hb:b∈O
  ·rw[if_pos hb]at h;cases h
  ·rw[if_neg hb]at h;have ne:b≠D:=aK h hD;rw[if_neg (by intro z;rcases List.mem_cons.mp z with z|z;exact ne z;exact hb z)];exact h2
 by_cases hlt:i<ds.length
 ·right;obtain⟨go,yl⟩:=(wk H' (D::O) i E'.all sH).1 ds[i] (by simp[hlt]);refine⟨go,λx H2 y=>?_⟩;obtain⟨s2,dx'⟩:=yl x H2 y;have E':=E'.same s2;have sm:=sm.trans s2;have hacc:=s2 _ _ hacc;have hdn:=hdn.mono (bn s2);rw[Ov hlt,mV]at hrest;obtain⟨ρ1,g1,hrest⟩:=mI hrest;have g1:=Io g1;obtain⟨c,c1,hrest⟩:=mI hrest;have c1:=zf c1;refine⟨D::O,inB ix ρ,ds[i],ρ1,E',dx',g1,λσ3 E3 _=>?_⟩;refine⟨D::O,ρ1,c,E3,c1,λH4 s4=>?_⟩;have E4:=E3.same s4;have back:∀{H5:Hp},cM X.K (D::O) H5 ρ1 σ3->cM X.K (D::O) H5 (inB ix ρ) σ3:=λz=>z.forget λj x e=>hfill ρ _ _ g1 j x e;cases c with
  |true=>
   refine qq ?_;rw[if_pos rfl]at hrest;obtain⟨v,v1,hrest⟩:=mI hrest;have v1:=zf v1;obtain⟨r,r1,hrest⟩:=mI hrest;cases hrest;refine⟨D::O,ρ1,v,E4,v1,λw H5 s5 dw=>?_⟩;have s45:=s4.trans s5;have ha5:H5 D=some (.lst acc):=s45 _ _ hacc;have hzl:ds.length<QW:=Nat.lt_of_le_of_lt (of_decide_eq_true hz) (by decide);refine⟨acc,ha5,by omega,ds.length-(i+1),by omega,rfl,hlt,?_,?_,acc++[w],dn++[v],r,aq,by rw[NR,NW];omega,?_,r1,by rw[Ow];exact htot⟩
   ·intro b o h;rw[ak (aK h hD)];exact s45 _ _ (sm _ _ h)
   ·exact back ((E3.same s45).rewrite trivial Ni λj xs e=>absurd e (hown ρ _ _ g1 j xs))
   ·have s6:aP (hid H5 (D::O)) (hid (upd H5 D (.lst (acc++[w]))) (D::O)):=iW Ni;exact(hdn.mono ((bn s45).trans s6)).snoc (dw.mono s6)
  |false=>
   refine qL ?_;rw[if_neg Nq]at hrest;exact⟨ds.length-(i+1),by omega,rfl,hlt,sm.trans s4,back E4,acc,dn,rest,s4 _ _ hacc,by omega,hdn.mono (bn s4),hrest,htot⟩
 ·left;have ei:i=ds.length:=by omega
  subst ei;refine⟨(wk H' (D::O) ds.length E'.all sH).2 rfl,?_⟩;rw[Ox]at hrest;cases hrest;rw[ND]at htot;subst htot;exact q D H' _ acc rfl (s1.trans sm) (s1.free hD) hacc hdn
theorem D9(tk:lP ix g):∀σ H Q,tF X (eE ix G g C Fe) σ H Q->IQ (Js X G) (IE X.K g) (Fv X.K C) (Km X.K Fe) ix σ H Q:=λσ H Q h=>zQ tk σ H Q (Lc σ H Q h)
end
structure Ks where
 nx:ao->R D
 bk:ao->R D:=λ_=>un
 ct:ao->R D:=λ_=>un
 ex:Ex->ao->R D:=λx _=>.error (some x)
noncomputable abbrev bw:=Ks->ao->R D
noncomputable def kZ{α:Type}(r:R α)(k:Ks)(ρ:ao)(f:α->R D):R D:=match r with
 |.ok a=>f a
 |.error (some x)=>k.ex x ρ
 |.error none=>un
structure Base(Hb:Hp)(Ob:aD)(H:Hp)(O:aD):Prop where
 same:aP Hb H
 sub:∀a∈Ob,a∈O
 new:∀a∈O,a∈Ob\/Hb a=none
noncomputable def Bg(K:Pn)(H:Hp)(O:aD):aD->List D->Prop
 |[],[]=>True
 |b::bs,x::xs=>iI K H O b x/\Bg K H O bs xs
 |_,_=>False
noncomputable def vU(K:Pn)(H:Hp)(O:aD)(a:QO)(bs:aD)(d:D):Prop:=
 ∃xs,Bg K H O bs xs/\((d=.lst xs/\H a=some (.lst (bs.map .ref)))\/(∃kvs:List (List Key×V),d=.dct (kvs.map λp=>.tup (p.1.map bC)) xs/\H a=some (.dT kvs)/\kvs.map (·.2)=bs.map .ref)\/(d=.dct [] xs/\bs=[]/\H a=some (.dK [])))
noncomputable def An(K:Pn)(Hb:Hp)(Ob O:aD)(H:Hp)(ρ:ao)(σ:St)(i:Nat)(d:D):Prop:=
 ∃a bs,σ[i]?=some (some (.ref a))/\vU K H O a bs d/\(a::bs).Nodup/\(∀b∈a::bs,b∈O/\Hb b=none/\b∉Ob/\∀(j:Nat) d',ρ[j]?=some (some (.own d'))->σ[j]?≠some (some (.ref b)))/\∀(j:Nat) d',ρ[j]?=some (some (.nest d'))->j=i
theorem Bg.mono{K:Pn}{H H':Hp}{O O':aD}(s:aP (hid H O) (hid H' O')):∀{bs:aD}{xs:List D},Bg K H O bs xs->(∀b∈bs,(∃o,H b=some o)->H' b=H b)->Bg K H' O' bs xs
 |[],[],_,_=>trivial
 |b::bs,x::xs,h,e=>⟨h.1.mono (e b Ni h.1.some).symm s,Bg.mono s h.2 λb' hb=>e b' (Nj _ hb)⟩
 |[],_::_,h,_=>h.elim
 |_::_,[],h,_=>h.elim
theorem Bg.some{K:Pn}{H:Hp}{O:aD}:∀{bs:aD}{xs:List D},Bg K H O bs xs->∀b∈bs,∃o,H b=some o
 |[],_,_,_,hb=>nomatch hb
 |b::bs,x::xs,h,b',hb=>by
  rcases List.mem_cons.mp hb with z|z
  ·rw[z];exact h.1.some
  ·exact Bg.some h.2 b' z
 |_::_,[],h,_,_=>h.elim
theorem vU.some{K:Pn}{H:Hp}{O:aD}{a:QO}{bs:aD}{d:D}(h:vU K H O a bs d):∀b∈a::bs,∃o,H b=some o:=λb hb=>by
 obtain⟨xs,h1,h2⟩:=h;rcases List.mem_cons.mp hb with z|z
 ·rw[z];rcases h2 with⟨_,q⟩|⟨_,_,q,_⟩|⟨_,_,q⟩<;>exact⟨_,q⟩
 ·exact h1.some b z
theorem vU.mono{K:Pn}{H H':Hp}{O O':aD}{a:QO}{bs:aD}{d:D}(h:vU K H O a bs d)(s:aP (hid H O) (hid H' O'))(e:∀b∈a::bs,(∃o,H b=Option.some o)->H' b=H b):vU K H' O' a bs d:=by
 have ea:=e a Ni (h.some a Ni);obtain⟨xs,h1,h2⟩:=h;refine⟨xs,h1.mono s λb hb=>e b (Nj _ hb),?_⟩;rw[ea];exact h2
theorem An.to{K:Pn}{Hb Hb':Hp}{Ob O O':aD}{H H':Hp}{ρ ρ':ao}{σ σ':St}{i:Nat}{d:D}(h:An K Hb Ob O H ρ σ i d)(hσ:σ'[i]?=σ[i]?)(s:aP (hid H O) (hid H' O'))
  (k:∀b,b∈O->Hb b=none->b∉Ob->(∀(j:Nat) d',ρ[j]?=some (some (.own d'))->σ[j]?≠some (some (.ref b)))->(∃o,H b=some o)->H' b=H b/\b∈O'/\Hb' b=none/\∀(j:Nat) d',ρ'[j]?=some (some (.own d'))->σ'[j]?≠some (some (.ref b)))
  (n:∀(j:Nat) d',ρ'[j]?=some (some (.nest d'))->∃d2,ρ[j]?=some (some (.nest d2))):An K Hb' Ob O' H' ρ' σ' i d:=by
 obtain⟨a,bs,h1,h2,h3,h4,h5⟩:=h;refine⟨a,bs,hσ.trans h1,h2.mono s λb hb ho=>?_,h3,λb hb=>?_,λj d' q=>?_⟩
 ·obtain⟨q1,q2,q3,q4⟩:=h4 b hb;exact(k b q1 q2 q3 q4 ho).1
 ·obtain⟨q1,q2,q3,q4⟩:=h4 b hb;obtain⟨_,w2,w3,w4⟩:=k b q1 q2 q3 q4 (h2.some b hb);exact⟨w2,w3,q3,w4⟩
 ·obtain⟨d2,q⟩:=n j d' q;exact h5 j d2 q
structure cW(K:Pn)(Hb:Hp)(Ob O:aD)(H:Hp)(ρ:ao)(σ:St):Prop where
 env:cM K O H ρ σ
 base:Base Hb Ob H O
 mine:∀(i:Nat) xs a,ρ[i]?=some (some (.own xs))->σ[i]?=some (some (.ref a))->Hb a=none/\a∉Ob
 nst:∀(i:Nat) d,ρ[i]?=some (some (.nest d))->An K Hb Ob O H ρ σ i d
theorem Base.same'{Hb:Hp}{Ob:aD}{H H':Hp}{O:aD}(b:Base Hb Ob H O)(s:aP H H'):Base Hb Ob H' O:=⟨b.same.trans s,b.sub,b.new⟩
theorem cW.same{K:Pn}{Hb:Hp}{Ob O:aD}{H H':Hp}{ρ:ao}{σ:St}(h:cW K Hb Ob O H ρ σ)(s:aP H H'):cW K Hb Ob O H' ρ σ:=⟨h.env.same s,h.base.same' s,h.mine,λi d q=>(h.nst i d q).to rfl (bn s) (λb q1 q2 q3 q4 ⟨o,ho⟩=>⟨by rw[ho,s _ _ ho],q1,q2,q4⟩) λj d' z=>⟨d',z⟩⟩
theorem cW.after{K:Pn}{Hb:Hp}{Ob O:aD}{H:Hp}{ρ ρ':ao}{σ σ':St}(S:cW K Hb Ob O H ρ σ)(E':cM K O H ρ' σ')(own:∀(i:Nat) x,ρ'[i]?=some (some x)->(∀d,x≠.val d)->σ'[i]?=σ[i]?/\ρ[i]?=some (some x)):cW K Hb Ob O H ρ' σ':=
 ⟨E',S.base,fun i xs a q1 q2=>by
  obtain⟨w1,w2⟩:=own i _ q1 (λ_ z=>nomatch z);rw[w1]at q2;exact S.mine i xs a w2 q2,λi d q=>by
  obtain⟨w1,w2⟩:=own i _ q (λ_ z=>nomatch z);refine(S.nst i d w2).to w1 (λ_ _ z=>z) (λb q1 q2 q3 q4 _=>⟨rfl,q1,q2,λl d' w=>?_⟩) λl d' w=>⟨d',(own l _ w (λ_ z=>nomatch z)).2⟩
  obtain⟨z1,z2⟩:=own l _ w (λ_ z=>nomatch z);rw[z1];exact q4 l d' z2⟩
structure Jj(X:Cx)(Hb:Hp)(Ob:aD)(E:Ends)(k:Ks)(r:R D):Prop where
 ne:r≠un
 nx:∀O ρ σ H,cW X.K Hb Ob O H ρ σ->k.nx ρ=r->E.nx σ H
 bk:∀O ρ σ H,cW X.K Hb Ob O H ρ σ->k.bk ρ=r->E.bk σ H
 ct:∀O ρ σ H,cW X.K Hb Ob O H ρ σ->k.ct ρ=r->E.ct σ H
 rt:∀d O v H,r=.ok d->Base Hb Ob H O->bJ X.K (hid H O) d v->E.rt v H
 ex:∀O ρ σ H x,cW X.K Hb Ob O H ρ σ->k.ex x ρ=r->EJ X σ O H x
noncomputable def Jh(X:Cx)(Hb:Hp)(Ob:aD)(F:bw):TS:=λE σ H=>∃O ρ k r,cW X.K Hb Ob O H ρ σ/\F k ρ=r/\Jj X Hb Ob E k r
noncomputable def FS(X:Cx)(st:QQ)(F:bw):Prop:=∀Hb Ob,PS X st (Jh X Hb Ob F)
noncomputable def Ja(X:Cx)(st:cF)(F:bw):Prop:=∀Hb Ob,pR X st (Jh X Hb Ob F)
theorem dJ.on{X:Cx}{Hb:Hp}{Ob O:aD}{H:Hp}{ρ:ao}{σ:St}{E:Ends}{k:Ks}{r:R D}{α:Type}{fr:R α}{G:α->R D}{Q:α->Prop}(h:kZ fr k ρ G=r)(hk:Jj X Hb Ob E k r)(S:cW X.K Hb Ob O H ρ σ)(q:∀a,G a=r->Q a):dJ X σ O H fr Q:=by
 match fr,h with
 |.ok a,h=>exact q a h
 |.error (some x),h=>exact hk.ex O ρ σ H x S h
 |.error none,h=>exact absurd h.symm hk.ne
section
variable{X:Cx}{st:QQ}{rest body:cF}{pos:Pos}
noncomputable def bD:bw:=λk ρ=>k.nx ρ
noncomputable def az(F1 F2:bw):bw:=λk ρ=>F1 {k with nx:=F2 k} ρ
noncomputable def aU(f:FX):bw:=λk ρ=>kZ (f ρ) k ρ .ok
noncomputable def HR:bw:=λ_ _=>.ok .non
noncomputable def pI(f:FX):bw:=λk ρ=>kZ (f ρ) k ρ λ_=>k.nx ρ
noncomputable def fD(c:bx)(A B:bw):bw:=λk ρ=>kZ (c ρ) k ρ λb=>if b then A k ρ else B k ρ
noncomputable def aO(i:Nat)(f:FX):bw:=λk ρ=>kZ (f ρ) k ρ λd=>k.nx (setV i d ρ)
theorem cW.setV{K:Pn}{Hb:Hp}{Ob O:aD}{H:Hp}{ρ:ao}{σ:St}(E:cW K Hb Ob O H ρ σ){i:Nat}{d:D}{v:V}(hi:i<σ.length)(hd:bJ K (hid H O) d v):cW K Hb Ob O H (setV i d ρ) (σ.set i (some v)):=
  ⟨E.env.setV hi hd,E.base,fun j xs a e1 e2=>by
    rcases aT e1 with⟨_,q⟩|⟨ne,q⟩
    ·cases q
    · rw[Np (Ne.symm ne)]at e2
      exact E.mine j xs a q e2,
   λj dn e=>by
    rcases aT e with⟨_,q⟩|⟨ne,q⟩
    ·cases q
    · refine(E.nst j dn q).to (Np (Ne.symm ne)) (λ_ _ z=>z) (λb q1 q2 q3 q4 _=>⟨rfl,q1,q2,λl d' w=>?_⟩) λl d' w=>?_
      · rcases aT w with⟨_,z⟩|⟨nl,z⟩
        ·cases z
        ·rw[Np (Ne.symm nl)];exact q4 l d' z
      · rcases aT w with⟨_,z⟩|⟨_,z⟩
        ·cases z
        ·exact⟨d',z⟩⟩
theorem pE{f:FX}{i:Nat}(hi:i<X.N.length)(h:PS X st (yY (tF X f) (o7 i))):FS X st (aO i f):=λHb Ob pins s σ H E I ⟨O,ρ,k,r,S,hF,hk⟩=>
 h pins s σ H E I ⟨O,ρ,S.env,dJ.on hF hk S λd e v H1 s1 d1=>hk.nx O _ _ H1 ((S.same s1).setV (by rw[I.len];exact hi) d1) e⟩
noncomputable def zC(f:FX)(g:GF):bw:=λk ρ=>kZ (f ρ) k ρ λd=>(rO (g d ρ)).bind k.nx
noncomputable def jo:bw:=λ_ _=>un
noncomputable def kill(is:List Nat)(ρ:ao):ao:=is.foldl (λρ i=>ρ.set i none) ρ
theorem fU:∀(is:List Nat)(ρ:ao)(i:Nat)(x:S),(kill is ρ)[i]?=some (some x)->ρ[i]?=some (some x)
 |[],ρ,i,x,e=>e
 |j::is,ρ,i,x,e=>by
  rcases aT (fU is (ρ.set j none) i x e)with⟨_,q⟩|⟨_,q⟩
  ·cases q
  ·exact q
theorem cW.kill{K:Pn}{Hb:Hp}{Ob O:aD}{H:Hp}{ρ:ao}{σ:St}(E:cW K Hb Ob O H ρ σ)(is:List Nat):cW K Hb Ob O H (kill is ρ) σ:=
 ⟨E.env.forget (fU is ρ),E.base,λi xs a e1 e2=>E.mine i xs a (fU is ρ i _ e1) e2,λi d q=>(E.nst i d (fU is ρ i _ q)).to rfl (λ_ _ z=>z) (λb q1 q2 q3 q4 _=>⟨rfl,q1,q2,λl d' w=>q4 l d' (fU is ρ l _ w)⟩) λl d' w=>⟨d',fU is ρ l _ w⟩⟩
noncomputable def h7(is:List Nat)(F:bw):bw:=λk ρ=>F k (kill is ρ)
end
noncomputable def dS(g:GF)(B:bw)(k:Ks):List D->ao->R D
 |[],ρ=>k.nx ρ
 |d::ds,ρ=>(rO (g d ρ)).bind λρ1=>B ⟨dS g B k ds,k.nx,dS g B k ds,k.ex⟩ ρ1
noncomputable def sv(G:aQ)(g:GF)(B:bw):bw:=λk ρ=>kZ (G ρ) k ρ λds=>dS g B k ds ρ
noncomputable def lb(H:Hp)(O Ob:aD):Hp:=λb=>if b∈O/\b∉Ob then none else H b
theorem qy{H:Hp}{O Ob:aD}{b:QO}(h1:b∈O)(h2:b∉Ob):lb H O Ob b=none:=by unfold lb;rw[if_pos ⟨h1,h2⟩]
theorem Cb{H:Hp}{O Ob:aD}{b:QO}{o:HO}(h:lb H O Ob b=some o):H b=some o/\¬(b∈O/\b∉Ob):=by
 unfold lb at h;split at h
 ·cases h
 ·rename_i n;exact⟨h,n⟩
theorem zR{H:Hp}{O Ob:aD}{b:QO}{o:HO}(h:H b=some o)(n:¬(b∈O/\b∉Ob)):lb H O Ob b=some o:=by unfold lb;rw[if_neg n];exact h
theorem Base.loop{Hb:Hp}{Ob:aD}{H:Hp}{O:aD}(b:Base Hb Ob H O):Base (lb H O Ob) Ob H O:=
 ⟨fun c o h=>(Cb h).1,b.sub,fun a ha=>by
  by_cases h:a∈Ob
  ·exact .inl h
  ·exact .inr (qy ha h)⟩
theorem Base.back{Hb:Hp}{Ob:aD}{H H':Hp}{O O':aD}(b:Base Hb Ob H O)(b':Base (lb H O Ob) Ob H' O'):Base Hb Ob H' O':=by
 have up:aP Hb (lb H O Ob):=λc o h=>zR (b.same c o h) λ⟨z1,z2⟩=>by
  rcases b.new c z1 with z|z
  ·exact z2 z
  ·rw[z]at h;cases h
 exact⟨up.trans b'.same,b'.sub,λa ha=>(b'.new a ha).imp id up.free⟩
theorem cW.loop{K:Pn}{Hb:Hp}{Ob O:aD}{H:Hp}{ρ:ao}{σ:St}(E:cW K Hb Ob O H ρ σ):cW K (lb H O Ob) Ob O H ρ σ:=
 ⟨E.env,E.base.loop,fun i xs a e1 e2=>by
  obtain⟨_,n⟩:=E.mine i xs a e1 e2;obtain⟨a',e3,e4,_⟩:=E.env.own i xs e1;rw[e2]at e3;cases e3;exact⟨qy e4 n,n⟩,λi d q=>(E.nst i d q).to rfl (λ_ _ z=>z) (λb q1 q2 q3 q4 _=>⟨rfl,q1,qy q1 q3,q4⟩) λl d' w=>⟨d',w⟩⟩
theorem cW.back{K:Pn}{Hb:Hp}{Ob O O':aD}{H H':Hp}{ρ':ao}{σ':St}(b:Base Hb Ob H O)(E:cW K (lb H O Ob) Ob O' H' ρ' σ'):cW K Hb Ob O' H' ρ' σ':=
 have up:aP Hb (lb H O Ob):=λc o h=>zR (b.same c o h) λ⟨z1,z2⟩=>by
  rcases b.new c z1 with z|z
  ·exact z2 z
  ·rw[z]at h;cases h
 ⟨E.env,b.back E.base,fun i xs a e1 e2=>by
  obtain⟨z,n⟩:=E.mine i xs a e1 e2;exact⟨up.free z,n⟩,λi d q=>(E.nst i d q).to rfl (λ_ _ z=>z) (λb q1 q2 q3 q4 _=>⟨rfl,q1,up.free q2,q4⟩) λl d' w=>⟨d',w⟩⟩
theorem Bi{Hb:Hp}{Ob O O':aD}{H H':Hp}(b:Base Hb Ob H O)(b':Base (lb H O Ob) Ob H' O'):aP (hid H O) (hid H' O'):=λc o h=>by
 unfold hid at h ⊢;by_cases hc:c∈O
 ·rw[if_pos hc]at h;cases h
 ·rw[if_neg hc]at h;have h1:lb H O Ob c=some o:=zR h λz=>hc z.1;rw[if_neg]
  ·exact b'.same _ _ h1
  ·intro z;rcases b'.new c z with z|z
   ·exact hc (b.sub c z)
   ·rw[h1]at z;cases z
theorem Jj.loop{X:Cx}{Hb:Hp}{Ob O:aD}{H:Hp}{E E':Ends}{k k':Ks}{r:R D}(hk:Jj X Hb Ob E k r)(b:Base Hb Ob H O)(hn:∀O' ρ' σ' H',cW X.K (lb H O Ob) Ob O' H' ρ' σ'->k'.nx ρ'=r->E'.nx σ' H')(hc:∀O' ρ' σ' H',cW X.K (lb H O Ob) Ob O' H' ρ' σ'->k'.ct ρ'=r->E'.ct σ' H')
    (eb:k'.bk=k.nx) (ee:k'.ex=k.ex) (Eb:E'.bk=E.nx) (Er:E'.rt=E.rt):Jj X (lb H O Ob) Ob E' k' r:=
  ⟨hk.ne,hn,fun O' ρ' σ' H' S e=>by rw [Eb]; exact hk.nx O' ρ' σ' H' (S.back b) (by rw [<- eb]; exact e),hc,fun d O' v H' e b' dv=>by rw [Er]; exact hk.rt d O' v H' e (b.back b') dv,
   λO' ρ' σ' H' x S e=>hk.ex O' ρ' σ' H' x (S.back b) (by rw[<-ee];exact e)⟩
section
variable{X:Cx}{st:QQ}{rest body:cF}{pos:Pos}
noncomputable def dU(c:bx)(B:bw)(k:Ks):Nat->ao->R D
 |0,_=>un
 |n+1,ρ=>kZ (c ρ) k ρ λb=>if b then B ⟨dU c B k n,k.nx,dU c B k n,k.ex⟩ ρ else k.nx ρ
noncomputable def nh(n:Nat)(c:bx)(B:bw):bw:=λk ρ=>dU c B k n ρ
end
end TG
namespace TG
open PySem PySem.Spec L2
variable[aw]
theorem cW.setO{K:Pn}{Hb:Hp}{Ob O:aD}{H:Hp}{ρ:ao}{σ:St}(E:cW K Hb Ob O H ρ σ){i:Nat}{d d':D}{a:QO}{o:HO}(hi:ρ[i]?=some (some (.own d)))(ha:σ[i]?=some (some (.ref a)))(m:qb o)(new:iI K (upd H a o) O a d'):
  cW K Hb Ob O (upd H a o) (ρ.set i (some (.own d'))) σ:=by
 obtain⟨a',ha',haO,hat⟩:=E.env.own i d hi;rw[ha]at ha';cases ha';obtain⟨m1,m2⟩:=E.mine i d a hi ha;have s:aP (hid H O) (hid (upd H a o) O):=iW haO;have own:∀(j:Nat) ys,(ρ.set i (some (.own d')))[j]?=some (some (.own ys))->∃ys',ρ[j]?=some (some (.own ys')):=λj ys q=>by
  rcases aT q with⟨hj,_⟩|⟨_,q⟩
  ·rw[hj];exact⟨d,hi⟩
  ·exact⟨ys,q⟩
 refine⟨⟨λj d1 e=>?_,λj ys e=>?_,λj l ys zs b q1 q2 q3 q4=>?_,E.env.all.upd haO m⟩,⟨λb u h=>?_,E.base.sub,E.base.new⟩,λj ys b q1 q2=>?_,λj dn q=>?_⟩
 ·rcases aT e with⟨_,q⟩|⟨ne,q⟩
  ·cases q
  ·obtain⟨w,q1,q2⟩:=E.env.val j d1 q;exact⟨w,q1,q2.mono s⟩
 ·rcases aT e with⟨hj,q⟩|⟨ne,q⟩
  ·cases q;rw[hj];exact⟨a,ha,haO,new⟩
  ·obtain⟨b,q1,q2,q3⟩:=E.env.own j ys q;have nb:b≠a:=λz=>ne (E.env.one j i ys d a q hi (by rw[<-z];exact q1) ha);exact⟨b,q1,q2,q3.mono (by rw[ak nb]) s⟩
 ·obtain⟨_,q1'⟩:=own j ys q1;obtain⟨_,q2'⟩:=own l zs q2;exact E.env.one j l _ _ b q1' q2' q3 q4
 ·have nb:b≠a:=λz=>by rw[z,m1]at h;cases h
  rw[ak nb];exact E.base.same b u h
 ·obtain⟨ys',q⟩:=own j ys q1;exact E.mine j ys' b q q2
 ·have q:ρ[j]?=some (some (.nest dn)):=by
   rcases aT q with⟨_,z⟩|⟨_,z⟩
   ·cases z
   ·exact z
  refine(E.nst j dn q).to rfl s (λb q1 q2 q3 q4 _=>⟨ak λz=>q4 i d hi (by rw[z];exact ha),q1,q2,λl d1 w=>?_⟩) λl d1 w=>?_
  ·obtain⟨_,w'⟩:=own l d1 w;exact q4 l _ w'
  ·rcases aT w with⟨_,z⟩|⟨_,z⟩
   ·cases z
   ·exact⟨d1,z⟩
theorem cW.setNew{K:Pn}{Hb:Hp}{Ob O:aD}{H H':Hp}{ρ:ao}{σ:St}(E:cW K Hb Ob O H ρ σ){i:Nat}{d:D}{p:QO}(hi:i<σ.length)(sm:aP H H')(hp:H p=none)(m:∃o,H' p=some o/\qb o)(new:iI K H' (p::O) p d):
  cW K Hb Ob (p::O) H' (ρ.set i (some (.own d))) (σ.set i (some (.ref p))):=by
 have hpO:p∉O:=E.env.all.not hp;have s:aP (hid H O) (hid H' (p::O)):=λb o h=>by
  unfold hid at h ⊢;by_cases hb:b∈O
  ·rw[if_pos hb]at h;cases h
  ·rw[if_neg hb]at h;have ne:=aK h hp;rw[if_neg (by intro z;rcases List.mem_cons.mp z with z|z;exact ne z;exact hb z)];exact sm _ _ h
 have other:∀(j:Nat) xs,ρ[j]?=some (some (.own xs))->σ[j]?≠some (some (.ref p)):=λj xs e z=>by
  obtain⟨a,e1,e2,e3⟩:=E.env.own j xs e;rw[z]at e1;cases e1;obtain⟨o,e3⟩:=e3.some;rw[hp]at e3;cases e3
 refine⟨⟨λj d' e=>?_,λj xs e=>?_,λj k xs ys a e1 e2 e3 e4=>?_,⟨(E.env.all.same sm).1,λa ha=>?_⟩⟩,⟨E.base.same.trans sm,λa ha=>Nj _ (E.base.sub a ha),λa ha=>?_⟩,λj xs a e1 e2=>?_,λj dn e=>?_⟩
 ·rcases aT e with⟨_,q⟩|⟨ne,q⟩
  ·cases q
  ·obtain⟨v,q1,q2⟩:=E.env.val j d' q;exact⟨v,by rw[Np (Ne.symm ne)];exact q1,q2.mono s⟩
 ·rcases aT e with⟨hj,q⟩|⟨ne,q⟩
  ·cases q;rw[hj];exact⟨p,Nn hi,Ni,new⟩
  ·obtain⟨a,q1,q2,q3⟩:=E.env.own j xs q;obtain⟨o,ho⟩:=q3.some;exact⟨a,by rw[Np (Ne.symm ne)];exact q1,Nj _ q2,q3.mono (vV sm ho) s⟩
 ·rcases aT e1 with⟨hj,q1⟩|⟨nj,q1⟩
  ·rcases aT e2 with⟨hk,q2⟩|⟨nk,q2⟩
   ·exact hj.trans hk.symm
   ·rw[hj,Nn hi]at e3;cases e3;rw[Np (Ne.symm nk)]at e4;exact absurd e4 (other k ys q2)
  ·rcases aT e2 with⟨hk,q2⟩|⟨nk,q2⟩
   ·rw[hk,Nn hi]at e4;cases e4;rw[Np (Ne.symm nj)]at e3;exact absurd e3 (other j xs q1)
   ·rw[Np (Ne.symm nj)]at e3;rw[Np (Ne.symm nk)]at e4;exact E.env.one j k xs ys a q1 q2 e3 e4
 ·rcases List.mem_cons.mp ha with rfl|ha
  ·exact m
  ·exact(E.env.all.same sm).2 a ha
 ·rcases List.mem_cons.mp ha with rfl|ha
  ·exact .inr (E.base.same.free hp)
  ·exact E.base.new a ha
 ·rcases aT e1 with⟨hj,q1⟩|⟨nj,q1⟩
  ·rw[hj,Nn hi]at e2;cases e2;exact⟨E.base.same.free hp,λz=>hpO (E.base.sub p z)⟩
  ·rw[Np (Ne.symm nj)]at e2;exact E.mine j xs a q1 e2
 ·rcases aT e with⟨_,q⟩|⟨ne,q⟩
  ·cases q
  ·refine(E.nst j dn q).to (Np (Ne.symm ne)) s (λb q1 q2 q3 q4 ⟨o,ho⟩=>⟨by rw[ho,sm _ _ ho],Nj _ q1,q2,λl d1 w=>?_⟩) λl d1 w=>?_
   ·rcases aT w with⟨hl,z⟩|⟨nl,z⟩
    ·rw[hl,Nn hi];intro z;cases z;rw[hp]at ho;cases ho
    ·rw[Np (Ne.symm nl)];exact q4 l d1 z
   ·rcases aT w with⟨_,z⟩|⟨_,z⟩
    ·cases z
    ·exact⟨d1,z⟩
noncomputable def JG(X:Cx)(F:FX):TE:=λσ H Q=>∃O ρ,cM X.K O H ρ σ/\dJ X σ O H (F ρ) λd=>∀p H',aP H H'->H p=none->(∃o,H' p=some o/\qb o)->iI X.K H' (p::O) p d->Q (.ref p) H'
noncomputable def FN(X:Cx)(e:QP)(F:FX):Prop:=PE X e (JG X F)
section
variable{X:Cx}{pos:Pos}
theorem sC{K:Pn}{H:Hp}{O:aD}{p:QO}{ds:List D}{vs:aH}(hp:H p=none)(d:aG K (hid H O) ds vs):iI K (upd H p (.lst vs)) (p::O) p (.lst ds):=⟨_,vs,aq,rfl,d.mono (rW hp)⟩
noncomputable def sL(i:Nat)(f:FX):bw:=λk ρ=>kZ (f ρ) k ρ λd=>k.nx (ρ.set i (some (.own d)))
theorem pP{st:QQ}{f:FX}{i:Nat}(hi:i<X.N.length)(h:PS X st (yY (JG X f) (o7 i))):FS X st (sL i f):=λHb Ob pins s σ H E I ⟨O,ρ,k,r,S,hF,hk⟩=>
 h pins s σ H E I ⟨O,ρ,S.env,dJ.on hF hk S λd e p H1 s1 hp m o=>hk.nx _ _ _ H1 (S.setNew (by rw[I.len];exact hi) s1 hp m o) e⟩
end
theorem DZ{X:Cx}{F:FX}:∀σ H Q,JG X F σ H Q->Kr X F σ H Q:=λσ H Q ⟨O,ρ,E,hF⟩=>⟨O,ρ,E,hF.imp λd q D H' total acc e sm hD hD' dn=>by
 subst e;exact q D H' sm hD ⟨_,hD',trivial⟩ ⟨_,acc,hD',rfl,dn⟩⟩
noncomputable def ED(i:Nat)(u:List D->List D->Option (List D))(f:aQ):bw:=λk ρ=>match ρ[i]? with
 |some (some (.own (.lst xs)))=>kZ (f ρ) k ρ λds=>(rO (u xs ds)).bind λys=>k.nx (ρ.set i (some (.own (.lst ys))))
 |_=>un
noncomputable def Ep(K:Pn)(r:V->aH->Hp->VK->Prop)(u:List D->List D->Option (List D)):Prop:=
 ∀(H:Hp)(O:aD)(a:QO)(xs ys as:List D)(ws vs:aH)(Q:VK),cY H O->a∈O->H a=some (.lst ws)->aG K (hid H O) xs ws->aG K (hid H O) as vs->u xs as=some ys->(∀ws' v,aG K (hid H O) ys ws'->Q v (upd H a (.lst ws')))->r (.ref a) vs H Q
theorem sO{K:Pn}{H:Hp}{O:aD}{a:QO}{ys:List D}{ws:aH}(ha:a∈O)(h:aG K (hid H O) ys ws):iI K (upd H a (.lst ws)) O a (.lst ys):=⟨_,ws,aq,rfl,h.mono (iW ha)⟩
noncomputable def xx(xs:List D)(ds:List D):Option (List D):=match ds with
 |[y]=>if small (xs.length+1)then some (xs++[y])else none
 |_=>none
theorem xE{K:Pn}:Ep K we xx:=λH O a xs ys as ws vs Q hO haO ha dx da hu q=>by
 unfold xx at hu;split at hu
 ·rename_i y;obtain⟨h1,h2⟩:=bb hu;subst h2;obtain⟨v,rfl,dv⟩:=da.one
  have:=b8 h1
  rw[dx.length]at this;exact⟨a,ws,v,rfl,rfl,ha,by omega,q _ _ (dx.snoc dv)⟩
 ·cases hu
noncomputable def frz(i:Nat)(ρ:ao):ao:=match ρ[i]? with
 |some (some (.own d))=>setV i d ρ
 |_=>ρ
theorem cM.frz{K:Pn}{O:aD}{H:Hp}{ρ:ao}{σ:St}(E:cM K O H ρ σ)(i:Nat):∃O',cM K O' H (frz i ρ) σ/\(∀b∈O',b∈O)/\∀b∈O,b∉O'->∃d,ρ[i]?=some (some (.own d))/\σ[i]?=some (some (.ref b)):=by
 unfold TG.frz;split
 ·rename_i d hd;obtain⟨a,ha,haO,hat⟩:=E.own i d hd;have sub:∀b∈O.filter (λb=>decide (b≠a)),b∈O:=λb hb=>(List.mem_filter.mp hb).1;have s:aP (hid H O) (hid H (O.filter λb=>decide (b≠a))):=gx sub;have na:a∉O.filter λb=>decide (b≠a):=λz=>absurd rfl (of_decide_eq_true (List.mem_filter.mp z).2);refine⟨O.filter λb=>decide (b≠a),⟨λj d' e=>?_,λj ys e=>?_,λj l ys zs b q1 q2 q3 q4=>?_,⟨E.all.1,λb hb=>E.all.2 b (sub b hb)⟩⟩,sub,λb hb nb=>?_⟩
  ·rcases aT e with⟨hj,q⟩|⟨ne,q⟩
   ·cases q;rw[hj];exact⟨.ref a,ha,hat.den s na⟩
   ·obtain⟨w,q1,q2⟩:=E.val j d' q;exact⟨w,q1,q2.mono s⟩
  ·rcases aT e with⟨_,q⟩|⟨ne,q⟩
   ·cases q
   ·obtain⟨b,q1,q2,q3⟩:=E.own j ys q;have nb:b≠a:=λz=>ne (E.one j i ys d a q hd (by rw[<-z];exact q1) ha);exact⟨b,q1,List.mem_filter.mpr ⟨q2,decide_eq_true nb⟩,q3.mono rfl s⟩
  ·rcases aT q1 with⟨_,q⟩|⟨_,q⟩
   ·cases q
   ·rcases aT q2 with⟨_,q'⟩|⟨_,q'⟩
    ·cases q'
    ·exact E.one j l ys zs b q q' q3 q4
  ·by_cases z:b=a
   ·exact⟨d,hd,by rw[z];exact ha⟩
   ·exact absurd (List.mem_filter.mpr ⟨hb,decide_eq_true z⟩) nb
 ·exact⟨O,E,λ_ z=>z,λb hb nb=>absurd hb nb⟩
theorem cW.frz{K:Pn}{Hb:Hp}{Ob O:aD}{H:Hp}{ρ:ao}{σ:St}(E:cW K Hb Ob O H ρ σ)(i:Nat):∃O',cW K Hb Ob O' H (frz i ρ) σ:=by
 obtain⟨O',E',sub,gone⟩:=E.env.frz i;refine⟨O',E',⟨E.base.same,λa ha=>?_,λa ha=>E.base.new a (sub a ha)⟩,λj xs a q1 q2=>?_,λj dn q1=>?_⟩
 ·by_cases z:a∈O'
  ·exact z
  ·obtain⟨d,e1,e2⟩:=gone a (E.base.sub a ha) z;exact absurd ha (E.mine i d a e1 e2).2
 ·have q:ρ[j]?=some (some (.own xs)):=by
   unfold TG.frz at q1;split at q1
   ·rcases aT q1 with⟨_,q⟩|⟨_,q⟩
    ·cases q
    ·exact q
   ·exact q1
  exact E.mine j xs a q q2
 ·have bk:∀(l:Nat) x,(TG.frz i ρ)[l]?=some (some x)->(∀d,x≠.val d)->ρ[l]?=some (some x):=λl x e nv=>by
   unfold TG.frz at e;split at e
   ·rcases aT e with⟨_,q⟩|⟨_,q⟩
    ·cases q;exact absurd rfl (nv _)
    ·exact q
   ·exact e
  refine(E.nst j dn (bk j _ q1 (λ_ z=>nomatch z))).to rfl (gx sub) (λb w1 w2 w3 w4 _=>⟨rfl,?_,w2,λl d1 w=>w4 l d1 (bk l _ w (λ_ z=>nomatch z))⟩) λl d1 w=>⟨d1,bk l _ w (λ_ z=>nomatch z)⟩
  by_cases z:b∈O'
  ·exact z
  ·obtain⟨d,e1,e2⟩:=gone b w1 z;exact absurd e2 (w4 i d e1)
noncomputable def Ad(i:Nat)(F:bw):bw:=λk ρ=>F k (frz i ρ)
noncomputable def frzs(is:List Nat)(ρ:ao):ao:=is.foldl (λρ i=>frz i ρ) ρ
end TG
namespace TG
open PySem PySem.Spec L2
variable[aw]
noncomputable def yg(K:Pn)(n:Nat)(g:bE):Sp:=λvs H Q E=>∃O ds,vs.length=n/\cY H O/\aG K (hid H O) ds vs/\match g ds with
 |.ok d=>∀v H',aP H H'->bJ K (hid H' O) d v->Q v H'
 |.error (some x)=>Ld K H O x E
 |.error none=>False
section
variable{X:Cx}{k:Nat}{f C:QO}{fd:RH}{ps:av}{sp:Sp}{x m:Str}{p pos apos:Pos}{e o:QP}{es:aR}{ta:TE}{t:TA}
theorem qO{pins:aM}{σ:St}{H:Hp}{s:QR}{Q:VK}{E:XK}{us:aS}{vs:aH}(F:eW X.prog X.w X.K X.mg X.base (jM X.prog X.w) k f fd ps sp)(hr:dY k X.A)(hb:Binds X.K fd ps [])(hx:iK (jM X.prog X.w) X σ E)
  (I:Inv X pins σ H s) (r:Vals vs us) (h:sp vs H Q E):Rc (model X.prog X.w) X.A (call (.ref f) us) (EP X pins σ Q) X.xe s:=by
 have hl:(us++[]).length=ps.length:=by rw[ND,<-r.length];exact F.len _ _ _ _ h
 have hb':=hb s us I.kIn hl;rw[ND]at hb';refine RK (RL (F.run X.A X.stack s H ⟨us,[]⟩ us vs Q E hr I.env0 hb' r h) λr s' hq=>?_);cases r with
 |error e=>exact hx pins H s e s' I hq
 |ok fl=>
  cases fl with
  |ret u=>exact I.after hq
  |next=>exact False.elim hq
  |brk=>exact False.elim hq
  |cont=>exact False.elim hq
noncomputable def zB(X:Cx)(sp:Sp)(t:TA):TE:=λσ H Q=>t σ H λvs H1=>∃E,iK (jM X.prog X.w) X σ E/\sp vs H1 Q E
theorem yE(F:eW X.prog X.w X.K X.mg X.base (jM X.prog X.w) k f fd ps sp)(hr:dY k X.A)(hg:Gl X x)(hm:X.mg x=some (.ref f))(hk:PQ X.K (.ref f)=true)(hb:Binds X.K fd ps [])
  (ha:PA X (e::es) t) (hdb:(x==("__debug__":Str))=false:=by decide) (he:Rf (e::es) X.env=(false,eval e X.env)::Rf es X.env:=by rfl) (hpl:(backTo pos (Rf es X.env)).any (·.1)=false:=by rfl):
  PE X (.Call (.Name x p) (e::es) [] pos) (zB X sp t):=by
 intro pins s σ H Q I h;refine RM (g9 I hg hm ?_ hdb);refine PR (h₀:=X.base) I.ok.mod.kin hk (bU (ha pos pins s σ H _ I h) λus s1 ⟨vs,H1,I1,r,E,hx,q⟩=>⟨I1.kIn,?_⟩) he hpl;exact qO F hr hb hx I1 r q
theorem xt{n:Nat}{g:bE}{f:aQ}(hn:∀ds,g ds≠un->ds.length=n):∀σ H Q,tF X (fR g f) σ H Q->zB X (yg X.K n g) (JP X f) σ H Q:=λσ H Q ⟨O,ρ,E,hF⟩=>
 ⟨O,ρ,E,(dJ.bind hF).imp fun ds hF vs H1 s1 d1=>by
  cases hg:g ds with
  |ok d=>
   rw[hg]at hF;refine⟨E0,vz,O,ds,by rw[<-d1.length];exact hn ds (by rw[hg];intro z;cases z),E.all.same s1,d1,?_⟩;rw[hg];exact λv H2 s2 d2=>hF v H2 (s1.trans s2) d2
  |error z=>
   rw[hg]at hF;cases z with
   |none=>exact hF.elim
   |some x=>
    refine⟨vp X O H1 x,vm (EJ.mono hF s1),O,ds,by rw[<-d1.length];exact hn ds (by rw[hg];intro z;cases z),E.all.same s1,d1,?_⟩;rw[hg];exact sy⟩
end
noncomputable def Callee(P:QT)(w:QS)(K:Pn)(mg:bF)(base:QV)(k:Nat)(x:Str)(ps:av)(g:bE):Prop:=
 ∃f fd,eW P w K mg base (jM P w) k f fd ps (yg K ps.length g)/\Binds K fd ps []/\PQ K (.ref f)=true/\mg x=some (.ref f)
noncomputable def Ar(n:Nat)(g:bE):Prop:=∀ds,g ds≠un->ds.length=n
noncomputable def K0:Ks:={nx:=λ_=>.ok .non}
noncomputable def env0(n:Nat)(ds:List D):ao:=ds.map (λd=>some (.val d))++List.replicate (n-ds.length) none
noncomputable def au(B:bw)(np n:Nat):bE:=λds=>if ds.length=np then B K0 (env0 n ds)else un
theorem eS{B:bw}{np n:Nat}:Ar np (au B np n):=λds h=>by
 unfold au at h;split at h
 ·assumption
 ·exact absurd rfl h
theorem iA{n:Nat}{ds:List D}(i:Nat)(x:S)(e:(env0 n ds)[i]?=some (some x)):∃d,ds[i]?=some d/\x=.val d:=by
 unfold env0 at e;by_cases hi:i<ds.length
 ·rw[NN (by rw[Ny];exact hi),NP,Oe hi]at e;have e':some (S.val ds[i])=some x:=Option.some.inj e;exact⟨ds[i],by rw[Oe hi],(Option.some.inj e').symm⟩
 ·rw[NK (by rw[Ny];omega),Ny,NM]at e;split at e
  ·cases e
  ·cases e
theorem uo{K:Pn}{O:aD}{H:Hp}{N:av}{ds:List D}{vs:aH}(hO:cY H O)(h:aG K (hid H O) ds vs):cM K O H (env0 N.length ds) (L2.start N vs):=by
 refine⟨λi d e=>?_,λi xs e=>?_,λi j xs ys a e=>?_,hO⟩
 ·obtain⟨d',e1,e2⟩:=iA i _ e;cases e2;obtain⟨v,e3,e4⟩:=h.get e1;refine⟨v,?_,e4⟩;unfold L2.start;have hi:i<vs.length:=(List.getElem?_eq_some_iff.mp e3).1;rw[NN (by rw[Ny];exact hi),NP,e3];rfl
 ·obtain⟨d',_,e2⟩:=iA i _ e;cases e2
 ·obtain⟨d',_,e2⟩:=iA i _ e;cases e2
section
variable{P:QT}{w:QS}{K:Pn}{mg:bF}{base:QV}
structure BodyOk(P:QT)(w:QS)(K:Pn)(mg:bF)(base:QV)(k:Nat)(N:av)(qual:Str)(st:QQ)(f:QO)(B:bw):Prop where
 h:∀(cdv:QM)(A:QZ)(outer:List Env)(s:QR)(H:Hp)(E:XK),dY k (A.deeper (Qz qual (aF st) s.heap.objs.size f cdv))->Rn (model P w) (A.deeper (Qz qual (aF st) s.heap.objs.size f cdv)) (Qz qual (aF st) s.heap.objs.size f cdv) (ir (jM P w) P w K mg base N qual (aF st) f cdv A outer s H E).xe->
  Ja (ir (jM P w) P w K mg base N qual (aF st) f cdv A outer s H E) (cU st) B
theorem KW{x qual:Str}{st:QQ}{f:QO}{fd:RH}{N ps:av}{k:Nat}{sp:Sp}{CX:t9}(F:ow K x qual st f fd)(S:bX N ps (aF st))(len:∀vs H Q E,sp vs H Q E->vs.length=ps.length)
  (hbody:∀ (cdv:QM) (A:QZ) (outer:List Env) (s:QR) (H:Hp) (vs:aH) (Q:VK) (E:XK),dY k (A.deeper (Qz qual (aF st) s.heap.objs.size f cdv))->sp vs H Q E ->
   ∃t,pR (ir CX P w K mg base N qual (aF st) f cdv A outer s H E) (cU st) t/\t {nx:=λ_ H'=>Q .non H',rt:=Q} (L2.start N vs) H):eW P w K mg base CX (k+1) f fd ps sp:=by
 obtain⟨oc,od,kV,doc,pm,an,cdv,ct,osl,rfl,lk,hcd⟩:=F.ex;exact DW lk hcd S len λA outer s H vs Q E hr hsp=>hbody cdv A outer s H vs Q E hr hsp
theorem eW.any{CX:t9}{k:Nat}{f:QO}{fd:RH}{ps:av}{sp:Sp}(F:eW P w K mg base HD k f fd ps sp):eW P w K mg base CX k f fd ps sp:=
 ⟨F.len,fun A outer s H args us vs Q E hr he hb hv hs=>RL (F.run A outer s H args us vs Q E hr he hb hv hs) fun r s' h=>by
  cases r with
  |error e=>exact False.elim h
  |ok fl=>cases fl<;>exact h⟩
theorem qZ{x qual:Str}{st:QQ}{f:QO}{fd:RH}{N ps:av}{k:Nat}{B:bw}(F:ow K x qual st f fd)(SC:bX N ps (aF st))(hb:BodyOk P w K mg base k N qual st f B):
  eW P w K mg base (jM P w) (k+1) f fd ps (yg K ps.length (au B ps.length N.length)):=by
 refine KW F SC (λvs H Q E h=>?_) λcdv A outer s H vs Q E hr h=>?_
 ·obtain⟨O,ds,h1,_⟩:=h;exact h1
 ·obtain⟨O,ds,h1,h2,h3,h4⟩:=h;have hl:ds.length=ps.length:=h3.length.trans h1;have e4:au B ps.length N.length ds=B K0 (env0 N.length ds):=by unfold au;rw[if_pos hl]
  rw[e4]at h4;refine⟨_,hb.h cdv A outer s H E hr PassesOwn.leaving H O,O,env0 N.length ds,K0,_,⟨uo h2 h3,⟨aP.refl H,λ_ z=>z,λa z=>.inl z⟩,λi xs a e=>?_,λi d e=>by obtain⟨d',_,e2⟩:=iA i _ e;cases e2⟩,rfl,?_⟩
  ·obtain⟨d',_,e2⟩:=iA i _ e;cases e2
  ·generalize B K0 (env0 N.length ds)=r at h4;refine⟨λz=>by rw[z]at h4;exact h4,λO' ρ' σ' H' S e=>?_,λO' ρ' σ' H' S e=>?_,λO' ρ' σ' H' S e=>?_,λd O' v H' e b dv=>?_,λO' ρ' σ' H' x S e=>?_⟩
   ·have e:(.ok .non:R D)=r:=e;subst e;exact h4 .non H' S.base.same (gC.mpr rfl)
   ·have e:(un:R D)=r:=e;subst e;exact h4.elim
   ·have e:(un:R D)=r:=e;subst e;exact h4.elim
   ·subst e;exact h4 v H' b.same (dv.mono (gx b.sub))
   ·have e:(.error (some x):R D)=r:=e;subst e;exact Gq h4 S.base.same S.base.sub
theorem yA{x qual:Str}{st:QQ}{f:QO}{fd:RH}{N ps:av}{k:Nat}{B:bw}(F:ow K x qual st f fd)(b:Binds K fd ps [])(m:mg x=some (.ref f))(SC:bX N ps (aF st))(hb:BodyOk P w K mg base k N qual st f B):
  Callee P w K mg base (k+1) x ps (au B ps.length N.length):=⟨f,fd,qZ F SC hb,b,F.kp,m⟩
theorem sP{x qual:Str}{st:QQ}{f:QO}{fd:RH}{ps:av}(k:Nat)(F:ow K x qual st f fd)(b:Binds K fd ps [])(m:mg x=some (.ref f)):Callee P w K mg base k x ps (λ_=>un):=by
 have no:∀vs H Q E,¬yg K ps.length (λ_=>un) vs H Q E:=λvs H Q E ⟨O,ds,_,_,_,e⟩=>e;exact⟨f,fd,⟨λvs H Q E h=>absurd h (no vs H Q E),λA outer s H args us vs Q E _ _ _ _ h=>absurd h (no vs H Q E)⟩,b,F.kp,m⟩
end
theorem mB{K:Pn}{T:String}(h1:P5 K (.type "NoneType") (.type T)=some (T=="NoneType"))(h2:P5 K (.type "bool") (.type T)=some (T=="bool"||T=="int"))(h3:P5 K (.type "int") (.type T)=some (T=="int"))(h4:P5 K (.type "str") (.type T)=some (T=="str"))
  (h5:P5 K (.type "tuple") (.type T)=some (T=="tuple")) (h6:P5 K (.type "list") (.type T)=some (T=="list")):tZ K T:=λd hd=>by
 cases d with
 |dct _ _=>cases hd
 |obj _ _ _=>cases hd
 |exc _ _ _=>cases hd
 |non=>exact h1
 |bl _=>exact h2
 |int _=>exact h3
 |str _=>exact h4
 |tup _=>exact h5
 |lst _=>exact h6
theorem yX{K:Pn}:tZ K "int":=mB rfl rfl rfl rfl rfl rfl
theorem xS{K:Pn}:tZ K "bool":=mB rfl rfl rfl rfl rfl rfl
theorem zh{K:Pn}:tZ K "str":=mB rfl rfl rfl rfl rfl rfl
theorem uJ{K:Pn}:tZ K "tuple":=mB rfl rfl rfl rfl rfl rfl
end TG
namespace TG
open PySem PySem.Spec L2
variable[aw]
section
variable{X:Cx}{a b c:QP}{fa fb fc:FX}{pos:Pos}
theorem Ey{r:V->Hp->VK->Prop}{g:D->aY}(s:CY X.K r g):∀σ H Q,tF X (f1 g fa) σ H Q->Lx r (tF X fa) σ H Q:=λσ H Q ⟨O,ρ,E,hF⟩=>⟨O,ρ,E,(dJ.bind hF).imp λa hF x H1 s1 d1=>by
 obtain⟨d,e,q⟩:=dJ.rO hF;exact s a d x O H1 Q (E.all.same s1) e d1 λv H2 s2 d2=>q v H2 (s1.trans s2) d2⟩
noncomputable def js(g g':D->D->aY)(fa fb fc:FX):FX:=λρ=>(fa ρ).bind λx=>(fb ρ).bind λy=>(rO (g x y)).bind λz=>uM z ((fc ρ).bind λw=>rO (g' y w))
theorem oV{r r':R2}{g g':D->D->aY}(s:cJ X.K r g)(s':cJ X.K r' g'):∀σ H Q,tF X (js g g' fa fb fc) σ H Q->uq r r' (tF X fa) (tF X fb) (tF X fc) σ H Q:=λσ H Q ⟨O,ρ,E,hF⟩=>
 ⟨O,ρ,E,(dJ.bind hF).imp fun x hF v1 H1 s1 d1=>⟨O,ρ,E.same s1,((dJ.bind hF).mono s1).imp fun y hF v2 H2 s2 d2=>by
  obtain⟨z,e3,hF⟩:=dJ.rO (dJ.bind hF);refine s x y z v1 v2 O H2 _ (E.all.same (s1.trans s2)) e3 (d1.mono (bn s2)) d2 λv3 H3 s3 d3=>?_;cases z with
  |bl k=>
   refine⟨k,gF.mp d3,?_⟩;cases k with
   |false=>exact qL (hF _ H3 ((s1.trans s2).trans s3) (gF.mpr rfl))
   |true=>
    refine qq ⟨O,ρ,E.same ((s1.trans s2).trans s3),((dJ.bind (show dJ X σ O H ((fc ρ).bind λw=>rO (g' y w)) _ from hF)).mono ((s1.trans s2).trans s3)).imp λw hF v4 H4 s4 d4=>?_⟩;obtain⟨d,e5,q⟩:=dJ.rO hF;exact s' y w d v2 v4 O H4 Q (E.all.same (((s1.trans s2).trans s3).trans s4)) e5 (d2.mono (bn (s3.trans s4))) d4 λv5 H5 s5 d5=>q v5 H5 ((((s1.trans s2).trans s3).trans s4).trans s5) d5
  |_=>exact hF.elim⟩⟩
noncomputable def E5:D->aY
 |.int i=>some (.int (-i))
 |_=>none
noncomputable def uS(f:FX):FX:=f1 E5 f
noncomputable def MH:List D->aY
 |[.int i]=>if decide (i.natAbs.log2<1920)then some (.str (toString i))else none
 |_=>none
noncomputable def zk:D->aY
 |.str x=>if small x.length then some (.str (Txt.upper x))else none
 |_=>none
noncomputable def Fw(f:FX):FX:=f1 zk f
noncomputable def Gm:D->aY
 |.lst xs=>some (.lst xs.reverse)
 |.tup xs=>some (.tup xs.reverse)
 |_=>none
noncomputable def K5(f:FX):FX:=f1 Gm f
noncomputable def allB:List D->Option Bool
 |[]=>some true
 |.bl b::r=>(allB r).bind λc=>some (b&&c)
 |_=>none
noncomputable def uR:List D->aY
 |[.lst xs]=>(allB xs).bind λb=>some (.bl b)
 |_=>none
theorem sU:∀{xs:List D}{b:Bool},allB xs=some b->∃bs:List Bool,xs=bs.map .bl/\b=bs.all id
 |[],b,h=>by cases h;exact⟨[],rfl,rfl⟩
 |.bl x::r,b,h=>by
  obtain⟨c,e1,e2⟩:=bind_some (show((allB r).bind λc=>some (x&&c))=some b from h);cases e2;obtain⟨bs,e3,e4⟩:=sU e1;exact⟨x::bs,by rw[Nx,e3],by rw[Oc,e4];rfl⟩
 |.non::_,_,h=>by cases h
 |.int _::_,_,h=>by cases h
 |.str _::_,_,h=>by cases h
 |.tup _::_,_,h=>by cases h
 |.lst _::_,_,h=>by cases h
 |.dct _ _::_,_,h=>by cases h
 |.obj _ _ _::_,_,h=>by cases h
 |.exc _ _ _::_,_,h=>by cases h
theorem jy{K:Pn}{H:Hp}:∀{bs:List Bool}{vs:aH}{us:aS},aG K H (bs.map .bl) vs->Vals vs us->us=bs.map Value.bool
 |[],vs,us,h,r=>by
  rw[NX,bB]at h;subst h;cases r;rfl
 |b::bs,vs,us,h,r=>by
  rw[Nx,aI]at h;obtain⟨v,r',e,h1,h2⟩:=h;subst e;cases r with
  |cons q1 q2=>
   rw[gF]at h1;subst h1;cases q1;rw[Nx,jy h2 q2]
theorem range_all(bs:List Bool):((List.range bs.length).all λi=>(bs[i]?).getD true)=bs.all id:=by
 induction bs with
 |nil=>rfl
 |cons b bs ih=>
  rw[Nw,Od,Oc,List.all_map,Oc,<-ih];rfl
theorem yp(hc:X.calm=true):dh X (.builtin "all") (Au X.K uR):=by
 rintro pins s σ H xs us Q I r ⟨O,ds,d,hO,hd,hg,q⟩;unfold uR at hg;split at hg
 ·rename_i ys;obtain⟨bv,e1,e2⟩:=bind_some hg;cases e2;obtain⟨bs,eb,ev⟩:=sU e1;subst eb ev;obtain⟨v,evv,h1⟩:=hd.one;subst evv;obtain⟨p,vs,ep,g1,g2⟩:=bP.mp h1;subst ep;obtain⟨u,eu,ru⟩:=vals1 r;subst eu;cases ru;obtain⟨its,rv,pl,hz⟩:=I.list ((ax H O).seq g1);have ei:=jy g2 rv;have hl:=pl.isList;have hlt:p<s.heap.objs.size:=by obtain⟨_,e,_⟩:=hl;exact Qm e
  refine call_all_walk (Rr hl ?_);refine⟨s.heap.objs.size,[s.heap.objs.size,p],[s.heap.objs.size],its.toArray.size,_,_,λi=>(bs[i]?).getD true,rfl,Walks.list (A:=X.A.in1) (I.ok.hd hc) _ p (Nc hlt) its.toArray,
   ⟨⟨_,Qq _ rfl,rfl,rfl⟩,hl.push _⟩,λi v s' Q' E' hP hQ=>?_,λh' tk hk=>?_⟩
  ·have e:bs[i]?.map Value.bool=some v:=by
    rw[<-NP,<-ei]
    simpa using hP
   cases eb:bs[i]? with
   |none=>rw[eb]at e;cases e
   |some b=>
    rw[eb]at e;cases e;simp only[eb,Oy]at hQ;exact Rl hQ
  ·have e:((List.range its.toArray.size).all λi=>(bs[i]?).getD true)=bs.all id:=by
    have:its.toArray.size=bs.length:=(by rw[Nv,ei,Ny]);rw[this];exact range_all bs
   rw[e];have k:∀b x,s.heap.get? b=some x->h'.get? b=some x:=λb x e=>hk b x (λhm=>by rw[List.mem_singleton.mp hm]at e;exact Nb _ (Qm e)) (Qp _ e);exact⟨.bl _,H,I.kept k,rfl,q _ H (aP.refl H) (gF.mpr rfl)⟩
 ·cases hg
end
end TG
namespace ZI
open PySem PySem.Spec PyProof.Rows
section
variable{prog:QT}{w:QS}{A:QZ}{E:QM->QR->Prop}{s:QR}
theorem uI{it t:QO}{i:Nat}{its:Array QM}{x:QM}{Q:QM->QR->Prop}(hit:s.heap.IsTupleIter it t i)(ht:s.heap.IsTuple t its)(hx:its[i]?=some x)
  (hQ:∀g,g.IsTupleIter it t (i+1)->Qo it s.heap g->Q x {s with heap:=g}):Rc (model prog w) A (Builtin.SmallTypes.nextOf (.ref it)) Q E s:=by
 obtain⟨ob,h1,h2,h3⟩:=id hit;obtain⟨ol,g1,_,n,g2⟩:=ht;unfold Builtin.SmallTypes.nextOf;refine Rq (RV (name:=Str.ofString "__next__") hit.typeIs F.slot_tuple_iterator_next (RW F.slot_tuple_iterator_next hit.typeIs F.entry_tuple_iterator_next ?_ (F.args_tuple_iterator_next_1 _)));show Rc _ _ (field (.ref it) 0 >>= _) _ _ s;refine Rq (RT h1 h3 (x:=.ref t) rfl ?_);show Rc _ _ (if(Value.ref t==Value.none)=true then _ else _) _ _ s;rw[if_neg (show¬((Value.ref t==Value.none)=true)from λz=>Nq z)];show Rc _ _ (field (.ref it) 1 >>= _) _ _ s;refine Rq (RT h1 h3 (x:=.int i 0) rfl ?_);show Rc _ _ (seqItems? (.ref t) >>= _) _ _ s;refine Rq (R7 g1 g2 ?_);simp only[NS,hx];refine Rq (wpAny_setField h1 h3 (by simp) (Rp ⟨x,rfl,Rp (hQ _ ⟨_,Qt _ h1 (Obj.isFreed_of_fields (Obj.data_mapFields h3 _)),(Obj.cls_mapFields ..).trans h2,by rw[Obj.data_mapFields h3];simp[rawInt]⟩ (Heap.SameBut.update ..))⟩))
theorem xY{it t:QO}{i:Nat}{its:Array QM}{Q:QM->QR->Prop}(hh:A.handled=none)(hit:s.heap.IsTupleIter it t i)(ht:s.heap.IsTuple t its)(hx:its[i]?=none)
  (hE:∀g e,Heap.ExtBut it s.heap g->(∃o,g.get? e=some o/\o.cls=.type "StopIteration")->E (.ref e) {s with heap:=g}):Rc (model prog w) A (Builtin.SmallTypes.nextOf (.ref it)) Q E s:=by
 obtain⟨ob,h1,h2,h3⟩:=id hit;obtain⟨ol,g1,_,n,g2⟩:=ht;unfold Builtin.SmallTypes.nextOf;refine Rq (RV (name:=Str.ofString "__next__") hit.typeIs F.slot_tuple_iterator_next (RW F.slot_tuple_iterator_next hit.typeIs F.entry_tuple_iterator_next ?_ (F.args_tuple_iterator_next_1 _)));show Rc _ _ (field (.ref it) 0 >>= _) _ _ s;refine Rq (RT h1 h3 (x:=.ref t) rfl ?_);show Rc _ _ (if(Value.ref t==Value.none)=true then _ else _) _ _ s;rw[if_neg (show¬((Value.ref t==Value.none)=true)from λz=>Nq z)];show Rc _ _ (field (.ref it) 1 >>= _) _ _ s;refine Rq (RT h1 h3 (x:=.int i 0) rfl ?_);show Rc _ _ (seqItems? (.ref t) >>= _) _ _ s;refine Rq (R7 g1 g2 ?_);simp only[NS,hx];refine Rq (R4 (Rq (wpAny_setField h1 h3 (by simp) ?_)));show Rc _ _ (newExc (.type "StopIteration") [] >>= _) _ _ _;refine Rq ?_;simp only[newExc,newTuple];refine Rq (RY ?_ (by size_fits));refine Rq (m:=firstArgMember _ _) (wpAny_of_eq (a:=Value.none) (by first|rfl|(simp only[firstArgMember];rfl)) ?_);refine RY ?_ (by size_fits);simp only[raiseNew];refine Rq (wpAny_handled ?_)
 first|rw[show A.in1.handled=none from hh]|rw[hh]
 refine Rq (Rp (wpAny_throw ?_));exact hE _ _ (((Heap.SameBut.update ..).extBut.push _).push _) ⟨_,Qq _ rfl,rfl⟩
end
theorem EA{prog:QT}{w:QS}{A:QZ}(hh:A.handled=none)(it t:QO)(hne:t≠it)(its:Array QM):Draws prog w A it [it,t] its.size (λi v=>its[i]?=some v) (λi h=>h.IsTupleIter it t i/\h.IsTuple t its)where
 live:=λi h ⟨⟨o,e,_⟩,_⟩=>⟨o,e⟩
 frame:=λi h h' ⟨x,y⟩ k=>⟨x.at λo e=>k it (by simp) o e,let ⟨o,e,r⟩:=y;⟨o,k t (by simp) o e,r⟩⟩
 item:=λi s Q E hi ⟨x,y⟩ hQ=>uI x y (Array.getElem?_eq_getElem hi) λg hg hs=>hQ _ g s.toks (Array.getElem?_eq_getElem hi) ⟨hg,let ⟨o,e,r⟩:=y;⟨o,(hs.2 t hne).trans e,r⟩⟩ hs
 done:=λs Q E ⟨x,y⟩ hE=>xY hh x y (by simp) hE
structure Apart(z TI TO i1 i2:QO)(fp1 fp2:List QO):Prop where
 a1:TI≠z
 a2:TO≠z
 a3:TI≠TO
 b1:z∉fp1
 b2:TO∉fp1
 b3:i2∉fp1
 c1:z∉fp2
 c2:TO∉fp2
 c3:i1∉fp2
 d1:TI≠i1
 d2:TI≠i2
 e1:i1∈fp1
 e2:i2∈fp2
section
variable{prog:QT}{w:QS}{A:QZ}{E:QM->QR->Prop}{s:QR}{z TI TO i1 i2:QO}{fp1 fp2:List QO}{n1 n2 i:Nat}{P1 P2:Nat->QM->Prop}{S1 S2:Nat->QV->Prop}{a b:QM}
theorem next_item{Q:QM->QR->Prop}(Ap:Apart z TI TO i1 i2 fp1 fp2)(D1:Draws prog w A i1 fp1 n1 P1 S1)(D2:Draws prog w A i2 fp2 n2 P2 S2)(hz:R8 s.heap z TI TO .none)(hTI:R9 s.heap TI (.ref i1) (.ref i2))(hTO:R9 s.heap TO a b)(st1:S1 i s.heap)(st2:S2 i s.heap)(l1:i<n1)(l2:i<n2)
  (hQ:∀ x y g tk,P1 i x->P2 i y->R8 g z TI TO (rawInt s.heap.objs.size)->R9 g TO x y->S1 (i+1) g->S2 (i+1) g->R9 g s.heap.objs.size x y->g.objs.size=s.heap.objs.size+1 ->
   (∀c o,c≠z->c≠TO->c≠i1->c≠i2->s.heap.get? c=some o->g.get? c=some o)->Q (.ref s.heap.objs.size) {s with heap:=g,toks:=tk}):
  Rc (model prog w) A (Builtin.«zip.__next__» ⟨[.ref z],[]⟩) (λfin s'=>∃v,fin=.done (.ret v)/\Q v s') E s:=by
 have n1z:i1≠z:=λe=>Ap.b1 (e ▸ Ap.e1);have n2z:i2≠z:=λe=>Ap.c1 (e ▸ Ap.e2);have n1T:i1≠TO:=λe=>Ap.b2 (e ▸ Ap.e1);have n2T:i2≠TO:=λe=>Ap.c2 (e ▸ Ap.e2);show Rc _ _ (field (.ref z) 2 >>= _) _ _ _;refine Rq (RT hz rfl (x:=.bool false) rfl ?_);show Rc _ _ (field (.ref z) 3 >>= _) _ _ _;refine Rq (RT hz rfl (x:=.ref TI) rfl ?_);refine Rq (R7 hTI rfl ?_);show Rc _ _ (Builtin.SmallTypes.ownedTupleIsFree (.ref z) >>= _) _ _ _;refine Rq ?_;unfold Builtin.SmallTypes.ownedTupleIsFree;refine Rq (RT hz rfl (x:=.none) rfl (Rp ?_));simp only[if_true];refine Rq (R4 ?_);refine Rq (RT hz rfl (x:=.ref TO) rfl ?_);refine Rq (Sa hz (by simp) λg1 hz1 k1=>?_);have hz1:R8 g1 z TI TO .ellipsis:=hz1;refine Rq ?_;simp only[List.zipIdx_cons,List.zipIdx_nil,N4,List.forIn_nil];refine Rq (Rq (Sb ?_));show Rc _ _ (Builtin.SmallTypes.nextOf (.ref i1) >>= _) _ _ _;have q1:S1 i g1:=D1.frame _ _ _ st1 λb hb o e=>k1.extBut _ _ (λz'=>Ap.b1 (z' ▸ hb)) e;refine Rq (D1.item i {s with heap:=g1} _ _ l1 q1 λx g2 tk2 p1 q2 k2=>Rp ?_);have t2:R9 g2 TO a b:=k2.extBut _ _ n1T.symm (k1.extBut _ _ Ap.a2 hTO);refine Rq (R7 t2 rfl ?_);refine Rq (Sd t2 λg3 t3 k3=>?_);have t3:R9 g3 TO x b:=t3;refine Rq (wpAny_letGo (Rp ?_));refine Rq (Rq (Sb ?_));show Rc _ _ (Builtin.SmallTypes.nextOf (.ref i2) >>= _) _ _ _;have q3:S2 i g3:=D2.frame _ _ _ st2 λb hb o e=>k3.extBut _ _ (λz'=>Ap.c2 (z' ▸ hb)) (k2.extBut _ _ (λz'=>Ap.c3 (z' ▸ hb)) (k1.extBut _ _ (λz'=>Ap.c1 (z' ▸ hb)) e));refine Rq (D2.item i {s with heap:=g3,toks:=tk2} _ _ l2 q3 λy g4 tk4 p2 q4 k4=>Rp ?_);have t4:R9 g4 TO x b:=k4.extBut _ _ n2T.symm t3;refine Rq (R7 t4 rfl ?_);refine Rq (Sd t4 λg5 t5 k5=>?_);have t5:R9 g5 TO x y:=t5;refine Rq (wpAny_letGo (Rp (Rp ?_)));refine Rq (R7 t5 rfl ?_);refine Rq (wpAny_newTuple ?_);have hsz:g5.objs.size=s.heap.objs.size:=by rw[k5.1,k4.1,k3.1,k2.1,k1.1]
 have hz5:R8 g5 z TI TO .ellipsis:=k5.extBut _ _ Ap.a2.symm (k4.extBut _ _ n2z.symm (k3.extBut _ _ Ap.a2.symm (k2.extBut _ _ n1z.symm hz1)));have k15:∀c o,c≠z->c≠TO->c≠i1->c≠i2->s.heap.get? c=some o->g5.get? c=some o:=λc o c1 c2 c3 c4 e=>k5.extBut _ _ c2 (k4.extBut _ _ c4 (k3.extBut _ _ c2 (k2.extBut _ _ c3 (k1.extBut _ _ c1 e))));have r1:S1 (i+1) g5:=D1.frame _ _ _ q2 λb hb o e=>k5.extBut _ _ (λz'=>Ap.b2 (z' ▸ hb)) (k4.extBut _ _ (λz'=>Ap.b3 (z' ▸ hb)) (k3.extBut _ _ (λz'=>Ap.b2 (z' ▸ hb)) e));have r2:S2 (i+1) g5:=D2.frame _ _ _ q4 λb hb o e=>k5.extBut _ _ (λz'=>Ap.c2 (z' ▸ hb)) e;have lz:z<g5.objs.size:=Qm hz5;show Rc _ _ (Builtin.SmallTypes.ownedTupleHandOut (.ref z) (.ref g5.objs.size) >>= _) _ _ _;refine Rq ?_;unfold Builtin.SmallTypes.ownedTupleHandOut;have hz6:R8 (g5.push {cls:=.type "tuple",data:=.seq #[x,y]}) z TI TO .ellipsis:=Qp _ hz5;refine Rq (Sa hz6 (by simp) λg7 hz7 k7=>?_);have hz7:R8 g7 z TI TO (rawInt g5.objs.size):=hz7;refine Sa hz7 (by simp) λg8 hz8 k8=>?_;have hz8:R8 g8 z TI TO (rawInt g5.objs.size):=hz8;have up:∀c o,c≠z->g5.get? c=some o->g8.get? c=some o:=λc o c1 e=>k8.extBut _ _ c1 (k7.extBut _ _ c1 (Qp _ e));have t8:R9 g8 g5.objs.size x y:=k8.extBut _ _ (Nr lz) (k7.extBut _ _ (Nr lz) (Qq _ rfl));have s8:g8.objs.size=g5.objs.size+1:=by rw[k8.1,k7.1,Qr]
 rw[hsz]at hz8 t8 s8;refine Rp ⟨_,rfl,?_⟩;show Q (.ref g5.objs.size) _;rw[hsz];exact hQ x y g8 tk4 p1 p2 hz8 (up _ _ Ap.a2 t5) (D1.frame _ _ _ r1 λb hb o e=>up b o (λz'=>Ap.b1 (z' ▸ hb)) e) (D2.frame _ _ _ r2 λb hb o e=>up b o (λz'=>Ap.c1 (z' ▸ hb)) e) t8 s8 λc o c1 c2 c3 c4 e=>up c o c1 (k15 c o c1 c2 c3 c4 e)
theorem next_end{Q:Fin->QR->Prop}(Ap:Apart z TI TO i1 i2 fp1 fp2)(D1:Draws prog w A i1 fp1 n1 P1 S1)(D2:Draws prog w A i2 fp2 n2 P2 S2)(hz:R8 s.heap z TI TO .none)(hTI:R9 s.heap TI (.ref i1) (.ref i2))(hTO:R9 s.heap TO a b)(st1:S1 i s.heap)(st2:S2 i s.heap)(hend:i=n1\/(i<n1/\i=n2))
  (hE:∀g e tk,(∀c o,c≠z->c≠TO->c≠i1->c≠i2->s.heap.get? c=some o->g.get? c=some o)->(∃o,g.get? e=some o/\o.cls=.type "StopIteration")->E (.ref e) {s with heap:=g,toks:=tk}):
  Rc (model prog w) A (Builtin.«zip.__next__» ⟨[.ref z],[]⟩) Q E s:=by
 have n1z:i1≠z:=λe=>Ap.b1 (e ▸ Ap.e1);have n2z:i2≠z:=λe=>Ap.c1 (e ▸ Ap.e2);have n1T:i1≠TO:=λe=>Ap.b2 (e ▸ Ap.e1);show Rc _ _ (field (.ref z) 2 >>= _) _ _ _;refine Rq (RT hz rfl (x:=.bool false) rfl ?_);show Rc _ _ (field (.ref z) 3 >>= _) _ _ _;refine Rq (RT hz rfl (x:=.ref TI) rfl ?_);refine Rq (R7 hTI rfl ?_);show Rc _ _ (Builtin.SmallTypes.ownedTupleIsFree (.ref z) >>= _) _ _ _;refine Rq ?_;unfold Builtin.SmallTypes.ownedTupleIsFree;refine Rq (RT hz rfl (x:=.none) rfl (Rp ?_));simp only[if_true];refine Rq (R4 ?_);refine Rq (RT hz rfl (x:=.ref TO) rfl ?_);refine Rq (Sa hz (by simp) λg1 hz1 k1=>?_);have hz1:R8 g1 z TI TO .ellipsis:=hz1;refine Rq ?_;simp only[List.zipIdx_cons,List.zipIdx_nil,N4,List.forIn_nil];refine Rq (Rq (Sb ?_));show Rc _ _ (Builtin.SmallTypes.nextOf (.ref i1) >>= _) _ _ _;have q1:S1 i g1:=D1.frame _ _ _ st1 λb hb o e=>k1.extBut _ _ (λz'=>Ap.b1 (z' ▸ hb)) e;rcases hend with hend|⟨l1,hend⟩
 ·subst hend;refine Rq (D1.done {s with heap:=g1} _ _ q1 λg2 e k2 he=>?_);obtain⟨oe,hoe,hce⟩:=he;have hz2:R8 g2 z TI TO .ellipsis:=k2 _ _ n1z.symm hz1;have hez:e≠z:=λx=>by rw[x,hz2]at hoe;cases hoe;simp at hce
  exact Sa hz2 (by simp) λg3 _ k3=>hE g3 e s.toks (λc o c1 _ c3 _ x=>k3.extBut _ _ c1 (k2 _ _ c3 (k1.extBut _ _ c1 x))) ⟨oe,k3.extBut _ _ hez hoe,hce⟩
 ·refine Rq (D1.item i {s with heap:=g1} _ _ l1 q1 λx g2 tk2 p1 q2 k2=>Rp ?_);have t2:R9 g2 TO a b:=k2.extBut _ _ n1T.symm (k1.extBut _ _ Ap.a2 hTO);refine Rq (R7 t2 rfl ?_);refine Rq (Sd t2 λg3 t3 k3=>?_);refine Rq (wpAny_letGo (Rp ?_));refine Rq (Rq (Sb ?_));show Rc _ _ (Builtin.SmallTypes.nextOf (.ref i2) >>= _) _ _ _;have q3:S2 i g3:=D2.frame _ _ _ st2 λb hb o e=>k3.extBut _ _ (λz'=>Ap.c2 (z' ▸ hb)) (k2.extBut _ _ (λz'=>Ap.c3 (z' ▸ hb)) (k1.extBut _ _ (λz'=>Ap.c1 (z' ▸ hb)) e));subst hend;refine Rq (D2.done {s with heap:=g3,toks:=tk2} _ _ q3 λg4 e k4 he=>?_);obtain⟨oe,hoe,hce⟩:=he;have hz4:R8 g4 z TI TO .ellipsis:=k4 _ _ n2z.symm (k3.extBut _ _ Ap.a2.symm (k2.extBut _ _ n1z.symm hz1));have hez:e≠z:=λx=>by rw[x,hz4]at hoe;cases hoe;simp at hce
  exact Sa hz4 (by simp) λg5 _ k5=>hE g5 e tk2 (λc o c1 c2 c3 c4 x=>k5.extBut _ _ c1 (k4 _ _ c4 (k3.extBut _ _ c2 (k2.extBut _ _ c3 (k1.extBut _ _ c1 x))))) ⟨oe,k5.extBut _ _ hez hoe,hce⟩
end
noncomputable def SQ(b:Bool)(h:QV)(l:QO)(xs:Array QM):Prop:=if b then h.IsList l xs else h.IsTuple l xs
noncomputable def SI(b:Bool)(h:QV)(i l:QO)(k:Nat):Prop:=if b then h.IsListIter i l k else h.IsTupleIter i l k
noncomputable def Jm(b:Bool):String:=if b then"list_iterator"else"tuple_iterator"
theorem SQ.keep{b:Bool}{h h':QV}{l:QO}{xs:Array QM}(x:SQ b h l xs)(k:∀o,h.get? l=some o->h'.get? l=some o):SQ b h' l xs:=by
 cases b with
 |true=>exact Heap.IsList.at x k
 |false=>obtain⟨o,e,r⟩:=(show h.IsTuple l xs from x);exact(show h'.IsTuple l xs from⟨o,k o e,r⟩)
theorem SI.keep{b:Bool}{h h':QV}{i l:QO}{n:Nat}(x:SI b h i l n)(k:∀o,h.get? i=some o->h'.get? i=some o):SI b h' i l n:=by
 cases b with
 |true=>exact Heap.IsListIter.at x k
 |false=>exact Heap.IsTupleIter.at x k
theorem SQ.lt{b:Bool}{h:QV}{l:QO}{xs:Array QM}(x:SQ b h l xs):l<h.objs.size:=by
 cases b with
 |true=>obtain⟨o,e,_⟩:=(show h.IsList l xs from x);exact Qm e
 |false=>obtain⟨o,e,_⟩:=(show h.IsTuple l xs from x);exact Qm e
theorem SI.get{b:Bool}{h:QV}{i l:QO}{n:Nat}(x:SI b h i l n):∃o,h.get? i=some o/\∀v,o.data≠.cell v:=by
 cases b with
 |true=>obtain⟨o,e,_,d⟩:=(show h.IsListIter i l n from x);exact⟨o,e,λv z=>by rw[d]at z;cases z⟩
 |false=>obtain⟨o,e,_,d⟩:=(show h.IsTupleIter i l n from x);exact⟨o,e,λv z=>by rw[d]at z;cases z⟩
theorem SI.new{b:Bool}{h:QV}{l:QO}:SI b (h.push {cls:=.type (Jm b),data:=.fields #[.ref l,.int 0 0]}) h.objs.size l 0:=by
 cases b with
 |true=>exact⟨_,Qq _ rfl,rfl,rfl⟩
 |false=>exact⟨_,Qq _ rfl,rfl,rfl⟩
theorem nT{b:Bool}{prog:QT}{w:QS}{A:QZ}{E:QM->QR->Prop}{s:QR}{l:QO}{xs:Array QM}{Q:QM->QR->Prop}(h:SQ b s.heap l xs)
  (hQ:Q (.ref s.heap.objs.size) {s with heap:=s.heap.push {cls:=.type (Jm b),data:=.fields #[.ref l,.int 0 0]}}):Rc (model prog w) A (pyIter (.ref l)) Q E s:=by
 cases b with
 |true=>exact Rr h hQ
 |false=>exact wpAny_pyIter_tuple h hQ
theorem iV{prog:QT}{w:QS}{A:QZ}(b:Bool)(hh:A.handled=none)(it l:QO)(hne:l≠it)(its:Array QM):Draws prog w A it [it,l] its.size (λi v=>its[i]?=some v) (λi h=>SI b h it l i/\SQ b h l its):=by
 cases b with
 |true=>exact Draws.list hh it l hne its
 |false=>exact EA hh it l hne its
noncomputable abbrev yC(b1:Bool)(h:QV)(l1:QO):QV:=h.push {cls:=.type (Jm b1),data:=.fields #[.ref l1,.int 0 0]}
noncomputable abbrev G5(b1 b2:Bool)(h:QV)(l1 l2:QO):QV:=(yC b1 h l1).push {cls:=.type (Jm b2),data:=.fields #[.ref l2,.int 0 0]}
noncomputable abbrev II(b1 b2:Bool)(h:QV)(l1 l2:QO):QV:=(G5 b1 b2 h l1 l2).push {cls:=.type "tuple",data:=.seq #[.ref h.objs.size,.ref (yC b1 h l1).objs.size]}
noncomputable abbrev Jl(b1 b2:Bool)(h:QV)(l1 l2:QO):QV:=(II b1 b2 h l1 l2).push {cls:=.type "tuple",data:=.seq #[.none,.none]}
noncomputable abbrev DV(b1 b2:Bool)(h:QV)(l1 l2:QO):QV:=(Jl b1 b2 h l1 l2).push {cls:=.type "zip",data:=.fields #[.none,.bool false,.bool false,.ref (G5 b1 b2 h l1 l2).objs.size,.ref (II b1 b2 h l1 l2).objs.size]}
theorem AF(b1 b2:Bool)(l1 l2:QO)(xs ys:Array QM):Meets (Builtin.«zip.__new__» ⟨[.type "zip",.ref l1,.ref l2],[]⟩) (λ_ R s=>SQ b1 s.heap l1 xs/\SQ b2 s.heap l2 ys/\R (.ok (.ret (.ref (Jl b1 b2 s.heap l1 l2).objs.size))) {s with heap:=DV b1 b2 s.heap l1 l2}):=
 .of_wp λprog w A R s h=>by
  obtain⟨hp,g,d,tk,os⟩:=s;obtain⟨q1,q2,h⟩:=h;have hsub:=sub_zip;have e1:SQ b1 (Shared.heap ⟨hp,g,d,tk,os⟩) l1 xs:=q1;have e2:SQ b2 (Shared.heap ⟨yC b1 hp l1,g,d,tk,os⟩) l2 ys:=q2.keep λo e=>Qp _ e
  wp_walk using nT e1,nT e2
  exact⟨_,rfl,h⟩
theorem AH{prog:QT}{w:QS}{A:QZ}{E:QM->QR->Prop}{s:QR}{b1 b2:Bool}{l1 l2:QO}{xs ys:Array QM}{Q:QM->QR->Prop}(h1:SQ b1 s.heap l1 xs)(h2:SQ b2 s.heap l2 ys)
  (h:∀ g,R8 g (s.heap.objs.size+4) (s.heap.objs.size+2) (s.heap.objs.size+3) .none->R9 g (s.heap.objs.size+2) (.ref s.heap.objs.size) (.ref (s.heap.objs.size+1))->R9 g (s.heap.objs.size+3) .none .none->SI b1 g s.heap.objs.size l1 0->SI b2 g (s.heap.objs.size+1) l2 0 ->
   (∀c o,s.heap.get? c=some o->g.get? c=some o)->Q (.ref (s.heap.objs.size+4)) {s with heap:=g}):Rc (model prog w) A (call (.type "zip") [.ref l1,.ref l2]) Q E s:=by
 refine callType_new F.called_zip (by decide) (F.typeCall_zip_2 _ _) (F.newCall_zip_2 _ _) (λobj=>F.args_object_init_3 obj _ _) F.entry_zip_new (AF b1 b2 l1 l2 xs ys) ⟨h1,h2,?_⟩;have z1:(yC b1 s.heap l1).objs.size=s.heap.objs.size+1:=Qr ..
 have z2:(G5 b1 b2 s.heap l1 l2).objs.size=s.heap.objs.size+2:=by rw[Qr,z1]
 have z3:(II b1 b2 s.heap l1 l2).objs.size=s.heap.objs.size+3:=by rw[Qr,z2]
 have z4:(Jl b1 b2 s.heap l1 l2).objs.size=s.heap.objs.size+4:=by rw[Qr,z3]
 have u1:∀c o,(yC b1 s.heap l1).get? c=some o->(DV b1 b2 s.heap l1 l2).get? c=some o:=λc o e=>Qp _ (Qp _ (Qp _ (Qp _ e)));have u2:∀c o,(G5 b1 b2 s.heap l1 l2).get? c=some o->(DV b1 b2 s.heap l1 l2).get? c=some o:=λc o e=>Qp _ (Qp _ (Qp _ e));have g5:(DV b1 b2 s.heap l1 l2).get? (Jl b1 b2 s.heap l1 l2).objs.size=some _:=Qq _ rfl;have g4:(DV b1 b2 s.heap l1 l2).get? (II b1 b2 s.heap l1 l2).objs.size=some _:=Qp _ (Qq _ rfl);have g3:(DV b1 b2 s.heap l1 l2).get? (G5 b1 b2 s.heap l1 l2).objs.size=some _:=Qp _ (Qp _ (Qq _ rfl));have g2:SI b2 (DV b1 b2 s.heap l1 l2) (yC b1 s.heap l1).objs.size l2 0:=SI.keep (SI.new (h:=yC b1 s.heap l1)) λo e=>u2 _ o e;have g1:SI b1 (DV b1 b2 s.heap l1 l2) s.heap.objs.size l1 0:=SI.keep SI.new λo e=>u1 _ o e;show _/\_;rw[z2,z3,z4]at g5;rw[z1,z2]at g3;rw[z3]at g4;rw[z1]at g2;rw[z4];exact⟨⟨_,g5,rfl⟩,h _ g5 g3 g4 g1 g2 λc o e=>u1 c o (Qp _ e)⟩
theorem wW(b : Bool)(l : QO)(xs : Array QM): Meets (Builtin.«enumerate.__new__» ⟨[.type "enumerate", .ref l], []⟩) (fun _ R s => SQ b s.heap l xs /\
      R (.ok (.ret (.ref (yC b s.heap l).objs.size))) {s with heap:=(yC b s.heap l).push {cls:=.type "enumerate",data:=.fields #[.none,.bool false,.ref s.heap.objs.size,rawInt 0,.none,.none]}}):=
  .of_wp λprog w A R s h=>by
    obtain⟨hp,g,d,tk,os⟩:=s;obtain⟨q1,h⟩:=h;have hsub:=sub_enumerate;have e1:SQ b (Shared.heap ⟨hp,g,d,tk,os⟩) l xs:=q1
    wp_walk using nT e1
    refine wpAny_stack_any λst=>Rp ?_;split
    · rename_i c _ _ _ _ _
      cases(c==Value.type "enumerate")<;>(wp_walk using nT e1;exact⟨_,rfl,h⟩)
    · wp_walk using nT e1
      exact⟨_,rfl,h⟩
end ZI
namespace TG
open PySem PySem.Spec L2 ZI
variable[aw]
section
variable{X:Cx}{pins:aM}{σ:St}{H:Hp}{s:QR}{h':QV}
theorem Inv.turnedL{ch:aD}{p:QO}{o:HO}{t':Nat}(I:Inv X pins σ H s)(hf:∀b∈ch,oM X pins H b)(k:∀b u,b∉ch->s.heap.get? b=some u->h'.get? b=some u)(hp:s.heap.objs.size<=p)(new:bM X.prog X.w (upd H p o) h' p o):
  Inv X pins σ (upd H p o) {s with heap:=h',toks:=t'}:=by
 have hn:=I.hok.fresh hp;have nch:∀b u,H b=some u->b∉ch:=λb u e z=>by rw[(hf b z).1]at e;cases e
 refine I.step (g':=s.gens) (d':=s.drawn) (ch:=ch) (λb hb=>?_) (λb o _ _ hc e _=>k b o hc e) (λb o _ _ hc e _=>⟨o.slots,k b o hc e⟩) (λb u _ q n=>by rw[ak (Nc (M9 (Qm q) hp))];exact n)
  (λb o hc e=>⟨o,k b o hc e⟩) (λb xs q=>by rw[ak (aK q hn)];exact q) (λb u xs q=>by rw[ak (aK q hn)];exact q) (λb ps q=>⟨#[],by rw[ak (aK q hn),q];simp⟩) (λm hm=>?_) (λb u e=>?_) I.bare
 ·obtain⟨_,f1,_,f3,f4,f5⟩:=hf b hb;exact⟨f3,f1,f4,f5⟩
 ·obtain⟨o,es,ep,ho,r⟩:=hm;exact⟨o,es,ep,k _ o (λz=>(hf _ z).2.1 rfl) ho,r⟩
 ·by_cases hb:b=p
  ·subst hb;rw[aq]at e;cases e;exact new
  ·rw[ak hb]at e;refine(I.hok b u e).stay (λc v hc q=>k c v ?_ q) (λc q=>by rw[ak (aK q hn)];exact q) λc xs q=>by rw[ak (aK q hn)];exact q
   rcases hc with z|z
   ·rw[z];exact nch b u e
   ·exact nch c _ z
theorem Inv.turned0{ch:aD}{t':Nat}(I:Inv X pins σ H s)(hf:∀b∈ch,oM X pins H b)(k:∀b u,b∉ch->s.heap.get? b=some u->h'.get? b=some u):Inv X pins σ H {s with heap:=h',toks:=t'}:=by
 have nch:∀b u,H b=some u->b∉ch:=λb u e z=>by rw[(hf b z).1]at e;cases e
 refine I.step (g':=s.gens) (d':=s.drawn) (ch:=ch) (λb hb=>?_) (λb o _ _ hc e _=>k b o hc e) (λb o _ _ hc e _=>⟨o.slots,k b o hc e⟩) (λ_ _ _ _ n=>n)
  (λb o hc e=>⟨o,k b o hc e⟩) (λ_ _ e=>e) (λ_ _ _ e=>e) (λb ps e=>⟨#[],by rw[e];simp⟩) (λm hm=>?_) (λb u e=>?_) I.bare
 ·obtain⟨_,f1,_,f3,f4,f5⟩:=hf b hb;exact⟨f3,f1,f4,f5⟩
 ·obtain⟨o,es,ep,ho,r⟩:=hm;exact⟨o,es,ep,k _ o (λz=>(hf _ z).2.1 rfl) ho,r⟩
 ·refine(I.hok b u e).stay (λc v hc q=>k c v ?_ q) (λ_ q=>q) λ_ _ q=>q;rcases hc with z|z
  ·rw[z];exact nch b u e
  ·exact nch c _ z
end
noncomputable def SX(K:Pn)(b:Bool)(H:Hp)(a:QO)(xs:aH):Prop:=if b then ju K H a xs else lu K H a xs
theorem SX.same{K:Pn}{b:Bool}{H H':Hp}{a:QO}{xs:aH}(e:aP H H')(h:SX K b H a xs):SX K b H' a xs:=by
 cases b with
 |true=>exact e.seq (show ju K H a xs from h)
 |false=>exact ww e (show lu K H a xs from h)
section
variable{X:Cx}{pins:aM}{σ:St}{H:Hp}{s:QR}
theorem Inv.sx(I:Inv X pins σ H s){b:Bool}{a:QO}{xs:aH}(h:SX X.K b H a xs):∃its:aS,Vals xs its/\SQ b s.heap a its.toArray/\xs.length<=QW:=by
 cases b with
 |true=>obtain⟨its,r,p,z⟩:=I.list (show ju X.K H a xs from h);exact⟨its,r,p.isList,z⟩
 |false=>obtain⟨its,r,p,z⟩:=I.tuple (show lu X.K H a xs from h);exact⟨its,r,p,z⟩
theorem Inv.sx_inj(I:Inv X pins σ H s){b:Bool}{a:QO}{xs ys:aH}(h:SX X.K b H a xs)(h':SX X.K b H a ys):xs=ys:=by
 cases b with
 |true=>exact I.list_inj h h'
 |false=>exact I.tuple_inj h h'
end
noncomputable def LA(K:Pn)(b1 b2:Bool)(a1 a2:QO):It:=
  ⟨fun i H=>∃ xs ys,SX K b1 H a1 xs/\SX K b2 H a2 ys/\i < xs.length/\i < ys.length,
   λi H v H'=>∃p x y,v=.ref p/\H p=none/\H'=upd H p (.tup [x,y])/\(∀xs,SX K b1 H a1 xs->xs[i]?=some x)/\∀ys,SX K b2 H a2 ys->ys[i]?=some y,
   λi H=>∃xs ys,SX K b1 H a1 xs/\SX K b2 H a2 ys/\(i=xs.length\/(i<xs.length/\i=ys.length))⟩
theorem zO{P:QT}{w:QS}{K:Pn}{es:aR}{k:Nat}{pos:Pos}{b1 b2:Bool}{a1 a2 z TI TO i1 i2:QO}(Ap:Apart z TI TO i1 i2 [i1,a1] [i2,a2])(n1:a1≠i1)(n2:a2≠i2)(n3:z≠i1)(n4:z≠i2):Turn P w K (.Tuple es k pos) (LA K b1 b2 a1 a2) [z,TI,TO,i1,i2] z
  (λi h=>R8 h z TI TO .none/\R9 h TI (.ref i1) (.ref i2)/\(∃a b,R9 h TO a b)/\SI b1 h i1 a1 i/\SI b2 h i2 a2 i)where
 mem:=by simp
 obj:=λi h ⟨hz,hI,⟨a,b,hO⟩,s1,s2⟩ c hc=>by
  simp only[Oz,OA,or_false]at hc;rcases hc with rfl|rfl|rfl|rfl|rfl
  ·exact⟨_,hz,λv q=>by cases q⟩
  ·exact⟨_,hI,λv q=>by cases q⟩
  ·exact⟨_,hO,λv q=>by cases q⟩
  ·exact s1.get
  ·exact s2.get
 keep:=λi h h' ⟨hz,hI,⟨a,b,hO⟩,s1,s2⟩ kp=>⟨kp z (by simp) _ hz,kp TI (by simp) _ hI,⟨a,b,kp TO (by simp) _ hO⟩,s1.keep λo e=>kp i1 (by simp) o e,s2.keep λo e=>kp i2 (by simp) o e⟩
 item:=by
  rintro X hP hw hK hc i pins s σ H E I hf ⟨hz,hI,⟨a,b,hO⟩,s1,s2⟩ hg;subst hP hw hK;obtain⟨xs,ys,g1,g2,l1,l2⟩:=hg;obtain⟨its1,r1,q1,z1⟩:=Inv.sx I g1;obtain⟨its2,r2,q2,z2⟩:=Inv.sx I g2;have hh:X.A.in1.handled=none:=I.ok.hd hc;have hT:s.TypeIs (.ref z) "zip":=⟨_,hz,rfl⟩
  unfold pyNext;refine Rq (Se (RV (name:=Str.ofString "__next__") hT F.slot_zip_next (RW F.slot_zip_next hT F.entry_zip_next
   (next_item Ap (iV (A:=X.A.in1) b1 hh i1 a1 n1 its1.toArray) (iV (A:=X.A.in1) b2 hh i2 a2 n2 its2.toArray) hz hI hO ⟨s1,q1⟩ ⟨s2,q2⟩ (by rw[Nv,<-r1.length];exact l1) (by rw[Nv,<-r2.length];exact l2) λu v g tk p1 p2 hz' hO' t1 t2 hp sz kp=>?_) (F.args_zip_next_1 _))))
  have e1:its1[i]?=some u:=by simpa using p1
  have e2:its2[i]?=some v:=by simpa using p2
  have hx:∃x,xs[i]?=some x/\RelV x u:=by
   obtain⟨u',hu,ru⟩:=r1.get (i:=i) (x:=xs[i]) (by simp[l1]);rw[e1]at hu;cases hu;exact⟨xs[i],by simp[l1],ru⟩
  have hy:∃y,ys[i]?=some y/\RelV y v:=by
   obtain⟨u',hu,ru⟩:=r2.get (i:=i) (x:=ys[i]) (by simp[l2]);rw[e2]at hu;cases hu;exact⟨ys[i],by simp[l2],ru⟩
  obtain⟨x,ex,rx⟩:=hx;obtain⟨y,ey,ry⟩:=hy;refine Rp ⟨_,rfl,?_⟩;refine wpAny_letOwnedTupleGo_zip hz' λg' hz2 sb=>?_;have hpz:s.heap.objs.size≠z:=Nr (Qm hz);have hp':R9 g' s.heap.objs.size u v:=sb.extBut _ _ hpz hp;have I':Inv X pins σ (upd H s.heap.objs.size (.tup [x,y])) {s with heap:=g',toks:=tk}:=Inv.turnedL (ch:=[z,TI,TO,i1,i2]) I hf (λc o hc e=>by
   simp only[Oz,OA,or_false,not_or]at hc;exact sb.extBut _ _ hc.1 (kp c o hc.1 hc.2.2.1 hc.2.2.2.1 hc.2.2.2.2 e)) (Nt _) ⟨by show 2<=QW;decide,[u,v],.cons rx (.cons ry .nil),_,hp',rfl,_,rfl⟩
  have fr:H s.heap.objs.size=none:=I.fresh;have ne:∀c∈[z,TI,TO,i1,i2],c≠s.heap.objs.size:=λc hc e=>by
   simp only[Oz,OA,or_false]at hc;rcases hc with rfl|rfl|rfl|rfl|rfl
   ·exact hpz e.symm
   ·exact absurd (Qm hI) (by rw[e];exact Nb _)
   ·exact absurd (Qm hO) (by rw[e];exact Nb _)
   ·obtain⟨o,q,_⟩:=s1.get;exact absurd (Qm q) (by rw[e];exact Nb _)
   ·obtain⟨o,q,_⟩:=s2.get;exact absurd (Qm q) (by rw[e];exact Nb _)
  refine⟨.ref s.heap.objs.size,_,I',rfl,⟨_,x,y,rfl,fr,rfl,λxs' h=>by rw[Inv.sx_inj I h g1];exact ex,λys' h=>by rw[Inv.sx_inj I h g2];exact ey⟩,⟨hz2,?_,⟨u,v,sb.extBut _ _ Ap.a2 hO'⟩,?_,?_⟩,λc hc=>by rw[ak (ne c hc)];exact(hf c hc).1⟩
  ·exact sb.extBut _ _ Ap.a1 (kp TI _ Ap.a1 Ap.a3 Ap.d1 Ap.d2 hI)
  ·exact t1.1.keep λo e=>sb.extBut _ _ n3.symm e
  ·exact t2.1.keep λo e=>sb.extBut _ _ n4.symm e
 done:=by
  rintro X hP hw hK hc i pins s σ H E I hf ⟨hz,hI,⟨a,b,hO⟩,s1,s2⟩ hg;subst hP hw hK;obtain⟨xs,ys,g1,g2,hl⟩:=hg;obtain⟨its1,r1,q1,z1⟩:=Inv.sx I g1;obtain⟨its2,r2,q2,z2⟩:=Inv.sx I g2;have hh:X.A.in1.handled=none:=I.ok.hd hc;have hT:s.TypeIs (.ref z) "zip":=⟨_,hz,rfl⟩
  unfold pyNext;refine Rq (Se (RV (name:=Str.ofString "__next__") hT F.slot_zip_next (RW F.slot_zip_next hT F.entry_zip_next
   (next_end (i:=i) Ap (iV (A:=X.A.in1) b1 hh i1 a1 n1 its1.toArray) (iV (A:=X.A.in1) b2 hh i2 a2 n2 its2.toArray) hz hI hO ⟨s1,q1⟩ ⟨s2,q2⟩ (by rw[Nv,Nv,<-r1.length,<-r2.length];exact hl) λg e tk kp he=>?_) (F.args_zip_next_1 _))))
  obtain⟨o,ho,hce⟩:=he;refine Rq (wpAny_isInstance (T:="StopIteration") (b:=true) ⟨o,ho,hce⟩ isSubtype_stop ?_);refine Rp ⟨rfl,Inv.turned0 (ch:=[z,TI,TO,i1,i2]) I hf λc o hc e=>?_⟩;simp only[Oz,OA,or_false,not_or]at hc;exact kp c o hc.1 hc.2.2.1 hc.2.2.2.1 hc.2.2.2.2 e
 self:=λ_ _ _ _ _ ⟨hz,_⟩ h=>wpAny_pyIter_zip hz h
noncomputable def CP:D->Option (Bool×List D)
 |.lst xs=>some (true,xs)
 |.tup xs=>some (false,xs)
 |_=>none
theorem ng{K:Pn}{H:Hp}{d:D}{b:Bool}{xs:List D}{v:V}(e:CP d=some (b,xs))(h:bJ K H d v):∃a vs,v=.ref a/\SX K b H a vs/\aG K H xs vs:=by
 cases d with
 |lst ys=>cases e;exact bP.mp h
 |tup ys=>cases e;obtain⟨a,vs,e1,e2,e3⟩:=bQ.mp h;exact⟨a,vs,e1,lu.of e2,e3⟩
 |_=>cases e
noncomputable def lM:List D->List D->List D
 |x::xs,y::ys=>.tup [x,y]::lM xs ys
 |_,_=>[]
theorem lw:∀xs ys:List D,(lM xs ys).length=min xs.length ys.length
 |[],_=>by simp[lM]
 |_::_,[]=>by simp[lM]
 |x::xs,y::ys=>by
  rw[lM,Nw,lw xs ys,Nw,Nw];omega
theorem sZ:∀{xs ys:List D}{i:Nat}{d:D},(lM xs ys)[i]?=some d->∃x y,xs[i]?=some x/\ys[i]?=some y/\d=.tup [x,y]
 |[],_,i,d,h=>by simp[lM]at h
 |_::_,[],i,d,h=>by simp[lM]at h
 |x::xs,y::ys,0,d,h=>by
  rw[lM,OB]at h;cases h;exact⟨x,y,rfl,rfl,rfl⟩
 |x::xs,y::ys,i+1,d,h=>by
  rw[lM,OC]at h;obtain⟨a,b,h1,h2,h3⟩:=sZ h;exact⟨a,b,by rw[OC];exact h1,by rw[OC];exact h2,h3⟩
theorem Ba{K:Pn}{Hd:Hp}{b1 b2:Bool}{a1 a2:QO}{ds es:List D}{vs ws:aH}(h1:SX K b1 Hd a1 vs)(g1:aG K Hd ds vs)(h2:SX K b2 Hd a2 ws)(g2:aG K Hd es ws):Walk K Hd (LA K b1 b2 a1 a2) (lM ds es):=λHn O' i hO sm=>
  have s':aP Hd Hn:=sm.trans (ax Hn O')
  ⟨fun d e=>by
    obtain⟨x,y,e1,e2,rfl⟩:=sZ e;have l1:i<ds.length:=(List.getElem?_eq_some_iff.mp e1).1;have l2:i<es.length:=(List.getElem?_eq_some_iff.mp e2).1;obtain⟨v,ev,dv⟩:=g1.get e1;obtain⟨w,ew,dw⟩:=g2.get e2;refine⟨⟨vs,ws,h1.same s',h2.same s',by rw[<-g1.length];exact l1,by rw[<-g2.length];exact l2⟩,λu H2 ⟨p,x',y',eu,hp,eH,q1,q2⟩=>?_⟩;have z1:=q1 vs (h1.same s');rw[ev]at z1;cases z1;have z2:=q2 ws (h2.same s');rw[ew]at z2;cases z2;subst eH eu;exact⟨bV hp _,dA hO hp (aI.mpr ⟨v,_,rfl,dv.mono sm,aI.mpr ⟨w,_,rfl,dw.mono sm,bB.mpr rfl⟩⟩)⟩,
   λhl=>by
    rw[lw]at hl;refine⟨vs,ws,h1.same s',h2.same s',?_⟩;rw[<-g1.length,<-g2.length]
    omega⟩
noncomputable def Ax:List D->Option (List D)
 |[a,b]=>(CP a).bind λx=>(CP b).bind λy=>some (lM x.2 y.2)
 |_=>none
noncomputable def yf(f:aQ):aQ:=λρ=>(f ρ).bind λds=>rO (Ax ds)
section
variable{X:Cx}
theorem E6{a b c:QO}(h1:a≠b)(h2:a≠c):a∉[b,c]:=λh=>by
 rcases List.mem_cons.mp h with z|z
 ·exact h1 z
 ·exact h2 (List.mem_singleton.mp z)
theorem wM{n a1 a2:QO}(h1:a1<n)(h2:a2<n):Apart (n+4) (n+2) (n+3) n (n+1) [n,a1] [n+1,a2]:=by
 have lt:∀{a b:Nat},a<b->(b:QO)≠(a:QO):=λh=>Nr h;have lt':∀{a b:Nat},a<b->(a:QO)≠(b:QO):=λh=>Nc h;have g:∀k:Nat,a1<n+k:=λk=>M9 h1 (OD _ _);have g':∀k:Nat,a2<n+k:=λk=>M9 h2 (OD _ _);have p:∀{j k:Nat},j<k->n+j<n+k:=λh=>OG h n;have p0:∀{k:Nat},0<k->n<n+k:=λh=>OH h;exact⟨lt' (p (by decide)),lt' (p (by decide)),lt' (p (by decide)),E6 (lt (p0 (by decide))) (lt (g 4)),E6 (lt (p0 (by decide))) (lt (g 3)),E6 (lt (p0 (by decide))) (lt (g 1)),
  E6 (lt (p (by decide))) (lt (g' 4)),E6 (lt (p (by decide))) (lt (g' 3)),E6 (lt' (p0 (by decide))) (lt h2),lt (p0 (by decide)),lt (p (by decide)),Ni,Ni⟩
theorem Gc{pins:aM}{s:QR}{σ:St}{H:Hp}{O:aD}{es:aR}{k:Nat}{tpos:Pos}{ds r:List D}{vs:aH}{us:aS}{RR:It->Hp->Prop}(I:Inv X pins σ H s)(hc:Ax ds=some r)(d1:aG X.K (hid H O) ds vs)(rv:Vals vs us)(q:∀J,Walk X.K (hid H O) J r->RR J H):
  Rc (model X.prog X.w) X.A (call (.type "zip") us) (λv s1=>Rc (model X.prog X.w) X.A (pyIter v) (PIE X pins σ (.Tuple es k tpos) RR) X.xe s1) X.xe s:=by
 unfold Ax at hc;split at hc
 ·rename_i a b;obtain⟨⟨b1,xs⟩,e1,hc⟩:=bind_some hc;obtain⟨⟨b2,ys⟩,e2,hc⟩:=bind_some hc;cases hc;obtain⟨va,vb,rfl,da,db⟩:=d1.two;obtain⟨u1,u2,rfl,r1,r2⟩:=vals2 rv;obtain⟨a1,ws1,rfl,x1,y1⟩:=ng e1 da;obtain⟨a2,ws2,rfl,x2,y2⟩:=ng e2 db;cases r1;cases r2;obtain⟨its1,rr1,q1,_⟩:=Inv.sx I (x1.same (ax H O));obtain⟨its2,rr2,q2,_⟩:=Inv.sx I (x2.same (ax H O));refine AH q1 q2 λg hz hI hO s1 s2 kp=>wpAny_pyIter_zip hz ?_;have Ap:=wM q1.lt q2.lt;refine⟨_,_,_,_,H,rfl,I.kept (t':=s.toks) kp,zO (b1:=b1) (b2:=b2) Ap (Nc q1.lt) (Nc (M9 q2.lt (OD _ 1))) (Nr (OH (by decide))) (Nr (OG (by decide) _)),⟨hz,hI,⟨_,_,hO⟩,s1,s2⟩,λb hb=>?_,q _ (Ba x1 y1 x2 y2)⟩;have le:s.heap.objs.size<=b:=by
   simp only[Oz,OA,or_false]at hb;rcases hb with rfl|rfl|rfl|rfl|rfl
   ·exact OD _ _
   ·exact OD _ _
   ·exact OD _ _
   ·exact Nt _
   ·exact OD _ _
  exact I.fpOk le (I.hok.fresh le)
 ·cases hc
end
noncomputable def LC(K:Pn)(b:Bool)(a:QO):It:=
  ⟨fun i H=>∃ xs,SX K b H a xs/\i < xs.length,
   λi H v H'=>∃p x,v=.ref p/\H p=none/\H'=upd H p (.tup [.int i,x])/\∀xs,SX K b H a xs->xs[i]?=some x,
   λi H=>∃xs,SX K b H a xs/\i=xs.length⟩
theorem wX{P:QT}{w:QS}{K:Pn}{es:aR}{k:Nat}{pos:Pos}{b:Bool}{a e it:QO}(n1:a≠it)(n2:e≠it)(n3:e≠a):Turn P w K (.Tuple es k pos) (LC K b a) [e,it] e (λi h=>(∃old,IsEnum h e it i old)/\SI b h it a i)where
 mem:=by simp
 obj:=λi h ⟨⟨old,he⟩,s1⟩ c hc=>by
  simp only[Oz,OA,or_false]at hc;rcases hc with rfl|rfl
  ·exact⟨_,he,λv q=>by cases q⟩
  ·exact s1.get
 keep:=λi h h' ⟨⟨old,he⟩,s1⟩ kp=>⟨⟨old,kp e (by simp) _ he⟩,s1.keep λo q=>kp it (by simp) o q⟩
 item:=by
  rintro X hP hw hK hc i pins s σ H E I hf ⟨⟨old,he⟩,s1⟩ hg;subst hP hw hK;obtain⟨xs,g1,l1⟩:=hg;obtain⟨its,r1,q1,z1⟩:=Inv.sx I g1;have hh:X.A.in1.handled=none:=I.ok.hd hc;refine wpAny_pyNext_enum_itemD (iV (A:=X.A.in1) b hh it a n1 its.toArray) he ⟨s1,q1⟩ (by rw[Nv,<-r1.length];exact l1) n2 (E6 n2 n3) λu g tk p1 ho t1 hp sz kp=>?_;have e1:its[i]?=some u:=by simpa using p1
  obtain⟨u',hu,ru⟩:=r1.get (i:=i) (x:=xs[i]) (by simp[l1]);rw[e1]at hu;cases hu;refine⟨_,rfl,wpAny_letOwnedTupleGo_enum ho λg' he' sb=>?_⟩;have hpe:s.heap.objs.size≠e:=Nr (Qm he);have hp':=sb.extBut _ _ hpe hp;have I':Inv X pins σ (upd H s.heap.objs.size (.tup [.int i,xs[i]])) {s with heap:=g',toks:=tk+1}:=Inv.turnedL (ch:=[e,it]) I hf (λc o hc q=>by
   simp only[Oz,OA,or_false,not_or]at hc;exact sb.extBut _ _ hc.1 (kp c o hc.1 hc.2 q)) (Nt _) ⟨by show 2<=QW;decide,[.int i tk,u],.cons ⟨_,rfl⟩ (.cons ru .nil),_,hp',rfl,_,rfl⟩
  have ne:∀c∈[e,it],c≠s.heap.objs.size:=λc hc q=>by
   simp only[Oz,OA,or_false]at hc;rcases hc with rfl|rfl
   ·exact hpe q.symm
   ·obtain⟨o,q',_⟩:=s1.get;exact absurd (Qm q') (by rw[q];exact Nb _)
  refine⟨.ref s.heap.objs.size,_,I',rfl,⟨_,xs[i],rfl,I.fresh,rfl,λxs' h=>by rw[Inv.sx_inj I h g1];simp[l1]⟩,⟨⟨u,?_⟩,t1.1.keep λo q=>sb.extBut _ _ n2.symm q⟩,λc hc=>by rw[ak (ne c hc)];exact(hf c hc).1⟩;have ei:((i+1:Nat):Int)=(i:Int)+1:=by omega
  rw[ei];exact he'
 done:=by
  rintro X hP hw hK hc i pins s σ H E I hf ⟨⟨old,he⟩,s1⟩ hg;subst hP hw hK;obtain⟨xs,g1,l1⟩:=hg;obtain⟨its,r1,q1,z1⟩:=Inv.sx I g1;have hh:X.A.in1.handled=none:=I.ok.hd hc;have el:i=its.toArray.size:=by rw[Nv,<-r1.length];exact l1
  refine wpAny_pyNext_enum_endD (iV (A:=X.A.in1) b hh it a n1 its.toArray) he ⟨by rw[<-el];exact s1,q1⟩ λg kp=>⟨rfl,Inv.turned0 (ch:=[e,it]) I hf λc o hc q=>?_⟩
  simp only[Oz,OA,or_false,not_or]at hc;exact kp c o hc.2 q
 self:=λ_ _ _ _ _ ⟨⟨old,he⟩,_⟩ h=>wpAny_pyIter_enum he h
noncomputable def eY(i:Nat):List D->List D
 |[]=>[]
 |x::xs=>.tup [.int i,x]::eY (i+1) xs
theorem kC:∀(i:Nat)(xs:List D),(eY i xs).length=xs.length
 |_,[]=>rfl
 |i,x::xs=>by rw[eY,Nw,kC (i+1) xs,Nw]
theorem pq:∀{xs:List D}{k i:Nat}{d:D},(eY k xs)[i]?=some d->∃x,xs[i]?=some x/\d=.tup [.int ((k+i:Nat):Int),x]
 |[],k,i,d,h=>by simp[eY]at h
 |x::xs,k,0,d,h=>by
  rw[eY,OB]at h;cases h;exact⟨x,rfl,rfl⟩
 |x::xs,k,i+1,d,h=>by
  rw[eY,OC]at h;obtain⟨y,h1,h2⟩:=pq h;refine⟨y,by rw[OC];exact h1,?_⟩;rw[h2];congr 4;omega
theorem yu{K:Pn}{Hd:Hp}{b:Bool}{a:QO}{ds:List D}{vs:aH}(h1:SX K b Hd a vs)(g1:aG K Hd ds vs):Walk K Hd (LC K b a) (eY 0 ds):=λHn O' i hO sm=>
  have s':aP Hd Hn:=sm.trans (ax Hn O')
  ⟨fun d e=>by
    obtain⟨x,e1,rfl⟩:=pq e;have l1:i<ds.length:=(List.getElem?_eq_some_iff.mp e1).1;obtain⟨v,ev,dv⟩:=g1.get e1;refine⟨⟨vs,h1.same s',by rw[<-g1.length];exact l1⟩,λu H2 ⟨p,x',eu,hp,eH,q1⟩=>?_⟩;have z1:=q1 vs (h1.same s');rw[ev]at z1;cases z1;subst eH eu;rw[OI];exact⟨bV hp _,dA hO hp (aI.mpr ⟨.int i,_,rfl,eQ.mpr rfl,aI.mpr ⟨v,_,rfl,dv.mono sm,bB.mpr rfl⟩⟩)⟩,
   λhl=>by
    rw[kC]at hl;exact⟨vs,h1.same s',by rw[<-g1.length];exact hl⟩⟩
noncomputable def pC:List D->Option (List D)
 |[a]=>(CP a).bind λx=>some (eY 0 x.2)
 |_=>none
noncomputable def hV(f:aQ):aQ:=λρ=>(f ρ).bind λds=>rO (pC ds)
section
variable{X:Cx}
theorem yn{prog:QT}{w:QS}{A:QZ}{E:aW}{s:QR}{b:Bool}{l:QO}{xs:Array QM}{Q:aW}(h1:SQ b s.heap l xs)
  (h:∀g,IsEnum g (s.heap.objs.size+1) s.heap.objs.size 0 .none->SI b g s.heap.objs.size l 0->(∀c o,s.heap.get? c=some o->g.get? c=some o)->Q (.ref (s.heap.objs.size+1)) {s with heap:=g}):Rc (model prog w) A (call (.type "enumerate") [.ref l]) Q E s:=by
 refine callType_new F.called_enumerate (by decide) (F.typeCall_enumerate_1 _) (F.newCall_enumerate_1 _) (λobj=>F.args_object_init_2 obj _) F.entry_enumerate_new (wW b l xs) ⟨h1,?_⟩;have z1:(yC b s.heap l).objs.size=s.heap.objs.size+1:=Qr ..
 have g2:=Qq (yC b s.heap l) (o:={cls:=.type "enumerate",data:=.fields #[.none,.bool false,.ref s.heap.objs.size,rawInt 0,.none,.none]}) rfl;have g1:SI b ((yC b s.heap l).push {cls:=.type "enumerate",data:=.fields #[.none,.bool false,.ref s.heap.objs.size,rawInt 0,.none,.none]}) s.heap.objs.size l 0:=SI.keep SI.new λo e=>Qp _ e;show _/\_;rw[z1]at g2 ⊢;exact⟨⟨_,g2,rfl⟩,h _ g2 g1 λc o e=>Qp _ (Qp _ e)⟩
theorem Dh{pins:aM}{s:QR}{σ:St}{H:Hp}{O:aD}{es:aR}{k:Nat}{tpos:Pos}{ds r:List D}{vs:aH}{us:aS}{RR:It->Hp->Prop}(I:Inv X pins σ H s)(hc:pC ds=some r)(d1:aG X.K (hid H O) ds vs)(rv:Vals vs us)(q:∀J,Walk X.K (hid H O) J r->RR J H):
  Rc (model X.prog X.w) X.A (call (.type "enumerate") us) (λv s1=>Rc (model X.prog X.w) X.A (pyIter v) (PIE X pins σ (.Tuple es k tpos) RR) X.xe s1) X.xe s:=by
 unfold pC at hc;split at hc
 ·rename_i a;obtain⟨⟨b1,xs⟩,e1,hc⟩:=bind_some hc;cases hc;obtain⟨va,rfl,da⟩:=d1.one;obtain⟨u1,rfl,r1⟩:=vals1 rv;obtain⟨a1,ws1,rfl,x1,y1⟩:=ng e1 da;cases r1;obtain⟨its1,rr1,q1,_⟩:=Inv.sx I (x1.same (ax H O));refine yn q1 λg he s1 kp=>wpAny_pyIter_enum he ?_;refine⟨_,_,_,_,H,rfl,I.kept (t':=s.toks) kp,wX (b:=b1) (Nc q1.lt) (Nr (OH (by decide))) (Nr (M9 q1.lt (OD _ 1))),⟨⟨_,he⟩,s1⟩,λb hb=>?_,q _ (yu x1 y1)⟩;have le:s.heap.objs.size<=b:=by
   simp only[Oz,OA,or_false]at hb;rcases hb with rfl|rfl
   ·exact OD _ _
   ·exact Nt _
  exact I.fpOk le (I.hok.fresh le)
 ·cases hc
end
end TG
namespace TG
open PySem PySem.Spec L2
variable[aw]
theorem bh{K:Pn}{c:Str}{C C':QO}(h:clsAt K c C)(h':clsAt K c C'):C=C':=by
 unfold clsAt at h h';rw[h]at h';cases h';rfl
theorem nS{K:Pn}{H:Hp}{f:Str}:∀{fs:av}{ds:List D}{vs:aH}{d:D},aG K H ds vs->(fs.zip ds).lookup f=some d->∃v,(fs.zip vs).lookup f=some v/\bJ K H d v
 |[],_,_,_,_,e=>by simp at e
 |_::_,[],_,_,_,e=>by simp at e
 |g::fs,x::ds,vs,d,h,e=>by
  rw[aI]at h;obtain⟨v,r,rfl,h1,h2⟩:=h;rw[OJ,N3]at e ⊢;cases hg:f==g with
  |true=>rw[hg]at e;cases e;exact⟨v,rfl,h1⟩
  |false=>rw[hg]at e;exact nS h2 e
theorem oZ{f:Str}:∀{fs:av}{vs:aH},fs.contains f=false->(fs.zip vs).lookup f=none
 |[],_,_=>by simp
 |_::_,[],_=>by simp
 |g::fs,x::vs,h=>by
  rw[OL,OM]at h;rw[OJ,N3,h.1];exact oZ h.2
noncomputable def aX(f:Str)(cs:av)(d:D):aY:=match d with
 |.obj c fs vs=>if cs.contains c then(fs.zip vs).lookup f else none
 |_=>none
noncomputable def dg(K:Pn)(f:Str)(cs:av):Prop:=∀c∈cs,∀C,clsAt K c C->lm K C/\cw K C f
section
variable{X:Cx}{a o e:QP}{es:aR}{fa fo:FX}{fas:aQ}{f m x:Str}{cs:av}{pos apos p:Pos}{k k':Nat}{ps:av}
noncomputable def MethAt(P:QT)(w:QS)(K:Pn)(mg:bF)(base:QV)(k:Nat)(c m:Str)(ps:av)(g:bE):Prop:=
 ∃C f fd,clsAt K c C/\lm K C/\Meth K C m f/\eW P w K mg base (jM P w) k f fd ps (yg K ps.length g)/\Binds K fd ps []
noncomputable def bf(m:Str)(tbl:List (Str×(bE)))(fo:FX)(fas:aQ):FX:=λρ=>(fo ρ).bind λo=>match o with
 |.obj c fs vs=>match tbl.lookup c with
  |some g=>if fs.contains m then un else(fas ρ).bind λas=>g (o::as)
  |none=>un
 |_=>un
noncomputable def nF(P:QT)(w:QS)(K:Pn)(mg:bF)(base:QV)(k:Nat)(m:Str)(ps:av)(tbl:List (Str×(bE))):Prop:=
 ∀c g,tbl.lookup c=some g->MethAt P w K mg base k c m ps g/\Ar ps.length g
theorem DC{P:QT}{w:QS}{K:Pn}{mg:bF}{base:QV}:nF P w K mg base k m ps []:=λ_ _ h=>nomatch h
theorem yK{P:QT}{w:QS}{K:Pn}{mg:bF}{base:QV}{c:Str}{g:bE}{tbl:List (Str×(bE))}(h:MethAt P w K mg base k c m ps g)(hn:Ar ps.length g)(t:nF P w K mg base k m ps tbl):nF P w K mg base k m ps ((c,g)::tbl):=λc' g' e=>by
 rw[N3]at e;cases hc:c'==c with
 |true=>
  rw[hc]at e;cases e
  have:c'=c:=by simpa using hc
  subst this;exact⟨h,hn⟩
 |false=>rw[hc]at e;exact t c' g' e
theorem MethAt.mono{P:QT}{w:QS}{K:Pn}{mg:bF}{base:QV}{c:Str}{g:bE}(h:MethAt P w K mg base k c m ps g)(hk:k<=k'):MethAt P w K mg base k' c m ps g:=by
 obtain⟨C,f,fd,h1,h2,h3,h4,h5⟩:=h;exact⟨C,f,fd,h1,h2,h3,h4.mono hk,h5⟩
theorem sQ{tbl:List (Str×(bE))}{args:aR}{pl:Sem Bool}(tb:nF X.prog X.w X.K X.mg X.base k m ps tbl)(hr:dY k X.A)(ho:FE X o fo)
  (hc:∀ (pins:aM) (s1:QR) (σ:St) (H1:Hp) (O:aD) (ρ:ao) (a f:QO) (od:D) (Q:VK) (g:bE) (fd:RH) (w0:V),PQ X.K (.ref f)=true->eW X.prog X.w X.K X.mg X.base (jM X.prog X.w) k f fd ps (yg X.K ps.length g)->Binds X.K fd ps []->Ar ps.length g->Inv X pins σ H1 s1->cM X.K O H1 ρ σ->bJ X.K (hid H1 O) od (.ref a) ->
   (dJ X σ O H1 ((fas ρ).bind λas=>g (od::as)) λd=>∀v H',aP H1 H'->bJ X.K (hid H' O) d v->Q v H')->
   Rc (model X.prog X.w) X.A (RE pos (.ref f) [.ref a] (backTo pos (Rf args X.env)) (backToKw pos (RF [] X.env))) (EP X pins σ Q) X.xe s1)
  (ht:eval (.Call (.Attribute o m apos) args [] pos) X.env=(do
   let ov<-eval o X.env
   standAt apos.atName
   let (f,first)<-holding [ov] (getMethod ov m pl)
   RE pos f first (backTo pos (Rf args X.env)) (backToKw pos (RF [] X.env)))):
  FE X (.Call (.Attribute o m apos) args [] pos) (bf m tbl fo fas):=by
 rintro pins s σ H Q I ⟨O,ρ,E,hF⟩;refine si ho I ?_ ht;refine⟨O,ρ,E,(dJ.bind hF).imp λd hF v H1 s1 d1=>?_⟩;cases d with
 |obj c fs vs=>
  have hF':dJ X σ O H (match tbl.lookup c with|some g=>if fs.contains m then un else(fas ρ).bind λas=>g (.obj c fs vs::as)|none=>un) _:=hF;cases hg:tbl.lookup c with
  |none=>rw[hg]at hF';exact hF'.elim
  |some g=>
   rw[hg]at hF';have hF2:dJ X σ O H (if fs.contains m then un else(fas ρ).bind λas=>g (.obj c fs vs::as)) _:=hF';cases hm:fs.contains m with
   |true=>rw[hm]at hF2;exact hF2.elim
   |false=>
    rw[hm]at hF2;have hF3:dJ X σ O H ((fas ρ).bind λas=>g (.obj c fs vs::as)) _:=hF2;have d0:=d1;obtain⟨a,ws,ev,g1,g2,C,dx,g3,g4⟩:=Jg.mp d1;obtain⟨⟨C',f,fd,m1,m2,m3,m4,m5⟩,ar⟩:=tb c g hg;have eC:=bh g3 m1;subst eC;subst ev;refine⟨a,C,dx,_,f,rfl,ax H1 O _ _ g4,m2,m3,oZ hm,λs2 I2=>?_⟩;exact hc pins s2 σ H1 O ρ a f _ Q g fd (.ref a) m3.kp m4 m5 ar I2 (E.same s1) d0 ((hF3.mono s1).imp λd q v H2 s2 d2=>q v H2 (s1.trans s2) d2)
 |_=>exact hF.elim
theorem nR{σ:St}{O:aD}{H:Hp}{g:bE}{ds:List D}{vs:aH}{Q:VK}{n:Nat}(ar:Ar n g)(hO:cY H O)(d1:aG X.K (hid H O) ds vs)(h:dJ X σ O H (g ds) λd=>∀v H',aP H H'->bJ X.K (hid H' O) d v->Q v H'):∃E,iK (jM X.prog X.w) X σ E/\yg X.K n g vs H Q E:=by
 cases hg:g ds with
 |ok d=>
  rw[hg]at h;refine⟨E0,vz,O,ds,by rw[<-d1.length];exact ar ds (by rw[hg];intro z;cases z),hO,d1,?_⟩;rw[hg];exact h
 |error z=>
  rw[hg]at h;cases z with
  |none=>exact h.elim
  |some x=>
   refine⟨vp X O H x,vm h,O,ds,by rw[<-d1.length];exact ar ds (by rw[hg];intro z;cases z),hO,d1,?_⟩;rw[hg];exact sy
theorem yi{P:QT}{w:QS}{K:Pn}{mg:bF}{base:QV}{c y qual:Str}{C f:QO}{fd:RH}{st:QQ}{N:av}{B:bw}(h1:clsAt K c C)(h2:lm K C)(h3:Meth K C m f)(F:ow K y qual st f fd)(b:Binds K fd ps [])(SC:bX N ps (aF st))(hb:BodyOk P w K mg base k N qual st f B):
  MethAt P w K mg base (k+1) c m ps (au B ps.length N.length):=⟨C,f,fd,h1,h2,h3,qZ F SC hb,b⟩
noncomputable def L6(C:QO)(fs:av):Sp:=λvs H Q _=>∃x dx as,vs=.ref x::as/\as.length=fs.length/\H x=some (.ins C dx [])/\Q .non (upd H x (.ins C dx (fs.zip as)))
noncomputable def eF(P:QT)(w:QS)(K:Pn)(mg:bF)(base:QV)(k:Nat)(c:Str)(ps fs:av):Prop:=
 ∃C f fd,clsAt K c C/\Mk K C f/\eW P w K mg base (jM P w) k f fd ps (L6 C fs)/\Binds K fd ps []/\mg c=some (.ref C)
noncomputable def fNew(c:Str)(fs:av)(fas:aQ):FX:=λρ=>(fas ρ).bind λas=>if as.length=fs.length then .ok (.obj c fs as)else un
theorem lq{K:Pn}{H1:Hp}{O:aD}{c:Str}{fs:av}{as:List D}{vs:aH}{C x dx:QO}(hc:clsAt K c C)(hl:as.length=fs.length)(d1:aG K (hid H1 O) as vs)(hO:cY H1 O)(hx:H1 x=none)(hd:H1 dx=none)(ne:dx≠x):
  aP H1 (upd (upd (upd H1 dx (.own x)) x (.ins C dx [])) x (.ins C dx (fs.zip vs)))/\bJ K (hid (upd (upd (upd H1 dx (.own x)) x (.ins C dx [])) x (.ins C dx (fs.zip vs))) O) (.obj c fs as) (.ref x):=by
 have sm:aP H1 (upd (upd (upd H1 dx (.own x)) x (.ins C dx [])) x (.ins C dx (fs.zip vs))):=λb o h=>by
  have n1:=aK h hx;have n2:=aK h hd;rw[ak n1,ak n1,ak n2];exact h
 exact⟨sm,Jg.mpr ⟨x,vs,rfl,d1.mono (bn sm),by rw[<-d1.length,hl],C,dx,hc,by rw[fT (hO.not hx),aq]⟩⟩
theorem Ea{X:Cx}:uZ (jM X.prog X.w) X E0:=λ_ _ _ _ _ _ _ h=>by
 obtain⟨_,_,_,_,_,_,_,_,_,_,_,_,_,_,z⟩:=h;exact z.elim
theorem mX(f:Str)(v:V):∀{fs:List (Str×V)},(fs.map (·.1)).contains f=false->iu f v fs=fs++[(f,v)]
 |[],_=>rfl
 |(g,w)::fs,h=>by
  rw[Nx,OL,OM]at h;have ne:¬g=f:=λz=>by
   have:=h.1
   rw[z]at this;simp at this
  have:=mX f v (fs:=fs) h.2
  unfold iu;simp only[ne,if_false,this,N6]
noncomputable def vy(X:Cx)(cs:av)(body:cF)(fs:av)(i:Nat):Prop:=
 ∃t,pR X body t/\∀(D:Ends)(σ:St)(H:Hp)(x dx C:QO)(done:List (Str×V))(as:aH),σ[0]?=some (some (.ref x))->(∀j v,as[j]?=some v->σ[i+j]?=some (some v))->as.length=fs.length->lm X.K C->(∀f∈fs,cw X.K C f)->done.length+fs.length<1000->(done.map (·.1)++fs).Nodup->H x=some (.ins C dx done)->
  D.nx σ (upd H x (.ins C dx (done++fs.zip as)))->t D σ H
theorem gb{st:QQ}{f:Str}{i:Nat}{o v:QP}{p1 p2:Pos}(hst:st=.Assign [.Attribute o f p1] v p2)(ho:PE X o (nW 0))(hv:PE X v (nW i))(hs:swapsWith v (some (.Attribute o f p1)) p2.line X.env=pure false):vy X cs [st] [f] i:=by
 subst hst;refine⟨_,qU (yG ho hv hs),λD σ H x dx C done as h0 ha hl cl na hz nd hx q=>?_⟩;obtain⟨a,rfl⟩:∃a,as=[a]:=by
  match as,hl with
  |[a],_=>exact⟨a,rfl⟩
 refine⟨a,ha 0 a rfl,.ref x,h0,x,C,dx,done,rfl,hx,cl,na f (List.mem_singleton.mpr rfl),by simp at hz;omega,?_⟩;rw[mX f a (by
  have:=nd
  rw[OO]at this;have h3:=this.2.2;cases hc:(done.map (·.1)).contains f with
  |false=>rfl
  |true=>exact absurd rfl (h3 f (List.contains_iff_mem.mp hc) f (List.mem_singleton.mpr rfl)))]
 exact q
theorem fq{st:QQ}{rest:cF}{f:Str}{fs:av}{i:Nat}{o v:QP}{p1 p2:Pos}(hst:st=.Assign [.Attribute o f p1] v p2)(ho:PE X o (nW 0))(hv:PE X v (nW i))(hs:swapsWith v (some (.Attribute o f p1)) p2.line X.env=pure false)(hr:vy X cs rest fs (i+1)):vy X cs (st::rest) (f::fs) i:=by
 subst hst;obtain⟨t,ht,hq⟩:=hr;refine⟨_,oh (yG ho hv hs) ht,λD σ H x dx C done as h0 ha hl cl na hz nd hx q=>?_⟩;obtain⟨a,as,rfl⟩:∃a r,as=a::r:=by
  match as,hl with
  |a::r,_=>exact⟨a,r,rfl⟩
 have hno:(done.map (·.1)).contains f=false:=by
  have:=nd
  rw[OO]at this;have h3:=this.2.2;cases hc:(done.map (·.1)).contains f with
  |false=>rfl
  |true=>exact absurd rfl (h3 f (List.contains_iff_mem.mp hc) f Ni)
 refine⟨a,ha 0 a rfl,.ref x,h0,x,C,dx,done,rfl,hx,cl,na f Ni,by simp at hz;omega,?_⟩;rw[mX f a hno];refine hq D σ _ x dx C (done++[(f,a)]) as h0 (λj v e=>?_) (by simpa using hl) cl (λg hg=>na g (Nj _ hg)) (by simp at hz ⊢;omega) (by simpa [Ow]using nd) (by rw[aq]) ?_
 ·have:=ha (j+1) v (by simpa using e)
  rw[show i+1+j=i+(j+1)by omega];exact this
 ·rw[jX,Ow];exact q
theorem fV{P:QT}{w:QS}{K:Pn}{mg:bF}{base:QV}{c qual:Str}{C f:QO}{fd:RH}{st:QQ}{fs:av}(h1:clsAt K c C)(hM:Mk K C f)(cl:lm K C)(na:∀g∈fs,cw K C g)(F:ow K "__init__" qual st f fd)(b:Binds K fd ps [])(hmg:mg c=some (.ref C))(SC:bX ps ps (aF st))(hps:ps.length=fs.length+1)(hnd:fs.Nodup)(hlen:fs.length<1000)
  (hb:∀(cdv:QM)(A:QZ)(outer:List Env)(s:QR)(H:Hp)(E:XK),vy (ir HD P w K mg base ps qual (aF st) f cdv A outer s H E).nox [] (cU st) fs 1):eF P w K mg base (k+1) c ps fs:=by
 refine⟨C,f,fd,h1,hM,?_,b,hmg⟩;refine eW.any (F.ok SC (λvs H Q E h=>?_) λcdv A outer s H vs Q E hr h=>?_)
 ·obtain⟨x,dx,as,rfl,hl,_⟩:=h;rw[Nw,hl,hps]
 ·obtain⟨t,ht,hq⟩:=hb cdv A outer s H E;obtain⟨x,dx,as,rfl,hl,hx,q⟩:=h;have hst:L2.start ps (.ref x::as)=(.ref x::as).map some:=by
   unfold L2.start;rw[Nw,hl,hps,OQ,OS,ND]
  refine⟨t,ht,hq _ _ H x dx C [] as (by rw[hst];rfl) (λj v e=>?_) hl cl na (by simpa using hlen) (by simpa using hnd) hx q⟩;rw[hst,Nat.add_comm,Nx,OC,NP,e];rfl
end
end TG
namespace TG
open PySem PySem.Spec L2
variable[aw]
section
variable{X:Cx}
noncomputable def kc:List D->Option (av)
 |[]=>some []
 |.str x::r=>(kc r).bind λys=>some (x::ys)
 |_=>none
theorem pM:∀{ds:List D}{ys:av},kc ds=some ys->ds=ys.map .str
 |[],ys,h=>by cases h;rfl
 |d::ds,ys,h=>by
  cases d with
  |str x=>
   have h':(kc ds).bind (λys=>some (x::ys))=some ys:=h;cases e:kc ds with
   |none=>rw[e]at h';cases h'
   |some zs=>
    rw[e]at h';cases h';rw[pM e];rfl
  |_=>cases h
theorem oU{K:Pn}{H:Hp}:∀{ys:av}{vs:aH},aG K H (ys.map .str) vs->vs=ys.map .str
 |[],vs,h=>bB.mp h
 |y::ys,vs,h=>by
  obtain⟨v,r,rfl,h1,h2⟩:=aI.mp h;rw[dW.mp h1,oU h2];rfl
theorem wa:∀{ys:av}{its:aS},Vals (ys.map .str) its->PyProof.Rows.StrsAre its ys
 |[],_,.nil=>.nil
 |y::ys,_,.cons h t=>by
  obtain⟨t',rfl⟩:=h;exact .cons y t' (wa t)
noncomputable def rJoin(K:Pn):V->aH->Hp->VK->Prop:=λx xs H Q=>∃z l ys,x=.str z/\xs=[.ref l]/\ju K H l (ys.map V.str)/\(ys.map (λy=>y.length)).sum+ys.length*z.length<=100000/\Q (.str (Txt.join z ys)) H
theorem CU:JS X "str.join" (rJoin X.K):=by
 rintro pins s σ H x xs v us Q I rx rs ⟨z,l,ys,ex,exs,hl,hz,q⟩;subst ex exs;obtain⟨t,rfl⟩:=rx;obtain⟨u,rfl⟩:∃u,us=[u]:=by
  cases rs with
  |cons _ t=>cases t;exact⟨_,rfl⟩
 have ru:RelV (.ref l) u:=by cases rs with|cons h _=>exact h
 cases ru;obtain⟨its,r,ht,_⟩:=I.list hl;exact PyProof.Rows.join_list ht.isList (wa r) ‹0› λt' k=>⟨.str _,H,I.tok _,⟨_,rfl⟩,q⟩
noncomputable def Jd:D->Option Str
 |.str z=>some z
 |_=>none
theorem CV{K:Pn}{H:Hp}{d:D}{z:Str}{v:V}(e:Jd d=some z)(h:bJ K H d v):v=.str z:=by
 cases d with
 |str y=>cases e;exact dW.mp h
 |_=>cases e
noncomputable def nI(z:Str)(as:List D):aY:=match as with
 |[.lst xs]=>(kc xs).bind λys=>if small ((ys.map (λy=>y.length)).sum+ys.length*z.length)then some (.str (Txt.join z ys))else none
 |_=>none
noncomputable def ki(f:FX)(g:aQ):FX:=λρ=>(f ρ).bind λa=>(rO (Jd a)).bind λz=>(g ρ).bind λds=>rO (nI z ds)
theorem qx{K:Pn}{H:Hp}{O:aD}{z:Str}{ds:List D}{d:D}{vs:aH}{Q:VK}(hg:nI z ds=some d)(hd:aG K (hid H O) ds vs)(q:∀v,bJ K (hid H O) d v->Q v H):rJoin K (.str z) vs H Q:=by
 unfold nI at hg;split at hg
 ·rename_i xs;cases e:kc xs with
  |none=>rw[e]at hg;cases hg
  |some ys=>
   rw[e]at hg;obtain⟨h1,h2⟩:=bb hg;subst h2;obtain⟨v,ev,h1'⟩:=hd.one;obtain⟨l,ws,el,hl,hw⟩:=bP.mp h1';rw[pM e]at hw;rw[oU hw]at hl;exact⟨z,l,ys,rfl,by rw[ev,el],(ax H O).seq hl,of_decide_eq_true h1,q _ (dW.mpr rfl)⟩
 ·cases hg
noncomputable def K7(a b:D):aY:=match a,b with
 |.bl c,.bl d=>some (.bl (c==d))
 |_,_=>none
noncomputable def Di(a b:D):aY:=match a,b with
 |.bl c,.bl d=>some (.bl (!(c==d)))
 |_,_=>none
end
structure Lz(K:Pn)(C:QO):Prop where
 makes:PD K C=true
 init:Pt K (.ref C) "__init__"=some (some (.builtin "object.__init__"))
 kp:PQ K (.ref C)=true
section
variable{X:Cx}{C:QO}{pins:aM}{σ:St}{H:Hp}{s:QR}{Q:VK}
theorem run_plain(M:Lz X.K C)(I:Inv X pins σ H s)(h:∀x dx,H x=none->H dx=none->dx≠x->Q (.ref x) (upd (upd H dx (.own x)) x (.ins C dx []))):
  Rc (model X.prog X.w) X.A (call (.ref C) []) (EP X pins σ Q) X.xe s:=by
 have hq:=h (s.heap.objs.size+1) s.heap.objs.size (I.hok.fresh (NE _)) (I.hok.fresh (Nt _)) (Nc (NB _));have I2:=Inv.made (C:=C) I;have e1:((s.heap.push PJ).push (Pl C s.heap.objs.size)).get? (s.heap.objs.size+1)=some (Pl C s.heap.objs.size):=by
  have:=Qq (s.heap.push PJ) (o:=Pl C s.heap.objs.size) rfl
  rwa [Qr]at this
 have hb:∀self,PP (model X.prog X.w) s.heap (bindSpecial (.builtin "object.__init__") self) (.builtin "object.__init__",[self]):=λself=>PySem.W.Looks.of_pure (PySem.W.oi_bind self);refine RK (x5 I.kIn M.makes M.init hb ?_);have h3:PP (model X.prog X.w) ((s.heap.push PJ).push (Pl C s.heap.objs.size)) (isInstance (.ref (s.heap.objs.size+1)) (.type "object")) true:=by
  have h4:PP (model X.prog X.w) ((s.heap.push PJ).push (Pl C s.heap.objs.size)) (typeOf (.ref (s.heap.objs.size+1))) (.ref C):=PySem.W.Looks.andThen (PySem.W.Looks.ld e1) PySem.W.Looks.now;exact PySem.W.Looks.andThen h4 (((PL I.kIn M.makes).top).keeps λb o q=>Qp _ (Qp _ q))
 refine Sf (b:=Builtin.«object.__init__») PySem.W.oi_plain PySem.W.entry_oi ?_;have ha:argsOk "object.__init__" {pos:=[Value.ref (s.heap.objs.size+1)],kw:=[]}:=PySem.W.oi_args _;refine PySem.W.check_slot (i:="object.__init__") (owner:="object") (n:="__init__") (self:=Value.ref (s.heap.objs.size+1)) (rest:=[]) (kw:=[]) PySem.W.oi_kind PySem.W.oi_split h3 ha ?_;rw[PySem.W.oi_run];exact Rp ⟨rfl,V.ref (s.heap.objs.size+1),_,I2,rfl,hq⟩
noncomputable def A4(K:Pn)(mg:bF)(c:Str):Prop:=∃C,clsAt K c C/\Lz K C/\mg c=some (.ref C)
noncomputable def anyB:List D->Option Bool
 |[]=>some false
 |.bl b::r=>(anyB r).bind λc=>some (b||c)
 |_=>none
noncomputable def xq:List D->aY
 |[.lst xs]=>(anyB xs).bind λb=>some (.bl b)
 |_=>none
theorem sk:∀{xs:List D}{b:Bool},anyB xs=some b->∃bs:List Bool,xs=bs.map .bl/\b=bs.any id
 |[],b,h=>by cases h;exact⟨[],rfl,rfl⟩
 |d::r,b,h=>by
  cases d with
  |bl x=>
   obtain⟨c,e1,e2⟩:=bind_some (show((anyB r).bind λc=>some (x||c))=some b from h);cases e2;obtain⟨bs,e3,e4⟩:=sk e1;exact⟨x::bs,by rw[Nx,e3],by rw[NZ,e4];rfl⟩
  |_=>cases h
theorem range_any(bs:List Bool):((List.range bs.length).any λi=>(bs[i]?).getD false)=bs.any id:=by
 induction bs with
 |nil=>rfl
 |cons b bs ih=>
  rw[Nw,Od,NZ,OT,NZ,<-ih];rfl
theorem xG(hc:X.calm=true):dh X (.builtin "any") (Au X.K xq):=by
 rintro pins s σ H xs us Q I r ⟨O,ds,d,hO,hd,hg,q⟩;unfold xq at hg;split at hg
 ·rename_i ys;obtain⟨bv,e1,e2⟩:=bind_some hg;cases e2;obtain⟨bs,eb,ev⟩:=sk e1;subst eb ev;obtain⟨v,evv,h1⟩:=hd.one;subst evv;obtain⟨p,vs,ep,g1,g2⟩:=bP.mp h1;subst ep;obtain⟨u,eu,ru⟩:=vals1 r;subst eu;cases ru;obtain⟨its,rv,pl,hz⟩:=I.list ((ax H O).seq g1);have ei:=jy g2 rv;have hl:=pl.isList;have hlt:p<s.heap.objs.size:=by obtain⟨_,e,_⟩:=hl;exact Qm e
  refine call_any_walk (Rr hl ?_);refine⟨s.heap.objs.size,[s.heap.objs.size,p],[s.heap.objs.size],its.toArray.size,_,_,λi=>(bs[i]?).getD false,rfl,Walks.list (A:=X.A.in1) (I.ok.hd hc) _ p (Nc hlt) its.toArray,
   ⟨⟨_,Qq _ rfl,rfl,rfl⟩,hl.push _⟩,λi v s' Q' E' hP hQ=>?_,λh' tk hk=>?_⟩
  ·have e:bs[i]?.map Value.bool=some v:=by
    rw[<-NP,<-ei]
    simpa using hP
   cases eb:bs[i]? with
   |none=>rw[eb]at e;cases e
   |some b=>
    rw[eb]at e;cases e;simp only[eb,Oy]at hQ;exact Rl hQ
  ·have e:((List.range its.toArray.size).any λi=>(bs[i]?).getD false)=bs.any id:=by
    have:its.toArray.size=bs.length:=(by rw[Nv,ei,Ny]);rw[this];exact range_any bs
   rw[e];have k:∀b x,s.heap.get? b=some x->h'.get? b=some x:=λb x e=>hk b x (λhm=>by rw[List.mem_singleton.mp hm]at e;exact Nb _ (Qm e)) (Qp _ e);exact⟨.bl _,H,I.kept k,rfl,q _ H (aP.refl H) (gF.mpr rfl)⟩
 ·cases hg
end
end TG
namespace TG
open PySem PySem.Spec PyProof.Rows L2
variable[aw]
noncomputable def tK:List D->List D->Option Bool
 |[],[]=>some false
 |[],_::_=>some true
 |_::_,[]=>some false
 |a::as,b::bs=>match a,b with
  |.int i,.int j=>if i=j then tK as bs else some (decide (i<j))
  |.str x,.str y=>if x=y then tK as bs else some (decide (x.cps.toList<y.cps.toList))
  |_,_=>none
inductive gq:aS->List D->Prop where
 |nil:gq [] []
 |int (i:Int) (t:Tok) {vs:aS} {ds:List D} (h:gq vs ds):gq (.int i t::vs) (.int i::ds)
 |str (x:Str) (t:Tok) {vs:aS} {ds:List D} (h:gq vs ds):gq (.str x t::vs) (.str x::ds)
theorem gq.length:∀{vs:aS}{ds:List D},gq vs ds->vs.length=ds.length
 |_,_,.nil=>rfl
 |_,_,.int _ _ h=>by rw[Nw,Nw,h.length]
 |_,_,.str _ _ h=>by rw[Nw,Nw,h.length]
theorem Hm(A:QZ)(s:QR)(a:Int)(t:Tok)(c:Int)(u:Tok):∃e,SeqAt.EqAt A s (.int a t) (.int c u) e/\(e=true↔a=c):=
 ⟨(a==c),SeqAt.EqAt.int_int a t c u,by simp⟩
theorem Hk(A:QZ)(s:QR)(a:Str)(t:Tok)(c:Str)(u:Tok):∃e,SeqAt.EqAt A s (.str a t) (.str c u) e/\(e=true↔a=c):=
 ⟨(a==c),SeqAt.EqAt.str_str a t c u,by simp⟩
theorem Ir(A:QZ)(s:QR)(a:Str)(t:Tok)(c:Str)(u:Tok)(prog:QT)(w:QS)(E:aW)(Q:aW)(h:Q (.bool (decide (a.cps.toList<c.cps.toList))) s):
  Rc (model prog w) A (richCompare .Lt (.str a t) (.str c u)) Q E s:=
 (PySem.P.lt_str h:Rc (model prog w) A (Rj .Lt (.str a t) (.str c u)) Q E s)
section
open PySem.SeqAt
open PySem.AutoSeq1 (wpAny_loadPart')
open PySem.MeetsSeq PySem.MeetsSeq2 PySem.MeetsSeq3
set_option maxHeartbeats 1000000 in
theorem oN(l b:QO)(items items2:Array QM)(n n2:Nat)(dd dd2:Option QO)(sl sl2:Array gZ)(ns ms:List D)(r:Bool)(hi:gq items.toList ns)(hj:gq items2.toList ms)(hr:tK ns ms=some r):
  Meets (Builtin.«tuple.__lt__» ⟨[.ref l,.ref b],[]⟩)
   (fun _ R s=>s.heap.get? l=some { cls:=.type "tuple",dict:=dd,data:=.seq items n,slots:=sl }/\s.heap.get? b=some { cls:=.type "tuple",dict:=dd2,data:=.seq items2 n2,slots:=sl2 } /\
    R (.ok (.ret (.bool r))) s):=
 .of_wp λprog w A R s h=>by
  obtain⟨hp,g,d,tk,os⟩:=s;obtain⟨hl,hb,h⟩:=h;have f2:=AutoSeq1.sub_tuple_tuple;have z1:items.size=ns.length:=by rw[<-hi.length];simp
  have z2:items2.size=ms.length:=by rw[<-hj.length];simp
  wp_walk using wpAny_loadPart' hl,wpAny_loadPart' hb,wpAny_forIn_list _ (λrest b s'=>b.1=none/\s'=⟨hp,g,d,tk,os⟩/\∃(vs ws:aS)(ns' ms':List D),rest=vs.zip ws/\
   gq vs ns'/\gq ws ms'/\ns'.length+items2.size=ms'.length+items.size/\tK ns' ms'=some r/\R (.ok (.ret (.bool r))) ⟨hp,g,d,tk,os⟩) _
  case turn=>
   rintro⟨y,x⟩ rest b s' ⟨hb',rfl,vs,ws,ns',ms',hz,hvi,hwi,hlen,hL,hR⟩;cases hvi with
   |nil=>rw[List.zip_nil_left]at hz;cases hz
   |int a t hvi'=>
    cases hwi with
    |nil=>rw[OU]at hz;cases hz
    |str c u hwi'=>cases hL
    |int c u hwi'=>
     rw[OJ]at hz;injection hz with hyx hrest;injection hyx with hy hx;subst hy hx;have hL':(if a=c then tK _ _ else some (decide (a<c)))=some r:=hL;simp only[Nw]at hlen;obtain⟨e,he,hiff⟩:=Hm A.in1 ⟨hp,g,d,tk,os⟩ a t c u;refine Rq (he prog w _ _ ?_);cases e with
     |true=>
      rw[if_pos (hiff.mp rfl)]at hL'
      wp_walk
      exact⟨rfl,rfl,_,_,_,_,hrest,hvi',hwi',by omega,hL',hR⟩
     |false=>
      rw[if_neg (λq=>absurd (hiff.mpr q) Nq)]at hL';cases hL';have hri:=HT.Hq A.in1 ⟨hp,g,d,tk,os⟩ a t c u prog w
      wp_walk using hri
      exact⟨_,rfl,by simpa using hR⟩
   |str a t hvi'=>
    cases hwi with
    |nil=>rw[OU]at hz;cases hz
    |int c u hwi'=>cases hL
    |str c u hwi'=>
     rw[OJ]at hz;injection hz with hyx hrest;injection hyx with hy hx;subst hy hx;have hL':(if a=c then tK _ _ else some (decide (a.cps.toList<c.cps.toList)))=some r:=hL;simp only[Nw]at hlen;obtain⟨e,he,hiff⟩:=Hk A.in1 ⟨hp,g,d,tk,os⟩ a t c u;refine Rq (he prog w _ _ ?_);cases e with
     |true=>
      rw[if_pos (hiff.mp rfl)]at hL'
      wp_walk
      exact⟨rfl,rfl,_,_,_,_,hrest,hvi',hwi',by omega,hL',hR⟩
     |false=>
      rw[if_neg (λq=>absurd (hiff.mpr q) Nq)]at hL';cases hL';have hri:=Ir A.in1 ⟨hp,g,d,tk,os⟩ a t c u prog w
      wp_walk using hri
      exact⟨_,rfl,by simpa using hR⟩
  case fin=>
   rintro⟨b1,b2⟩ s' ⟨hb',rfl,vs,ws,ns',ms',hz,hvi,hwi,hlen,hL,hR⟩;simp only at hb';subst hb';have hv:r=decide (items.size<items2.size):=by
    have l1:=hvi.length;have l2:=hwi.length;cases ns' with
    |nil=>
     cases ms' with
     |nil=>
      simp only[N0]at hlen;cases hL;exact(decide_eq_false ‹0›).symm
     |cons c u=>
      simp only[N0,Nw]at hlen;cases hL;exact(decide_eq_true ‹0›).symm
    |cons a t=>
     cases ms' with
     |nil=>
      simp only[N0,Nw]at hlen;cases hL;exact(decide_eq_false ‹0›).symm
     |cons c u=>
      have:=congrArg List.length hz
      simp only[N0,List.length_zip,l1,l2,Nw]at this;omega
   rw[hv]at hR
   wp_walk
   exact⟨_,rfl,by simpa [Builtin.Tuple.tupleCompareSizes]using hR⟩
  case h=>
   exact⟨rfl,rfl,items.toList,items2.toList,ns,ms,rfl,hi,hj,by omega,hr,h⟩
end
section
variable{X:Cx}
theorem xo{α:Type}{c:Bool}{o:Option α}{a:α}(h:(if c then o else none)=some a):c=true/\o=some a:=by
 cases c with
 |true=>exact⟨rfl,h⟩
 |false=>cases h
theorem uf{prog:QT}{w:QS}{A:QZ}{E:aW}{s:QR}{l b:QO}{items items2:Array QM}{ns ms:List D}{r:Bool}{Q:aW}(hl:IsTup s.heap l items)(hb:IsTup s.heap b items2)(hi:gq items.toList ns)(hj:gq items2.toList ms)(hr:tK ns ms=some r)
  (hu:A.units<RG) (h:Q (.bool r) s):Rc (model prog w) A (Rj .Lt (.ref l) (.ref b)) Q E s:=by
 obtain⟨⟨cls,dd,data,sl⟩,ho,hc,n,hd⟩:=id hl;obtain⟨⟨cls2,dd2,data2,sl2⟩,ho2,hc2,n2,hd2⟩:=id hb;simp only at hc hd hc2 hd2;subst hc hd hc2 hd2;exact richCompare_meets_room (op:=.Lt) ⟨_,ho,rfl⟩ ⟨_,ho2,rfl⟩ PySem.F.slot_tuple_lt PySem.F.entry_tuple_lt (PySem.F.args_tuple_lt_2 _ _) (oN l b items items2 n n2 dd dd2 sl sl2 ns ms r hi hj hr)
  ⟨ho,ho2,show Value.bool r≠Value.notImplemented/\Q (.bool r) s from⟨(λx=>nomatch x),h⟩⟩ hu
noncomputable def tI:List D->Bool
 |[]=>true
 |.int _::r=>tI r
 |.str _::r=>tI r
 |_=>false
theorem jY{K:Pn}{H:Hp}:∀{ds:List D}{vs:aH}{us:aS},tI ds=true->aG K H ds vs->Vals vs us->gq us ds
 |[],vs,us,_,h,r=>by
  rw[bB]at h;subst h;cases r;exact .nil
 |d::ds,vs,us,hf,h,r=>by
  obtain⟨v,r',e,h1,h2⟩:=aI.mp h;subst e;cases r with
  |cons q1 q2=>
   cases d with
   |int i=>
    rw[eQ]at h1;subst h1;obtain⟨t,rfl⟩:=q1;exact .int i t (jY hf h2 q2)
   |str x=>
    rw[dW]at h1;subst h1;obtain⟨t,rfl⟩:=q1;exact .str x t (jY hf h2 q2)
   |_=>cases hf
noncomputable def lN(a b:D):aY:=match a,b with
 |.int i,.int j=>some (.bl (decide (i<j)))
 |.str x,.str y=>some (.bl (decide (x.cps.toList<y.cps.toList)))
 |.tup xs,.tup ys=>if tI xs&&tI ys then(tK xs ys).bind λr=>some (.bl r)else none
 |_,_=>none
theorem zN(hu:X.A.units+64<RG):ib X (Rj .Lt) (rD X.K lN):=by
 rintro pins s σ H x y u v Q I rx ry ⟨O,a,b,d,hO,ha,hb,hg,q⟩;cases a with
 |int i=>
  cases b with
  |int j=>
   cases hg;exact Ip pins s σ H x y u v Q I rx ry ⟨i,j,eQ.mp ha,eQ.mp hb,q _ H (aP.refl H) (gF.mpr rfl)⟩
  |_=>cases hg
 |str i=>
  cases b with
  |str j=>
   cases hg;exact xk pins s σ H x y u v Q I rx ry ⟨i,j,dW.mp ha,dW.mp hb,q _ H (aP.refl H) (gF.mpr rfl)⟩
  |_=>cases hg
 |tup xs=>
  cases b with
  |tup ys=>
   obtain⟨h1,h2⟩:=xo hg;obtain⟨r,e1,e2⟩:=bind_some h2;cases e2;rw[NU]at h1;obtain⟨p,vs,ex,g1,g2⟩:=bQ.mp ha;obtain⟨p',vs',ey,g1',g2'⟩:=bQ.mp hb;subst ex ey;cases rx;cases ry;obtain⟨its,r1,t1,_⟩:=I.tuple (bL (ax H O) g1);obtain⟨its2,r2,t2,_⟩:=I.tuple (bL (ax H O) g1');exact uf t1 t2 (jY h1.1 g2 r1) (jY h1.2 g2' r2) e1 ‹0› (zi I (q _ H (aP.refl H) (gF.mpr rfl)) rfl)
  |_=>cases hg
 |_=>cases hg
end
end TG
namespace TG
open PySem PySem.Spec L2
variable[aw]
structure NotIn(K:Pn)(D C:QO):Prop where
 ne:D≠C
 cls:(P7 K C).isSome=true
 ty:PF K (.ref C)=some (.type "type")
 ins:P8 K (.ref C) (.type "type")=some true
 sub:P9 K (.ref D) (.ref C)=some false
 fc:Pt K (.ref D) "__class__"=some (some (.builtin "object.__class__"))
 sg:Qa K (.builtin "object.__class__") "__get__"=some (some (.builtin "getset_descriptor.__get__"))
 tk:Qb K (.builtin "object.__class__")=some true
 mo:Qc K D (.type "object")=some true
section
open PySem.W PySem.Calls PyProof.Rows
variable{prog:QT}{w:QS}{A:QZ}{E:aW}{s:QR}{K:Pn}{x D C:QO}{ox od:Obj}
theorem uQ{Q:gZ->eI}(X:K.In s.heap)(I:InstAt s.heap x ox D (some od))(cl:L2.lm K D)(n:NotIn K D C)(h:Q (some (.ref D)) {s with toks:=s.toks+1}):Rc (model prog w) A (getAttr? (.ref x) "__class__") Q E s:=by
 obtain⟨hga,hk⟩:=plainGet_of (cl.get "__class__");have hf:=findObj_data (od:=od) (name:="__class__") (by obtain⟨cd,hc,_⟩:=Sg cl.hd;rw[hc];rfl) n.fc n.sg n.tk;obtain⟨hh,g,d,t,os⟩:=s;have L0:=I.type (M:=model prog w);have L1:=Sh (M:=model prog w) X hga;have L2:=looks_find (M:=model prog w) X I hf;have L3:=Sh (M:=model prog w) X hk;unfold getAttr? getAttrBy? getAttrBy;refine Rq (wpAny_mkText (Rq (Se (RU (Rq (L0.at (Rq (L1.at ?_))))))));show Rc _ _ (getAttrEveryday _ _ _) _ _ _;refine Rq (Sb (wpAny_runValue (Si PySem.F.plainObj_entry_getattr_hooked ?_)));refine Rq (Rp (Rq (L0.at (Rq (L2.at (Rq (L3.at ?_)))))));show Rc _ _ (holding [_] (call _ [_,.ref x,.ref D]) >>= ret) _ _ _;refine Rq (RU (RK (class_get (s:=⟨hh,g,d,t+1,os⟩) (ox:=ox) (od:=some od) X I n.mo ?_)));refine Rp ?_;show Rc _ _ (handedOut (.ref D)) _ _ _;exact handed_on rfl (Rp h)
theorem rM{dep:Int}{tk:Tok}{Q:PySem.Fin->eI}(X:K.In s.heap)(I:InstAt s.heap x ox D (some od))(cl:L2.lm K D)(n:NotIn K D C)(h:Q (.done (.ret (.bool false))) {s with toks:=s.toks+1}):
  Rc (model prog w) A (Builtin.«isinstance.nested» ⟨[.ref x,.ref C,.int dep tk],[]⟩) Q E s:=by
 have ca:=λ{A E}{Q:gZ->eI}(h:Q (some (.ref D)) {s with toks:=s.toks+1})=>uQ (prog:=prog) (w:=w) (A:=A) (E:=E) X I cl n h;obtain⟨hh,g,d,tt,os⟩:=s;have ht:=I.type (M:=model prog w);unfold Builtin.«isinstance.nested»;refine Rq (ht.at ?_);rw[if_neg (λq=>n.ne (by have:=beq_iff_eq.mp q;cases this;rfl))];have L1:=looks_typeIn (M:=model prog w) X n.ty;have L2:=looks_instIn (M:=model prog w) X n.ins;have L4:Sj (model prog w) hh (isSubtype (.ref D) (.ref C)) false:=looks_subIn X n.sub;have L3:Sj (model prog w) hh (isInstance (.ref x) (.ref C)) false:=ht.andThen L4;refine Rq (L1.at ?_);rw[if_pos (by decide)]
 k_delta "plainIsInstance"
 unfold isType
 repeat lk
 have e0:=n.cls;unfold clsIn at e0;split at e0
 ·rename_i ho;refine nd_load (X _ _ ho) (nd_pure (Rp ?_));simp only[OV,N5,if_false];refine Rq (L3.at ?_);simp only[N5,if_false];refine Rq (ca ?_);have e1:(clsIn K D).isSome=true:=by obtain⟨cd,hc,_⟩:=Sg cl.hd;rw[hc];rfl
  unfold clsIn at e1;split at e1
  ·rename_i ho2;refine Rq (nd_load (X _ _ ho2) (Rp ?_));simp only[OV,N5,if_false];refine Rq (R4 ?_);refine L4.at ?_;exact Rp h
  ·cases e1
 ·cases e0
theorem yx{Q:aW}(X:K.In s.heap)(I:InstAt s.heap x ox D (some od))(cl:L2.lm K D)(n:NotIn K D C)(h:Q (.bool false) {s with toks:=s.toks+1}):
  Rc (model prog w) A (call (.builtin "isinstance") [.ref x,.ref C]) Q E s:=
 call_isinstance (S:=λ_ R s=>(K.In s.heap/\InstAt s.heap x ox D (some od))/\R (.ok (.ret (.bool false))) {s with toks:=s.toks+1})
  (λ_ _ _ _ _ hs=>isinstance_outer (rM hs.1.1 hs.1.2 cl n hs.2) (λz=>nomatch z)) ⟨⟨X,I⟩,h⟩
end
noncomputable def sr(K:Pn)(mg:bF)(x:Str)(yes no:av):Prop:=∃C,mg x=some (.ref C)/\(∀c∈yes,∀D,clsAt K c D->Qd K (.ref D) C=true)/\∀c∈no,∀D,clsAt K c D->lm K D/\NotIn K D C
noncomputable def oK(yes no:av)(d:D):aY:=match d with
 |.obj c _ _=>if yes.contains c then some (.bl true)else if no.contains c then some (.bl false)else none
 |_=>none
noncomputable def JI(K:Pn)(C:QO):aH->Hp->VK->Prop:=λxs H Q=>∃p D dx fs,xs=[.ref p,.ref C]/\H p=some (.ins D dx fs)/\((Qd K (.ref D) C=true/\Q (.bl true) H)\/(lm K D/\NotIn K D C/\Q (.bl false) H))
section
variable{X:Cx}{p pos:Pos}{e:QP}{C:QO}
theorem zv:dh X (.builtin "isinstance") (JI X.K C):=by
 rintro pins s σ H xs us Q I r ⟨p,D,dx,fs,ex,hp,hq⟩;subst ex;obtain⟨u,w',rfl,rx,rt⟩:=vals2 r;cases rx;cases rt;obtain⟨mA,om,_⟩:=lV I.hok hp;obtain⟨od,ia,_⟩:=om.look;rcases hq with⟨hi,q⟩|⟨cl,n,q⟩
 ·exact PySem.W.isi_call I.kIn (λM=>ia.type) hi (λz=>nomatch z) ⟨.bl true,H,I,rfl,q⟩
 ·exact yx I.kIn ia cl n ⟨.bl false,H,I.tok _,rfl,q⟩
end
end TG
namespace TG
open PySem PySem.Spec PyProof.Rows PySem.W L2
variable[aw]
theorem yS{x y:Str}(h:x.cps.toList=y.cps.toList):x=y:=by
 cases x;cases y;congr 1;exact Array.toList_inj.mp h
end TG
namespace TG
open PySem PySem.Spec L2
variable[aw]
section
variable{X:Cx}{tg:QP}
end
end TG
namespace TG
open PySem PySem.Spec L2
variable[aw]
end TG
namespace TG
open PySem PySem.Spec L2
variable[aw]
end TG
namespace TG
open PySem PySem.Spec L2
variable[aw]
noncomputable def keyOf:D->Option Key
 |.int i=>some (.inl i)
 |.str x=>some (.inr x)
 |_=>none
noncomputable def keysOf:List D->Option (List Key)
 |[]=>some []
 |d::r=>(keyOf d).bind λk=>(keysOf r).map (k::·)
noncomputable def uj:D->Option (List Key)
 |.tup ds=>keysOf ds
 |_=>none
theorem iC{d:D}{k:Key}(h:keyOf d=some k):d=bC k:=by
 cases d with
 |int i=>cases h;rfl
 |str x=>cases h;rfl
 |_=>cases h
theorem pU:∀{ds:List D}{ks:List Key},keysOf ds=some ks->ds=ks.map bC
 |[],_,h=>by cases h;rfl
 |d::r,ks,h=>by
  unfold keysOf at h;cases e1:keyOf d with
  |none=>rw[e1]at h;cases h
  |some k=>
   rw[e1]at h;cases e2:keysOf r with
   |none=>rw[e2]at h;cases h
   |some ks'=>rw[e2]at h;cases h;rw[iC e1,pU e2];rfl
theorem rB{d:D}{k:List Key}(h:uj d=some k):d=.tup (k.map bC):=by
 cases d with
 |tup ds=>rw[pU (show keysOf ds=some k from h)]
 |_=>cases h
theorem iB:∀ks:List Key,keysOf (ks.map bC)=some ks
 |[]=>rfl
 |k::r=>by
  show(keyOf (bC k)).bind _=_;have e:keyOf (bC k)=some k:=by cases k<;>rfl
  rw[e];show(keysOf (r.map bC)).map (k::·)=_;rw[iB r];rfl
theorem iS{K:Pn}{H:Hp}{k:Key}{v:V}(h:bJ K H (bC k) v):v=kV k:=by
 cases k with
 |inl i=>exact eQ.mp h
 |inr x=>exact dW.mp h
theorem kN{K:Pn}{H:Hp}:∀{ks:List Key}{vs:aH},aG K H (ks.map bC) vs->vs=ks.map kV
 |[],vs,h=>by rw[NX,bB]at h;exact h
 |k::r,vs,h=>by
  rw[Nx,aI]at h;obtain⟨v,r',e1,h1,h2⟩:=h;rw[e1,iS h1,kN h2];rfl
section
variable{P:QT}{w:QS}{H H':Hp}{h:QV}{a:QO}
theorem Be(x:bM P w H h a (.dK [])):bM P w H' h a (.dT []):=by
 obtain⟨z,hd,vs,rel,o,es,ep,h1,h2,h3,h4,h5,h6⟩:=x;have e:vs=[]:=by have:=rel.length;simpa using this.symm
 subst e;refine⟨NC _,hd,[],.nil,o,es,ep,h1,h2,h3,?_,by simp⟩
 have:=h5.length
 simpa using this
theorem zl(x:bM P w H h a (.dT [])):bM P w H' h a (.dK []):=by
 obtain⟨z,hd,xs,rel,o,es,ep,h1,h2,h3,h4,h5⟩:=x;have e:xs=[]:=by have:=rel.length;simpa using this.symm
 subst e;have e2:es=#[]:=by simpa using h4
 subst e2;exact⟨NC _,hd,[],.nil,o,#[],ep,h1,h2,h3,λe he=>by simp at he,.nil,by simp⟩
end
section
variable{X:Cx}{pins:aM}{σ:St}{H:Hp}{s:QR}{a:QO}
theorem Ih(I:Inv X pins σ H s)(h1:H a=some (.dK [])):Inv X pins σ (upd H a (.dT [])) s:=by
 have hx:=I.hok a _ h1;have hq:∃q,s.heap.get? a=some q:=by obtain⟨_,_,_,_,o,_,_,e,_⟩:=id hx;exact⟨o,e⟩
 exact rl (ob:=.dT []) (h':=s.heap) (t':=s.toks) I (by rw[h1];exact trivial) ⟨rfl,λ_ _=>rfl⟩ hq (Be hx)
theorem HV(I:Inv X pins σ H s)(h1:H a=some (.dT [])):Inv X pins σ (upd H a (.dK [])) s:=by
 have hx:=I.hok a _ h1;have hq:∃q,s.heap.get? a=some q:=by obtain⟨_,_,_,_,o,_,_,e,_⟩:=id hx;exact⟨o,e⟩
 exact rl (ob:=.dK []) (h':=s.heap) (t':=s.toks) I (by rw[h1];exact trivial) ⟨rfl,λ_ _=>rfl⟩ hq (zl hx)
end
theorem tG{H:Hp}{a:QO}{o1 o2:HO}(h:H a=some o1):upd (upd H a o2) a o1=H:=by
 funext b;by_cases e:b=a
 ·subst e;rw[aq,h]
 ·rw[ak e,ak e]
noncomputable def wL:List D->List D->Option (fz)
 |[],[]=>some []
 |k::ks,d::ds=>(uj k).bind λk=>(wL ks ds).map ((k,d)::·)
 |_,_=>none
noncomputable abbrev encK(al:fz):List D:=al.map λp=>.tup (p.1.map bC)
noncomputable abbrev wQ(al:fz):D:=.dct (encK al) (al.map (·.2))
theorem wo:∀{ks ds:List D}{al:fz},wL ks ds=some al->ks=encK al/\ds=al.map (·.2)
 |[],[],_,h=>by cases h;exact⟨rfl,rfl⟩
 |k::ks,d::ds,al,h=>by
  unfold wL at h;cases e1:uj k with
  |none=>rw[e1]at h;cases h
  |some k'=>
   rw[e1]at h;cases e2:wL ks ds with
   |none=>rw[e2]at h;cases h
   |some al'=>
    rw[e2]at h;cases h;obtain⟨h1,h2⟩:=wo e2;rw[rB e1,h1,h2];exact⟨rfl,rfl⟩
 |[],_::_,_,h=>by cases h
 |_::_,[],_,h=>by cases h
theorem so:∀{al:fz}{ks:List (List Key)},encK al=ks.map (λk=>.tup (k.map bC))->al.map (·.1)=ks
 |[],[],_=>rfl
 |p::r,k::ks,h=>by
  have h:D.tup (p.1.map bC)::encK r=D.tup (k.map bC)::ks.map (λk=>.tup (k.map bC)):=h;injection h with h1 h2;injection h1 with h1;have e:some p.1=some k:=by rw[<-iB p.1,h1,iB k]
  rw[Nx,Option.some.inj e,so h2]
 |[],_::_,h=>by cases h
 |_::_,[],h=>by cases h
noncomputable def sE(al:fz)(k:List Key)(v:D):fz:=if(al.any λp=>decide (p.1=k))=true then al.map (λp=>if p.1=k then(p.1,v)else p)else al++[(k,v)]
theorem AO{kvs:List (List Key×V)}{al:fz}(e:kvs.map (·.1)=al.map (·.1))(k:List Key)(w:V)(d:D):(putK kvs k w).map (·.1)=(sE al k d).map (·.1):=by
 have e2:(kvs.any λp=>decide (p.1=k))=(al.any λp=>decide (p.1=k)):=by
  have:=congrArg (λl=>l.any λq=>decide (q=k)) e
  simpa [OT,Function.comp_def]using this
 unfold putK sE;rw[e2];split
 ·have e3:∀(l:List (List Key×V)),(l.map λkv=>if kv.1=k then(kv.1,w)else kv).map (·.1)=l.map (·.1):=λl=>by
   rw[OW];refine Om λp _=>?_;show(if p.1=k then(p.1,w)else p).1=p.1;split<;>rfl
  have e4:∀(l:fz),(l.map λkv=>if kv.1=k then(kv.1,d)else kv).map (·.1)=l.map (·.1):=λl=>by
   rw[OW];refine Om λp _=>?_;show(if p.1=k then(p.1,d)else p).1=p.1;split<;>rfl
  rw[e3,e4,e]
 ·rw[Oo,Oo,e];rfl
theorem sB{K:Pn}{H:Hp}{k:List Key}{w:V}{d:D}(hw:bJ K H d w):∀{kvs:List (List Key×V)}{al:fz},kvs.map (·.1)=al.map (·.1)->aG K H (al.map (·.2)) (kvs.map (·.2))->
  aG K H ((al.map λp=>if p.1=k then(p.1,d)else p).map (·.2)) ((kvs.map λp=>if p.1=k then(p.1,w)else p).map (·.2))
 |[],[],_,h=>h
 |p::r,q::r',e,h=>by
  rw[Nx,Nx]at e;injection e with e1 e2;rw[Nx,Nx,aI]at h;obtain⟨v,ws,h0,h1,h2⟩:=h;injection h0 with h0 h0';subst h0 h0';have ih:=sB (k:=k) hw e2 h2;rw[Nx,Nx,Nx,Nx,aI];refine⟨_,_,rfl,?_,ih⟩;rw[e1];split
  ·exact hw
  ·exact h1
 |[],_::_,e,_=>by cases e
 |_::_,[],e,_=>by cases e
theorem Bv{K:Pn}{H:Hp}{k:List Key}{w:V}{d:D}(hw:bJ K H d w){kvs:List (List Key×V)}{al:fz}(e:kvs.map (·.1)=al.map (·.1))(h:aG K H (al.map (·.2)) (kvs.map (·.2))):
  aG K H ((sE al k d).map (·.2)) ((putK kvs k w).map (·.2)):=by
 have e2:(kvs.any λp=>decide (p.1=k))=(al.any λp=>decide (p.1=k)):=by
  have:=congrArg (λl=>l.any λq=>decide (q=k)) e
  simpa [OT,Function.comp_def]using this
 unfold putK sE;rw[e2];split
 ·exact sB hw e h
 ·rw[Oo,Oo];exact h.append (aI.mpr ⟨w,[],rfl,hw,bB.mpr rfl⟩)
theorem EX{kvs:List (List Key×V)}{al:fz}(e:kvs.map (·.1)=al.map (·.1)):encK al=kvs.map λp=>D.tup (p.1.map bC):=by
 have:=congrArg (List.map λk:List Key=>D.tup (k.map bC)) e
 rw[OW,OW]at this;exact this.symm
end TG
namespace TG
open PySem PySem.Spec L2
variable[aw]
end TG
namespace TG
open PySem PySem.Spec PySem.W PySem.Calls PyProof.Rows Builtin Builtin.ObjectAttr Builtin.Getset_descriptor
variable[aw]
section
variable{prog:QT}{w:QS}{A:QZ}{E:QM->QR->Prop}{s:QR}{K:Frag}{x D:QO}{ox:Obj}{R:Rz->QR->Prop}
theorem Al{M:Rb}{h:QV}(X:K.In h)(q1:findIn K (.ref D) "__class__"=some (some (.builtin "object.__class__")))(q2:specialIn K (.builtin "object.__class__") "__get__"=some (some (.builtin "getset_descriptor.__get__")))(q3:takesIn K (.builtin "object.__class__")=some true):
  Sj M h (find (.ref x) (.ref D) "__class__") (.bind (.builtin "getset_descriptor.__get__") (.builtin "object.__class__")):=by
 have y1:=Sh (M:=M) X q1;have y2:Sj M h (getOf (some (.builtin "object.__class__"))) (some (.builtin "getset_descriptor.__get__")):=looks_specialIn X q2;have y3:=looks_takesIn (M:=M) X q3;refine y1.andThen (y2.andThen ?_);refine Looks.andThen (a:=some (.builtin "getset_descriptor.__get__",.builtin "object.__class__")) (y3.andThen .now) ?_;exact Looks.tag .now
theorem Dy{tp:QM}(y0:Sj (model prog w) s.heap (typeOf (.ref x)) (.ref D))(y1:Sj (model prog w) s.heap (isSubtype (.ref D) (.type "object")) true)(h:R (.ok (.ret (.ref D))) s):
  RB (model prog w) A (.call (.builtin "getset_descriptor.__get__") ⟨[.builtin "object.__class__",.ref x,tp],[]⟩) R s:=by
 obtain⟨h₁,g₁,d₁,t₁,o₁⟩:=s;refine Sf KF.slot_gs.plain KF.entry_gs
  (KF.slot_gs.check _ _ _ _ _ _ _ _ KF.type_class (KF.args_gs _ _ _) ?_)
 unfold Builtin.«getset_descriptor.__get__»;unfold descrGet;rw[dga_obj];refine Rq (Rp ?_);unfold descrGetter descrCheckInstance;unfold descrNameAndClass isInstance;simp only[KF.owner_class]
 repeat lk
 refine⟨Code.quiet_builtin _ (by decide +kernel),
  Si KF.entry_class ?_⟩
 unfold Builtin.«object.__class__»;unfold shownTypeOf
 repeat lk
 exact h
structure jv(K:Frag)(D:QO):Prop where
 ga:findIn K (.ref D) "__getattribute__"=some (some (.builtin "BaseException.__getattribute__"))
 gn:findIn K (.ref D) "__getattr__"=some none
 fc:findIn K (.ref D) "__class__"=some (some (.builtin "object.__class__"))
 sg:specialIn K (.builtin "object.__class__") "__get__"=some (some (.builtin "getset_descriptor.__get__"))
 tk:takesIn K (.builtin "object.__class__")=some true
 ob:mroIn K D (.type "object")=some true
 be:mroIn K D (.type "BaseException")=some true
theorem xj{Q:Option QM->QR->Prop}(Z:jv K D)(X:K.In s.heap)(y0:∀M,Sj M s.heap (typeOf (.ref x)) (.ref D))(h:Q (some (.ref D)) {s with toks:=s.toks+1}):Rc (model prog w) A (getAttr? (.ref x) "__class__") Q E s:=by
 obtain⟨hh,g,d,t,os⟩:=s;have L0:=y0 (model prog w);have L1:=Sh (M:=model prog w) X Z.ga;have L2:=Sh (M:=model prog w) X Z.gn;have L3:=looks_mroIn (M:=model prog w) X Z.be;have L4:=Al (M:=model prog w) (x:=x) X Z.fc Z.sg Z.tk;have L5:=looks_mroIn (M:=model prog w) X Z.ob;unfold getAttr? getAttrBy? getAttrBy;refine Rq (wpAny_mkText (Rq
  (Se (RU (Rq (L0.at (Rq (L1.at ?_))))))))
 show Rc _ _ (getAttrByItsOwn _ _ _ _ _ _) _ _ _;unfold getAttrByItsOwn;refine Rq ?_;show Rc _ _ (typeLookup (Value.ref D) "__getattr__") _ _ _;refine L2.at ?_;refine Rq (Se (RU ?_));show Rc _ _ (boundAndCalled _ _ _) _ _ _;unfold boundAndCalled;rw[PySem.F.attrBase_ValueError.ga.bind (.ref x)];refine Rq (Rp ?_);have ha:=F.args_bexc_ga (.ref x) (Value.str (Str.ofString "__class__") t);have hk:builtinKind "BaseException.__getattribute__"=some .slot:=by
  decide +kernel
 have hsplit:splitId "BaseException.__getattribute__"=some ("BaseException","__getattribute__"):=by
  decide +kernel
 refine RK (Sf PySem.F.attrBase_ValueError.ga.plain F.entry_bexc_ga ?_);have LI:Sj (model prog w) hh (isInstance (.ref x) (.type "BaseException")) true:=L0.andThen L3;have hT:∀A' (Q':Unit->QR->Prop) E',Q' () ⟨hh,g,d,t+1,os⟩->Rc (model prog w) A' (checkBuiltinCall "BaseException.__getattribute__" ⟨[.ref x,Value.str (Str.ofString "__class__") t],[]⟩) Q' E' ⟨hh,g,d,t+1,os⟩:=λA' Q' E' hq=>by
  simp only[checkBuiltinCall,hk,hsplit];refine Rq (LI.at ?_)
  repeat (first|exact hq|wp_step)
 refine hT _ _ _ ?_;show Rc _ _ (Builtin.«object.__getattribute__» ⟨[.ref x,Value.str (Str.ofString "__class__") t],[]⟩) _ _ _;unfold Builtin.«object.__getattribute__»;refine Rq (Rp ?_);refine Rq (Rp ?_);refine Rq (L0.at ?_);refine Rq (L4.at ?_);show Rc _ _ (Builtin.ObjectAttr.bindTo (.builtin "getset_descriptor.__get__") (.builtin "object.__class__") (.ref x) (.ref D)) _ _ _;unfold Builtin.ObjectAttr.bindTo;dsimp only;refine Rq (RU (RK (Dy (s:=⟨hh,g,d,t+1,os⟩) L0 L5 ?_)));exact Rp (handed_on rfl (Rp h))
theorem sd(F:jv K D):KitX K (.ref x) (.ref D) (λh=>∃o,h.get? x=some o/\o.cls=.ref D):=by
 have cl:∃c d cd sl,K.lookup D=some ⟨c,d,.cls cd,sl⟩:=by
  have z:=F.fc;unfold findIn at z;dsimp only at z;split at z
  ·rename_i ho;exact⟨_,_,_,_,ho⟩
  ·cases z
 have ty:∀(M:Rb)(h:QV),(∃o,h.get? x=some o/\o.cls=.ref D)->Sj M h (typeOf (.ref x)) (.ref D):=λM h ⟨o,e,c⟩=>c ▸ (Looks.ld e).andThen .now;refine⟨λM h _ I=>ty M h I,λM h X _=>?_,λh tp dd its n sl X htp=>?_,λX I k=>xj F X (λM=>ty M _ I) k⟩
 ·obtain⟨c,d,cd,sl,ho⟩:=cl;intro A' Q' E' s' k q;unfold isType loadHead;exact Rq (Rw (k _ _ (X _ _ ho)) (Rp q))
 ·obtain⟨c,d,cd,sl,ho⟩:=cl;cases hb:(Value.ref D==Value.ref tp)with
  |false=>rfl
  |true=>
   have e:D=tp:=Value.ref.inj (beq_iff_eq.mp hb);subst e;cases(X _ _ ho).symm.trans htp
end
end TG
namespace TG
open PySem PySem.Spec PySem.W PySem.Calls PyProof.Rows Builtin Builtin.ObjectAttr Builtin.Getset_descriptor
noncomputable def ud:List QM->Bool
 |.ref _::r=>ud r
 |l=>l==[.type "ValueError",.type "Exception",.type "BaseException",.type "object"]
noncomputable def um(K:Frag)(D:QO):Bool:=(clsIn K D).any λcd=>ud cd.mro
theorem o6(self:QM):∀{l:List QM},ud l=true->refuseLoop self "__setattr__" l=pure ()/\l.contains (.type "object")=true/\l.isEmpty=false
 |[],h=>by cases h
 |c::r,h=>by
  cases c with
  |ref C=>
   obtain⟨h1,h2,_⟩:=o6 self (l:=r) h;exact⟨by rw[refuseLoop_ref];exact h1,by rw[OL,h2,Bool.or_true],rfl⟩
  |_=>
   have e:=eq_of_beq (show(_==_)=true from h);rw[e];exact⟨PySem.F.store_ValueError.passes self,by decide +kernel,rfl⟩
section
variable{prog:QT}{w:QS}{A:QZ}{E:QM->QR->Prop}{s:QR}{K:Frag}{x D:QO}{ox:Obj}{od:Option Obj}{name:Str}{v:QM}{tk:Tok}{R:Rz->QR->Prop}
theorem vM(X:K.In s.heap)(I:InstAt s.heap x ox D od)(hp:um K D=true)(ha:findIn K (.ref D) name=some none)
  (h:Rc (model prog w) A.in1 (storeInOwnDict (.ref x) (.ref D) (.str name tk) name v false) (λfin s'=>match fin with|.done f=>R (.ok f) s'|.again c'=>c'.quiet=true/\RB (model prog w) A c' R s') (λe s'=>R (.error e) s') s):
  RB (model prog w) A (.call (.builtin "object.__setattr__") ⟨[.ref x,.str name tk,v],[]⟩) R s:=by
 have SF:=PySem.F.store_object;obtain⟨cd,hc,ho⟩:=Sg hp;obtain⟨v1,v2,v3⟩:=o6 (.ref x) ho;have k1:Sj (model prog w) s.heap (isInstance (.ref x) (.type "object")) true:=I.type.andThen (looks_mroIn X (by unfold mroIn;rw[hc,Option.bind_some,if_neg (by rw[v3];decide),v2]));have k2:Sj (model prog w) s.heap (mroOf (.ref D)) cd.mro:=(looks_clsIn X hc).andThen .now;refine Sf SF.slot.plain SF.entry (@check_slot (model prog w) _ _ s "object.__setattr__" "object" "__setattr__" (.ref x) [.str name tk,v] [] _ SF.kind SF.split k1 (SF.args (.ref x) (.str name tk) v) ?_);rw[osa_eq,refuse_eq];refine Rq (Rq (I.type.here (Rq (k2.here ?_))));rw[v1];refine Rp (Rq (I.type.here (Rq ((Sh X ha).here (Rq (Rp ?_))))));exact h
end
section
variable{prog:QT}{w:QS}{A:QZ}{E:QM->QR->Prop}{s:QR}{K:Frag}{x D dx:QO}{ox:Obj}{od:Option Obj}{name:Str}{v:QM}{tk:Tok}{R:Rz->QR->Prop}{mA:Str->Option QM}{ns:List Str}{Q:Unit->QR->Prop}
structure D4(K:Frag)(D:QO):Prop where
 sa:findIn K (.ref D) "__setattr__"=some (some (.builtin "object.__setattr__"))
 ov:um K D=true
 hd:hasDictIn K D=true
theorem Ab(Z:D4 K D)(X:K.In s.heap)(hx:s.heap.get? x=some ox)(hc:ox.cls=.ref D)(hn:notCls ox=true)(hd:ox.dict=some dx)(hns:s.heap.Ns1 dx mA)(ha:findIn K (.ref D) name=some none)(hw:PySem.Within mA ns)(hsz:ns.length<=QW)
  (h:∀h',h'.Ns1 dx (λy=>if y=name then some v else mA y)->Qo dx s.heap h'->Q () {s with heap:=h',toks:=s.toks+2}):Rc (model prog w) A (setAttr (.ref x) name v) Q E s:=by
 obtain⟨oD0,ho0,hl0⟩:=L2.xL hns;have I:InstAt s.heap x ox D (some oD0):=⟨hx,hc,hn,by rw[hd];exact ho0⟩
 refine set_plain X I Z.sa (vM (s:={s with toks:=s.toks+1}) X I Z.ov ha ?_);obtain⟨cd,c1,c2⟩:=Sg Z.hd;obtain⟨oc,odi,oda,osl⟩:=ox;dsimp only at hc hd;subst hc hd;refine Rq (Rp (Rq (Rq (Rw hx (Rq (Looks.here (s:={s with toks:=s.toks+1}) (looks_clsIn X c1) ?_))))));rw[c2];refine Rp (a:=some dx) (Rq (Rp (Rq ?_)));refine wpAny_nsSet1 (s:={s with toks:=s.toks+1}) hns λh' n2 s2=>?_;obtain⟨o3,es3,ep3,q1,q2,q3⟩:=n2.count (PySem.Within.cons name v hw);refine Rq (Rx q1 (by rw[q2];exact Ry (Nf q3 (by rw[Nw];omega))) ?_);exact Rp (h _ n2 s2)
theorem zq{vs:Array QM}(Z:D4 K D)(X:K.In s.heap)(hx:s.heap.get? x=some ox)(hc:ox.cls=.ref D)(hdat:ox.data=.fields vs)(hd:ox.dict=none)(ha:findIn K (.ref D) name=some none)
  (h:∀h',h'.Ns1 s.heap.objs.size (λy=>if y=name then some v else none)->Qo s.heap.objs.size ((s.heap.push {cls:=.type "dict",data:=.dict #[]}).update x λo=>{o with dict:=some s.heap.objs.size}) h'->Q () {s with heap:=h',toks:=s.toks+2}):Rc (model prog w) A (setAttr (.ref x) name v) Q E s:=by
 obtain⟨oc,odi,oda,osl⟩:=ox;dsimp only at hc hd hdat;subst hc hd hdat;have I:InstAt s.heap x ⟨.ref D,none,.fields vs,osl⟩ D none:=⟨hx,rfl,rfl,trivial⟩
 refine set_plain X I Z.sa (vM (s:={s with toks:=s.toks+1}) X I Z.ov ha ?_);obtain⟨cd,c1,c2⟩:=Sg Z.hd;refine Rq (Rp (Rq (Rq (Rw hx (Rq (Looks.here (s:={s with toks:=s.toks+1}) (looks_clsIn X c1) ?_))))));rw[c2];have hx1:(s.heap.push {cls:=.type "dict",data:=.dict #[]}).get? x=some ⟨.ref D,none,.fields vs,osl⟩:=Qp _ hx;have ne:x≠s.heap.objs.size:=Nc (Qm hx);rw[if_neg (by decide)];dsimp only;rw[if_neg (by simp[typeHasDict])];refine Rq (wpAny_alloc' (Rq (wpAny_update' hx1 (Rp ?_))));have g1:((s.heap.push {cls:=.type "dict",data:=.dict #[]}).update x λo=>{o with dict:=some s.heap.objs.size}).get? s.heap.objs.size=some {cls:=.type "dict",data:=.dict #[]}:=(Qu _ _ _ _ ne.symm).trans (Qv rfl rfl);have g3:((s.heap.push {cls:=.type "dict",data:=.dict #[]}).update x λo=>{o with dict:=some s.heap.objs.size}).Ns s.heap.objs.size (λ_=>none):=⟨_,#[],_,g1,rfl,λe he=>absurd he (by simp),λ_=>rfl⟩
 show Rc _ _ (storeInDict s.heap.objs.size (.str name s.toks) name v) _ _ _;unfold storeInDict newKeyGuard;refine Rq (Rp (Rq (wpAny_nsSet1 (Heap.Ns1.of_empty g3) λh' n2 s2=>?_)));obtain⟨o3,es3,ep3,q1,q2,q3⟩:=n2.count (PySem.Within.cons name v PySem.Within.nil);refine Rq (Rx q1 (by rw[q2];exact Ry (Nf q3 (by rw[Nw,N0,Rv];omega))) ?_);exact Rp (h h' n2 s2)
end
end TG
namespace TG
open PySem PySem.Spec L2
variable[aw]
open PyProof.Rows (AllBare OwnCls)
section
variable{X:Cx}{pins:aM}{σ:St}{H:Hp}{s:QR}{h':QV}
theorem vh(I:Inv X pins σ H s)(hx:X.ex=[])(hst:X.stack=X.env::X.outer)(hf:X.env.frame=some X.env.locals)(hfn:∀x,X.fn x=true)(us:s.heap.UpToSlots h')(k:∀b o,s.heap.get? b=some o->gM X H b->b∉frs X.stack->h'.get? b=some o):
  Inv X [] σ H {s with heap:=h'}:=by
 have un:=yZ I hx hst hf us k;have cellF:∀x c,X.env.cells.lookup x=some c->c∉frs X.stack:=λx c e z=>by
  obtain⟨v,o,q,d⟩:=I.cell x c e;rw[hst]at z;have z':c∈X.env.locals::frs X.outer:=by
   have:frs (X.env::X.outer)=X.env.locals::frs X.outer:=(by show List.filterMap _ (_::_)=_;rw[Nh,hf];rfl);rw[this]at z;exact z
  rcases List.mem_cons.mp z' with z|z
  ·obtain⟨m,⟨o2,es,ep,e2,d2,_⟩,_⟩:=I.loc;rw[<-z,q]at e2;cases e2;rw[d]at d2;cases d2
  ·obtain⟨_,o2,e2,_⟩:=I.ok.funs.mem z;exact Nb _ (M9 (Qm e2) (I.ok.cab x c (hfn x) e))
 have cellK:∀x c v,X.env.cells.lookup x=some c->s.heap.IsCell c v->h'.IsCell c v:=λx c v e ⟨o,q,d⟩=>⟨o,k c o q (.inr (.inr (.inr ⟨x,e⟩))) (cellF x c e),d⟩
 obtain⟨m,hn,hl⟩:=I.loc;refine⟨I.ok,I.os,I.bare,by rw[hx];exact un,⟨m,us.ns hn,λi x v e1 e2 e3=>?_⟩,λx c e=>?_,I.free,I.freeC,λp hp=>?_,vS I k,I.len⟩
 ·obtain⟨u,r,q⟩:=hl i x v e1 e2 e3;refine⟨u,r,?_⟩;rcases q with q|⟨q1,c,q2,q3⟩
  ·exact .inl q
  ·exact .inr ⟨q1,c,q2,cellK x c _ q2 q3⟩
 ·obtain⟨v,q⟩:=I.cell x c e;exact⟨v,cellK x c v e q⟩
 ·rw[ND]at hp;obtain⟨e,n,ne,nf,d⟩:=I.pin p (Nk _ hp);have nfs:p.1∉frs X.stack:=λz=>by
   have:frs X.stack=X.env.locals::frs X.outer:=(by rw[hst];show List.filterMap _ (_::_)=_;rw[Nh,hf];rfl);rw[this]at z;rcases List.mem_cons.mp z with z|z
   ·exact ne z
   ·exact nf z
  exact⟨k _ _ e (.inr (.inr (.inl ⟨p.2,hp⟩))) nfs,n,ne,nf,d⟩
theorem ya{e C:QO}{oe:Obj}(I:Inv X pins σ H s)(hx:X.ex=[])(hn:H e=none)(he:s.heap.get? e=some oe)(hc:oe.cls=.ref C)(hno:P4 oe=true)(h0:X.s₀.heap.get? e=none)(hL:e≠X.env.locals)(hcl:∀x,X.env.cells.lookup x≠some e)(hp:∀p∈X.pn++pins,p.1≠e):
  Inv X pins σ (upd H e (.ext (mY C e oe.dict))) s:=by
 have ne:∀b u,H b=some u->b≠e:=λb u q z=>by rw[z,hn]at q;cases q
 have U:=I.base;refine⟨I.ok,I.os,I.bare,⟨U.keep,U.slot,λb o q n nx=>?_,U.there,λb xs q=>?_,λb o u q=>?_,λb ps q=>?_⟩,I.loc,I.cell,?_,λx c q=>?_,λp q=>?_,λa o q=>?_,I.len⟩
 ·rw[ak λz=>by rw[z,h0]at q;cases q];exact U.free b o q n nx
 ·have:=U.tups b xs q;rw[ak (ne _ _ this)];exact this
 ·have:=U.frzs b o u q;rw[ak (ne _ _ this)];exact this
 ·obtain⟨more,z⟩:=U.tbls b ps q;exact⟨more,by rw[ak (ne _ _ z)];exact z⟩
 ·rw[ak hL.symm];exact I.free
 ·rw[ak λz=>hcl x (by rw[<-z];exact q)];exact I.freeC x c q
 ·obtain⟨a1,a2,a3⟩:=I.pin p q;exact⟨a1,by rw[ak (hp p q)];exact a2,a3⟩
 ·by_cases z:a=e
  ·subst z;rw[aq]at q;cases q;exact⟨⟨oe,he,hc,rfl,hno⟩,⟨oe,he⟩,λ_ _ h1 h2 ⟨o,q1,q2⟩ _ k=>⟨o,k _ o (.inl rfl) q1,q2⟩⟩
  ·rw[ak z]at q;exact(I.hok a o q).stay (λb u _ q=>q) (λb q=>by rw[ak (ne _ _ q)];exact q) λb xs q=>by rw[ak (ne _ _ q)];exact q
end
abbrev Br:aS:=[.type "ValueError",.type "Exception",.type "BaseException",.type "object"]
theorem BM{K:Pn}{h:QV}{C:QO}{bmB:aS}{newId:String}(X:K.In h)(q:Qe K C bmB newId=true)(x:Str):OwnCls x C bmB newId (λ_=>some (.ref C)) h:=by
 constructor
 ·rfl
 ·unfold Qe at q;split at q
  ·rename_i od data slots look;split at q
   ·rename_i C0 tl s0 s1 s2 s3 nid s5 e1 e2;simp only[NU,beq_iff_eq,OX]at q;obtain⟨⟨⟨⟨⟨y1,y2⟩,y3⟩,y4⟩,y5⟩,y6⟩:=q;subst y1 y2;obtain⟨d1,d2,d3,d4,d5,d6,d7,d8,d9,d10,d11⟩:=data;dsimp only at e1 y3 y5 y6;subst e1 y3;have hs:slots=#[s0,s1,s2,s3,some (.builtin nid),s5]:=by
     cases slots with
     |mk l=>rw[show l=_ from e2]
    subst hs;exact⟨tl,d4,d1,d5,d2,d6,d7,d8,d9,d10,od,s0,s1,s2,s3,s5,_,X _ _ look,.of_isNs (Qf X y5),PySem.W.nsMap_none_of_in X y5 y6,Qg X y4⟩
   ·cases q
  ·cases q
noncomputable def ExcAt(K:Pn)(mg:bF)(x:Str):Prop:=∃C,clsAt K x C/\mg x=some (.ref C)/\Qe K C Br "ValueError.__new__"=true
noncomputable def dF(c:Str)(f:aQ):bw:=λk ρ=>kZ (f ρ) k ρ λds=>if small ds.length then k.ex ⟨c,[],[]⟩ ρ else un
theorem gD{base B h h':QV}(k:∀b o,h.get? b=some o->h'.get? b=some o):∀{l:List Env},(∀b∈frs l,B.get? b=none)->h.FunFrames base l->h'.FunFrames B l
 |[],_,_=>trivial
 |env::l,hb,⟨h1,⟨L,o,h2,_,h3,h4⟩,h5⟩=>by
  have mem:L∈frs (env::l):=by show L∈List.filterMap _ (_::_);rw[Nh,h2];exact Ni
  refine⟨h1,⟨L,o,h2,hb L mem,k _ _ h3,h4⟩,gD k (λb z=>hb b ?_) h5⟩;show b∈List.filterMap _ (_::_);rw[Nh,h2];exact Nj _ z
section
variable{X:Cx}{pos:Pos}
theorem Av{pins:aM}{σ:St}{H:Hp}{s:QR}{h':QV}{e C:QO}{us:aS}(I:Inv X pins σ H s)(m:Qw s.heap h' e (.ref C) us):tT X H {s with heap:=h'} e C none:=by
 have hd:∀b o,(jj s.heap (λb=>if b∈frs X.stack then some (.tup [])else none)).get? b=some o->s.heap.get? b=some o/\b∉frs X.stack:=λb o q=>by
  obtain⟨q1,q2⟩:=jQ q;refine⟨q1,λz=>?_⟩;rw[if_pos z]at q2;cases q2
 obtain⟨t,m1,m2,m3⟩:=m.there;refine⟨λoe q=>by rw[m1]at q;cases q;rfl,jj s.heap (λb=>if b∈frs X.stack then some (.tup [])else none),.ref t,λb o q=>m.keeps b o (hd b o q).1,?_,gD m.keeps (λb hb=>?_) I.stack,.inr ⟨_,_,m1,rfl,rfl,rfl,rfl⟩,λb o q kb nf=>?_⟩
 ·cases q:(jj s.heap (λb=>if b∈frs X.stack then some (.tup [])else none)).get? e with
  |none=>rfl
  |some o=>have:=(hd e o q).1;rw[m.new]at this;cases this
 ·cases q:(jj s.heap (λb=>if b∈frs X.stack then some (.tup [])else none)).get? b with
  |none=>rfl
  |some o=>exact absurd hb (hd b o q).2
 ·obtain⟨o1,e1⟩:∃o1,s.heap.get? b=some o1:=by
   rcases kb with⟨⟨o0,z⟩,nx⟩|z|⟨o0,z⟩|⟨y,z⟩
   ·exact I.base.there b o0 z nx
   ·cases q0:H b with
    |none=>exact absurd q0 z
    |some ob=>exact uV (I.hok b ob q0)
   ·exact⟨_,(I.pin _ (Nk _ z)).1⟩
   ·obtain⟨v,o0,z0,_⟩:=I.cell y b z;exact⟨o0,z0⟩
  have:=m.keeps b o1 e1
  rw[show h'.get? b=some o from q]at this;cases this;exact nV e1 (if_neg nf)
end
end TG
namespace TG
open PySem PySem.Spec L2
variable[aw]
noncomputable abbrev rX(X:Cx)(E:aW)(pn:aM):Cx:={X with xe:=E,pn:=pn}
noncomputable abbrev nX(X:Cx)(A:QZ)(pn:aM):Cx:={X with A:=A,xe:=λ_ _=>False,calm:=false,pn:=pn}
section
variable{X:Cx}{pins:aM}{σ:St}{H:Hp}{s:QR}{E:aW}{A:QZ}
theorem B5(I:L2.Inv X pins σ H s)(E:aW):L2.Inv (rX X E (X.pn++pins)) [] σ H s:=
 ⟨⟨I.ok.mod,I.ok.kind,I.ok.glob,I.ok.blt,I.ok.above,I.ok.inj,I.ok.has,I.ok.cab,I.ok.hd,I.ok.frames,I.ok.stk,I.ok.exf,I.ok.bs,I.ok.bsz,I.ok.noex,I.ok.exfs,I.ok.funs,I.ok.frf⟩,
  I.os,I.bare,I.base,I.loc,I.cell,I.free,I.freeC,λp hp=>I.pin p (by simpa using hp),I.hok,I.len⟩
theorem iR{E':aW}{A':QZ}{c':Bool}(ok:X.Ok)(I:L2.Inv {X with A:=A',xe:=E',calm:=c',pn:=X.pn++pins} [] σ H s):L2.Inv X pins σ H s:=
 ⟨ok,I.os,I.bare,I.base,I.loc,I.cell,I.free,I.freeC,λp hp=>I.pin p (by simpa using hp),I.hok,I.len⟩
theorem tL{pn:aM}{ps:aM}(I:L2.Inv (rX X E pn) ps σ H s)(hA:A.frames=X.A.frames):L2.Inv (nX X A pn) ps σ H s:=
 ⟨⟨I.ok.mod,I.ok.kind,I.ok.glob,I.ok.blt,I.ok.above,I.ok.inj,I.ok.has,I.ok.cab,(fun z=>nomatch z),by rw [show (nX X A pn).A=A from rfl,hA]; exact I.ok.frames,I.ok.stk,I.ok.exf,I.ok.bs,I.ok.bsz,I.ok.noex,I.ok.exfs,I.ok.funs,I.ok.frf⟩,
  I.os,I.bare,I.base,I.loc,I.cell,I.free,I.freeC,I.pin,I.hok,I.len⟩
theorem yP{i:Nat}{n:Str}{v:gZ}{m:bF}{h9:QV}{t:Nat}(I:L2.Inv X pins σ H s)(hN:X.N.Nodup)(hi:X.N[i]?=some n)(hn:s.heap.Ns X.env.locals m)
  (hl:∀(i:Nat)(x:Str)(v:V),X.N[i]?=some x->σ[i]?=some (some v)->Fq X.env.scope x->∃u,RelV v u/\Look X.env s.heap m x u)
  (ns:h9.Ns X.env.locals (λx=>if x=n then v else m x)) (sb:Qo X.env.locals s.heap h9):L2.Inv X pins (σ.set i none) H {s with heap:=h9,toks:=t}:=by
 have old:∀b o,X.s₀.heap.get? b=some o->b≠X.env.locals:=λb o q z=>by
  have h1:=Qm q;rw[z]at h1;exact Nb _ (M9 h1 I.ok.above)
 have go:∀b o,b≠X.env.locals->s.heap.get? b=some o->h9.get? b=some o:=λb o ne q=>(sb.2 b ne).trans q;have cne:∀c w,s.heap.IsCell c w->c≠X.env.locals:=λc w ⟨o,q,d⟩ z=>by
  obtain⟨o2,es,ep,e2,d2,_⟩:=hn;rw[z,e2]at q;cases q;rw[d2]at d;cases d
 have U:=I.base;refine⟨I.ok,I.os,I.bare,⟨λb o q n nb nx=>go b o (old b o q) (U.keep b o q n nb nx),λb o q n nb nx=>?_,U.free,λb o q nx=>?_,U.tups,U.frzs,U.tbls⟩,⟨_,ns,λj y v' e1 e2 e3=>?_⟩,λx c q=>?_,I.free,I.freeC,λp hp=>?_,λa o q=>?_,by rw[List.length_set];exact I.len⟩
 ·obtain⟨sl,z⟩:=U.slot b o q n nb nx;exact⟨sl,go b _ (old b o q) z⟩
 ·obtain⟨o1,z⟩:=U.there b o q nx;exact⟨o1,go b _ (old b o q) z⟩
 ·by_cases hj:j=i
  ·subst hj;have hlt:j<σ.length:=(by rw[I.len];exact(List.getElem?_eq_some_iff.mp hi).1);rw[Nn hlt]at e2;cases e2
  ·rw[Np (Ne.symm hj)]at e2;have hy:y≠n:=λz=>by
    subst z;obtain⟨l1,g1⟩:=List.getElem?_eq_some_iff.mp e1;obtain⟨l2,g2⟩:=List.getElem?_eq_some_iff.mp hi;exact hj (List.getElem_inj hN |>.mp (g1.trans g2.symm))
   obtain⟨u,r,q⟩:=hl j y v' e1 e2 e3;refine⟨u,r,?_⟩;rcases q with⟨q1,q2⟩|⟨q1,c,q2,q3⟩
   ·exact .inl ⟨q1,by show(if y=n then v else m y)=some u;rw[if_neg hy];exact q2⟩
   ·obtain⟨o,z1,z2⟩:=id q3;exact .inr ⟨q1,c,q2,o,go c o (cne c _ q3) z1,z2⟩
 ·obtain⟨w,z⟩:=I.cell x c q;obtain⟨o,z1,z2⟩:=id z;exact⟨w,o,go c o (cne c _ z) z1,z2⟩
 ·obtain⟨e,n',ne,r⟩:=I.pin p hp;exact⟨go _ _ ne e,n',ne,r⟩
 ·refine(I.hok a o q).stay (λb u hb z=>go b u (λw=>?_) z) (λ_ q=>q) λ_ _ q=>q;have hz:=I.free;rw[<-w]at hz;rcases hb with e|e
  ·rw[e,q]at hz;cases hz
  ·rw[e]at hz;cases hz
theorem wv{e C:QO}{dx:Option QO}(fl:tT X H s e C dx):∃oe vs,s.heap.get? e=some oe/\oe.cls=.ref C/\oe.data=.fields vs:=by
 obtain⟨_,B,a0,_,_,_,b4,_⟩:=fl;rcases b4 with⟨oe,vs,T,oT,ts,h1,h2,h3,_⟩|⟨oe,vs,h1,h2,h3,_⟩
 ·exact⟨oe,vs,h1,h2.1,h3⟩
 ·exact⟨oe,vs,h1,h2,h3⟩
theorem AV{M:Rb}{e C:QO}{dx:Option QO}{Q:Unit->eI}(hfr:A.frames=some X.stack)(hst:X.stack=X.env::X.outer)(hf:X.env.frame=some X.env.locals)(fl:tT X H s e C dx)
  (hQ:∀B a0 h',Heap.HeldW B X.stack e (.ref C) a0 X.env.locals h'->s.heap.UpToSlots h'->(∀b o,s.heap.get? b=some o->gM X H b->b∉frs X.stack->B.get? b=some o)->DS s.heap h'->Q () {s with heap:=h'}):
  Rc M A (noteFrame (.ref e) X.env) Q E s:=by
 obtain⟨_,B,a0,b1,b2,b3,b4,b5⟩:=fl;rw[hst]at hfr b3;refine DP.go (wc _ _) (P:=λh'=>Heap.HeldW B X.stack e (.ref C) a0 X.env.locals h'/\s.heap.UpToSlots h') ?_ λh' z ds=>hQ B a0 h' z.1 z.2 b5 ds;rcases b4 with b4|⟨oe,vs,c1,c2,c3,c4,c5⟩
 ·exact wpAny_looks_onW hfr hf ⟨b1,b2,b3,b4⟩ λh' hd us=>⟨h',rfl,by rw[hst];exact hd,us⟩
 ·unfold noteFrame;simp only[hf];refine Rq (RT c1 c3 c4 ?_);rw[if_neg (by decide)];refine wpAny_entryW hfr b3 hf c1 b1 b2 c3 (Array.getElem?_eq_some_iff.mp c4).1 c5 λh' hN=>?_;obtain⟨k1,k2,k3,k4⟩:=hN;exact⟨h',rfl,⟨k1,b2,by rw[hst];exact k2,c2 ▸ k3⟩,k4⟩
end
theorem cW.unset{K:Pn}{Hb:Hp}{Ob O:aD}{H:Hp}{ρ:ao}{σ:St}(T:cW K Hb Ob O H ρ σ)(i:Nat):cW K Hb Ob O H (ρ.set i none) (σ.set i none):=by
 have key:∀(j:Nat)(x:S),(ρ.set i none)[j]?=some (some x)->j≠i/\ρ[j]?=some (some x):=λj x e=>by
  rcases aT e with⟨_,q⟩|⟨ne,q⟩
  ·cases q
  ·exact⟨ne,q⟩
 refine⟨⟨λj d e=>?_,λj d e=>?_,λj l xs ys a e1 e2 e3 e4=>?_,T.env.all⟩,T.base,λj xs a e1 e2=>?_,λj dn e=>?_⟩
 ·obtain⟨ne,q⟩:=key j _ e;obtain⟨v,q1,q2⟩:=T.env.val j d q;exact⟨v,by rw[Np ne.symm];exact q1,q2⟩
 ·obtain⟨ne,q⟩:=key j _ e;obtain⟨a,q1,q2⟩:=T.env.own j d q;exact⟨a,by rw[Np ne.symm];exact q1,q2⟩
 ·obtain⟨n1,q1⟩:=key j _ e1;obtain⟨n2,q2⟩:=key l _ e2;rw[Np n1.symm]at e3;rw[Np n2.symm]at e4;exact T.env.one j l xs ys a q1 q2 e3 e4
 ·obtain⟨ne,q⟩:=key j _ e1;rw[Np ne.symm]at e2;exact T.mine j xs a q e2
 ·obtain⟨ne,q⟩:=key j _ e;refine(T.nst j dn q).to (Np ne.symm) (λ_ _ z=>z) (λb q1 q2 q3 q4 _=>⟨rfl,q1,q2,λl d1 w=>?_⟩) λl d1 w=>⟨d1,(key l _ w).2⟩
  obtain⟨nl,z⟩:=key l _ w;rw[Np nl.symm];exact q4 l d1 z
noncomputable def tW(K:Pn)(mg:bF)(g:Str)(cs:av):Prop:=∃G,mg g=some (.ref G)/\∀c∈cs,∀C,clsAt K c C->Qh K (.ref C) (.ref G)=some true
noncomputable def G0(i:Nat)(k:Ks):Ks:=⟨λρ=>k.nx (ρ.set i none),λρ=>k.bk (ρ.set i none),λρ=>k.ct (ρ.set i none),λ_ _=>un⟩
noncomputable def xf(cs:av)(i:Nat)(F Fh:bw):bw:=λk ρ=>F {k with ex:=λx ρ1=>if cs.contains x.c=true then Fh (G0 i k) (setV i (.exc x.c x.fs x.vs) ρ1)else un} ρ
section
variable{X:Cx}{pos:Pos}
theorem K4{body suite:cF}{b₀:QQ}{g n:Str}{gp hpos:Pos}{F Fh:bw}{cs:av}{i:Nat}(hx:X.ex=[])(hst:X.stack=X.env::X.outer)(hf:X.env.frame=some X.env.locals)(hfn:∀x,X.fn x=true)
  (hT:tW X.K X.mg g cs) (hg:Gl X g) (hN:X.N.Nodup) (hi:X.N[i]?=some n) (hl:X.env.scope.names.lookup n=some .local)
  (hb:∀E pn,Rn (model X.prog X.w) X.A X.env E->Ja (rX X E pn) body F) (hs:∀A pn,A.depth=X.A.depth->A.units=X.A.units->Ja (nX X A pn) (b₀::suite) Fh) (hdb:(g==("__debug__":Str))=false:=by decide):
  FS X (.Try body [.ExceptHandler (some (.Name g gp)) (some n) (b₀::suite) hpos] [] [] pos) (xf cs i F Fh):=λHb Ob pins s σ H E I ⟨O,ρ,k,r,S,hF,hk⟩=>by
 obtain⟨G,hG,hcs⟩:=hT;refine wpAny_Try_except ?_;have land:∀O1 ρ1 σ1 H1 x,cW X.K Hb Ob O1 H1 ρ1 σ1->(if cs.contains x.c=true then Fh (G0 i k) (setV i (.exc x.c x.fs x.vs) ρ1)else un)=r->
   EJ (rX X (λe s₁=>Rc (model X.prog X.w) X.A (noteFrame e X.env) (λ_ s₂=>Rc (model X.prog X.w) X.A (setFlight e none) (λ_ s₃=>Rc (model X.prog X.w) X.A (handleBy e X.env [.ExceptHandler (some (.Name g gp)) (some n) (b₀::suite) hpos]) (SP X pins E) X.xe s₃) X.xe s₂) X.xe s₁) (X.pn++pins)) σ1 O1 H1 x:=by
  rintro O1 ρ1 σ1 H1 x S1 ex pins' s1 u H2 I1 sm ⟨e,C,dx,rfl,hd,fl⟩;have cond:cs.contains x.c=true:=by
   cases z:cs.contains x.c with
   |true=>rfl
   |false=>rw[z]at ex;exact absurd ex.symm hk.ne
  rw[if_pos cond]at ex;obtain⟨oe1,vs1,he1,hc1,hd1⟩:=wv fl;have nfr:e∉frs X.stack:=λz=>by
   obtain⟨_,o,q,nf⟩:=I1.stack.mem z;rw[he1]at q;cases q;exact nf _ hd1
  refine AV (X:=rX X _ (X.pn++pins)) I1.ok.frames hst hf fl λB a0 h4 held us4 kb ds4=>?_;have nk:¬gM (rX X _ (X.pn++pins)) H2 e:=λz=>by
   have:=kb e oe1 he1 z nfr
   rw[held.2.1]at this;cases this
  refine DP.go (kE _ _) (P:=λh'=>Qs B X.stack e (.ref C) a0 h'/\h4.UpToSlots h') (wpAny_landsW held λh' x y=>⟨h',rfl,x,y⟩) λh5 z5 ds5=>?_;obtain⟨fl5,us5⟩:=z5;have I5:=vh I1 hx hst hf hfn (us4.trans us5) λb o q kb' nf=>fl5.1 b o (kb b o q kb' nf);obtain⟨oe5,he5,hc5⟩:=fl5.there;have I5h:=tL (A:=X.A.mark (some (.ref e))) I5 rfl;refine wpAny_handleBy_cons (codeAny_handlers_test (g9 (X:=nX X (X.A.mark (some (.ref e))) (X.pn++pins)) I5h hg hG ?_ hdb)) (by intro z;cases z);refine(PySem.W.exm_one I5.kIn (show PP _ h5 (typeOf (.ref e)) (.ref C)from hc5 ▸ (PySem.W.Looks.ld he5).andThen .now) (hcs x.c (by simpa using cond) C hd.1)).at ?_;refine codeAny_handlers_suite_as ?_;refine DP.go (kE _ _) (P:=λh'=>Qs B X.stack e (.ref C) a0 h'/\h5.UpToSlots h') (PyProof.Rows.lands_againW fl5 λh' x y=>⟨h',rfl,x,y⟩) λh6 z6 ds6=>?_;obtain⟨fl6,us6⟩:=z6;have I6:=vh I1 hx hst hf hfn ((us4.trans us5).trans us6) λb o q kb' nf=>fl6.1 b o (kb b o q kb' nf);obtain⟨oe6,ws6,he6,hc6,hd6,_⟩:=fl6.first;have hdx:oe6.dict=dx:=(((ds4.trans ds5).trans ds6).dict he1 he6).trans (fl.1 _ he1);have hn:H2 e=none:=by
   cases q:H2 e with
   |none=>rfl
   |some ob=>exact absurd (.inr (.inl (by rw[q];intro z;cases z))) nk
  have I6a:=ya (C:=C) I6 hx hn he6 hc6 (by unfold P4;rw[hd6]) (by
    cases q:X.s₀.heap.get? e with
    |none=>rfl
    |some o=>exact absurd (.inl ⟨⟨o,q⟩,by rw[show(rX X _ (X.pn++pins)).ex=X.ex from rfl,hx];simp⟩) nk) (λz=>by
    apply nfr;rw[hst,z];show X.env.locals∈List.filterMap _ (_::_);rw[Nh,hf];exact Ni)
   (λy q=>nk (.inr (.inr (.inr ⟨y,q⟩)))) (λp hp q=>by
    rw[ND]at hp;exact nk (.inr (.inr (.inl ⟨p.2,by rw[<-q];exact hp⟩))))
  have I6h:=tL (A:=X.A.mark (some (.ref e))) I6a rfl;have same26:aP H2 (upd H2 e (.ext (mY C e oe6.dict))):=λb o q=>by rw[ak λz=>by rw[z,hn]at q;cases q];exact q
  have eO:e∉O1:=(S1.env.all.same sm).not hn;refine nG (X:=nX X (X.A.mark (some (.ref e))) (X.pn++pins)) I6h hN hi (.inl hl) (show RelV (.ref e) (.ref e)from rfl) (λs7 I7=>?_) (.inl (hfn n));have S7:=(S1.same (sm.trans same26)).setV (i:=i) (d:=.exc x.c x.fs x.vs) (v:=.ref e) (by rw[I1.len];exact(List.getElem?_eq_some_iff.mp hi).1)
   (by
    obtain⟨c1,ws,w1,w2,w3⟩:=hd;have sh:aP (hid H2 O1) (hid (upd H2 e (.ext (mY C e oe6.dict))) O1):=bn same26;exact IY.mpr ⟨e,ws,rfl,w1.mono sh,w2,C,oe6.dict,c1,by rw[fT eO];exact aq,w3.imp id λ⟨d,q1,q2⟩=>⟨d,hdx.trans q1,sh _ _ q2⟩⟩)
  refine Rg (hs (X.A.mark (some (.ref e))) (X.pn++pins) rfl rfl Hb Ob [] s7 _ _ {nx:=λσ' H'=>E.nx (σ'.set i none) H',rt:=E.rt,bk:=λσ' H'=>E.bk (σ'.set i none) H',ct:=λσ' H'=>E.ct (σ'.set i none) H'} I7
   ⟨O1,_,G0 i k,r,S7,ex,hk.ne,λO' ρ' σ' H' S' q=>hk.nx O' _ _ H' (S'.unset i) q,λO' ρ' σ' H' S' q=>hk.bk O' _ _ H' (S'.unset i) q,λO' ρ' σ' H' S' q=>hk.ct O' _ _ H' (S'.unset i) q,hk.rt,λO' ρ' σ' H' y S' q=>absurd q.symm hk.ne⟩) (λf s8 h8=>?_) λ_ _ z=>z.elim
  have fin:∀σ' H',L2.Inv (nX X (X.A.mark (some (.ref e))) (X.pn++pins)) [] σ' H' s8->∀Q:eI,(∀s9,L2.Inv X pins (σ'.set i none) H' s9->Q s9)->
    Rc (model X.prog X.w) X.A (do bindName X.env n .none;unbindBehindTheSuite X.env n hpos) (λ_ s₃=>Q s₃) X.xe s8:=λσ' H' I8 Q q=>by
   obtain⟨m,hm,hlk⟩:=I8.loc;exact wpAny_nameGoes_keeps hl hm (by rw[I8.ok.kind];rfl) λh9 v ns9 sb9=>q _ (iR I.ok (yP I8 hN hi hm hlk ns9 sb9))
  cases f with
  |next=>obtain⟨σ',H',I8,q⟩:=h8;exact fin σ' H' I8 _ λs9 I9=>⟨_,H',I9,q⟩
  |brk=>obtain⟨σ',H',I8,q⟩:=h8;exact fin σ' H' I8 _ λs9 I9=>⟨_,H',I9,q⟩
  |cont=>obtain⟨σ',H',I8,q⟩:=h8;exact fin σ' H' I8 _ λs9 I9=>⟨_,H',I9,q⟩
  |ret u=>obtain⟨v,σ',H',I8,rv,q⟩:=h8;exact fin σ' H' I8 _ λs9 I9=>⟨v,_,H',I9,rv,q⟩
 refine Rg (hb _ (X.pn++pins) PassesOwn.looking Hb Ob [] s σ H E (B5 I _) ⟨O,ρ,_,r,S,hF,hk.ne,hk.nx,hk.bk,hk.ct,hk.rt,land⟩) (λf s1 h1=>?_) λ_ _ z=>z;cases f with
 |next=>obtain⟨σ',H',I1,q⟩:=h1;exact vi pins s1 σ' H' E (iR I.ok I1) q
 |brk=>obtain⟨σ',H',I1,q⟩:=h1;exact⟨σ',H',iR I.ok I1,q⟩
 |cont=>obtain⟨σ',H',I1,q⟩:=h1;exact⟨σ',H',iR I.ok I1,q⟩
 |ret u=>obtain⟨v,σ',H',I1,rv,q⟩:=h1;exact⟨v,σ',H',iR I.ok I1,rv,q⟩
end
end TG
namespace TG
open PySem PySem.Spec L2
variable[aw]
noncomputable def rV(K:Pn)(T:QM)(tbl:jl):Prop:=∀c b,tbl.lookup c=some b->∀D,clsAt K c D->jv K D/\P5 K (.ref D) T=some b
noncomputable def gh(tbl:jl)(d:D):aY:=match d with
 |.exc c _ _=>(tbl.lookup c).map .bl
 |_=>none
noncomputable def cm(K:Pn)(mg:bF)(x:Str)(tbl:jl):Prop:=∃C,mg x=some (.ref C)/\rV K (.ref C) tbl
theorem cf{K:Pn}{T:QM}:rV K T []:=λ_ _ h=>by cases h
theorem ah{K:Pn}{T:QM}{c:Str}{D:QO}{b:Bool}{tbl:jl}(ac:clsAt K c D)(F:jv K D)(k:P5 K (.ref D) T=some b)(r:rV K T tbl):rV K T ((c,b)::tbl):=λc' b' h D' hD=>by
 rw[N3]at h;split at h
 ·rename_i e;have e:=beq_iff_eq.mp e;subst e;cases h;cases bh hD ac;exact⟨F,k⟩
 ·exact r c' b' h D' hD
theorem sS{K:Pn}{C:QO}{v:QM}(h:Qc K C v=some true):(P7 K C).isSome=true:=by
 unfold Qc at h;cases e:P7 K C with
 |none=>rw[e]at h;cases h
 |some c=>rfl
theorem aj{K:Pn}{C D:QO}{b:Bool}(hs:P9 K (.ref D) (.ref C)=some b)(ho:Qc K C (.type "object")=some true)(ht:PF K (.ref C)=some (.type "type"))(hn:b=true\/D≠C):P5 K (.ref D) (.ref C)=some b:=by
 unfold P5;by_cases e:D=C
 ·rcases hn with hn|hn
  ·rw[if_pos (by rw[e];simp),hn]
  ·exact absurd e hn
 ·rw[if_neg (by simpa using e)];unfold Qi;dsimp only;rw[if_pos (by rw[sS ho,ht];rfl)];exact hs
theorem iw{K:Pn}{D:QO}{b:Bool}(hs:P9 K (.ref D) (.type "ValueError")=some b):P5 K (.ref D) (.type "ValueError")=some b:=by
 unfold P5;rw[if_neg (by simp)];unfold Qi;dsimp only;rw[if_pos (by decide +kernel)];exact hs
theorem fE{K:Pn}{C G:QO}(hb:P9 K (.ref G) (.type "BaseException")=some true)(hs:P9 K (.ref C) (.ref G)=some true)(ho:Qc K G (.type "object")=some true)(ht:PF K (.ref G)=some (.type "type")):Qh K (.ref C) (.ref G)=some true:=by
 unfold Qh;rw[if_pos (by rw[hb];rfl)];unfold Qi;dsimp only;rw[if_pos (by rw[sS ho,ht];rfl)];exact hs
theorem AX{K:Pn}{mg:bF}{g:Str}{G:QO}{cs:av}(hm:mg g=some (.ref G))(h:∀c∈cs,∃C,clsAt K c C/\Qh K (.ref C) (.ref G)=some true):tW K mg g cs:=⟨G,hm,λc hc C hC=>by
 obtain⟨C',h1,h2⟩:=h c hc;cases bh hC h1;exact h2⟩
section
variable{X:Cx}{p pos:Pos}{e:QP}
noncomputable def D7(K:Pn)(tv:V)(T:QM):aH->Hp->VK->Prop:=λxs H Q=>∃a D dx b,xs=[.ref a,tv]/\H a=some (.ext (mY D a dx))/\jv K D/\P5 K (.ref D) T=some b/\Q (.bl b) H
theorem pN{tv:V}{T:QM}(hT:∀u,RelV tv u->u=T):dh X (.builtin "isinstance") (D7 X.K tv T):=by
 rintro pins s σ H xs us Q I r ⟨a,D,dx,b,ex,ha,F,hk,q⟩;subst ex;obtain⟨u,w',rfl,rx,rt⟩:=vals2 r;cases rx;cases hT _ rt;obtain⟨⟨o,e1,e2,_⟩,_⟩:=(show bM X.prog X.w H s.heap a (.ext (mY D a dx))from I.hok a _ ha)
 exact P6 (sd F) I.kIn ⟨o,e1,e2⟩ hk (λz=>nomatch z) λtk=>⟨.bl _,H,I.tok _,rfl,q⟩
theorem uv{tbl:jl}{a d:D}(h:gh tbl a=some d):∃c fs vs b,a=.exc c fs vs/\tbl.lookup c=some b/\d=.bl b:=by
 unfold gh at h;split at h
 ·rename_i c fs vs;cases e:tbl.lookup c with
  |none=>rw[e]at h;cases h
  |some b=>rw[e]at h;cases h;exact⟨c,fs,vs,b,rfl,e,rfl⟩
 ·cases h
theorem D3{tbl:jl}{tv:V}{T:QM}{f:FX}(h:rV X.K T tbl):∀σ H Q,tF X (f1 (gh tbl) f) σ H Q->IL (D7 X.K tv T) (zT (tF X f) (zT (tC tv) Hx)) σ H Q:=λσ H Q ⟨O,ρ,E,hF⟩=>⟨O,ρ,E,(dJ.bind hF).imp λa hF v H1 s1 d1=>by
  obtain⟨d,e,q⟩:=dJ.rO hF;obtain⟨c,fs,vs,b,rfl,e2,rfl⟩:=uv e;obtain⟨a,ws,rfl,_,_,D,dx,hcl,ha,_⟩:=IY.mp d1;obtain⟨F,hk⟩:=h c b e2 D hcl;exact⟨a,D,dx,b,rfl,ax _ _ _ _ ha,F,hk,q _ H1 s1 (gF.mpr rfl)⟩⟩
end
end TG
namespace TG
open PySem PySem.Spec L2
variable[aw]
end TG
namespace TG
open PySem PySem.Spec L2
open PySem PySem.Spec PyProof.Rows PySem.W L2
variable[aw]
end TG
namespace TG
open PySem PySem.Spec PyProof.Rows PySem.W L2
variable[aw]
end TG
namespace TG
open PySem PySem.Spec PyProof.Rows PySem.W L2
variable[aw]
end TG
namespace TG
open PySem PySem.Spec PyProof.Rows PySem.W L2
end TG
namespace TG
open PySem PySem.Spec PySem.Calls L2
open PySem.SeqAt (EqAt list_indexAt)
variable[aw]
noncomputable def xQ(c:Str):List (jl)->Option Bool
 |[]=>some false
 |t::r=>match t.lookup c with
  |some true=>some true
  |some false=>xQ c r
  |none=>none
noncomputable def vt(tbls:List jl)(d:D):aY:=match d with
 |.exc c _ _=>(xQ c tbls).map .bl
 |_=>none
inductive Aw(X:Cx):aR->List (jl)->Prop where
 |nil:Aw X [] []
 |cons {x:Str} {p:Pos} {tbl:jl} {es:aR} {tbls:List jl} (h:cm X.K X.mg x tbl) (hg:Gl X x) (hd:(x==("__debug__":Str))=false) (r:Aw X es tbls):Aw X (.Name x p::es) (tbl::tbls)
theorem Dt{X:Cx}{es:aR}{tbls:List jl}(h:Aw X es tbls):∃cs:aD,cs.length=es.length/\PA X es (λ_ H Q=>Q (cs.map V.ref) H)/\∀c b,xQ c tbls=some b->∀D,clsAt X.K c D->Qj X.K (.ref D) (cs.map Value.ref)=some b:=by
 induction h with
 |nil=>
  refine⟨[],rfl,λpos pins s σ H Q I h=>jw pos pins s σ H Q I h,λc b h D _=>?_⟩;cases h;rfl
 |cons h hg hd r ih=>
  obtain⟨C,hC,hk⟩:=h;obtain⟨cs,hl,hp,ha⟩:=ih;refine⟨C::cs,by rw[Nw,Nw,hl],λpos pins s σ H Q I q=>dm (me (v:=.ref C) hg hC rfl hd) hp (bu rfl) pos pins s σ H Q I q,λc b h D hD=>?_⟩;unfold xQ at h;show Qj X.K (.ref D) (.ref C::cs.map Value.ref)=some b;unfold Qj;split at h
  ·rename_i e;cases h;rw[(hk c true e D hD).2]
  ·rename_i e;rw[(hk c false e D hD).2];exact ha c b h D hD
  ·cases h
section
variable{X:Cx}{p pos:Pos}{e:QP}
noncomputable def Hf(K:Pn)(cs:aD):aH->Hp->VK->Prop:=λxs H Q=>∃a t D dx b,xs=[.ref a,.ref t]/\H a=some (.ext (mY D a dx))/\H t=some (.tup (cs.map V.ref))/\jv K D/\Qj K (.ref D) (cs.map Value.ref)=some b/\Q (.bl b) H
theorem pX:∀{cs:aD}{us:aS},Vals (cs.map V.ref) us->us=cs.map Value.ref
 |[],_,.nil=>rfl
 |c::cs,_,.cons h t=>by
  cases h;rw[pX t];rfl
theorem wG{cs:aD}:dh X (.builtin "isinstance") (Hf X.K cs):=by
 rintro pins s σ H xs us Q I r ⟨a,t,D,dx,b,ex,ha,ht,F,hk,q⟩;subst ex;obtain⟨u,w',rfl,rx,rt⟩:=vals2 r;cases rx;cases rt;obtain⟨⟨o,e1,e2,_⟩,_⟩:=(show bM X.prog X.w H s.heap a (.ext (mY D a dx))from I.hok a _ ha)
 obtain⟨its,ri,⟨ot,h1,h2,n,h3⟩,_⟩:=I.tuple (lu.of ht);have ei:=pX ri;subst ei;obtain⟨oc,od,odt,osl⟩:=ot;cases h2;cases h3;exact PySem.W.kia_tup (sd F) I.kIn ⟨o,e1,e2⟩ h1 hk (λz=>nomatch z) λtk=>⟨.bl _,H,I.tok _,rfl,q⟩
theorem EB{pins:aM}{σ:L2.St}{H:Hp}{s:QR}(I:Inv X pins σ H s){xd:D}{x:V}{u:QM}{A:QZ}(px:pl xd=true)(hd:dD 8 xd=true)(hx:bJ X.K H xd x)(ru:RelV x u)(hA:A.units+8<RG){ys:List D}{vs:aH}{its:aS}(py:lh ys=true)(hy:aG X.K H ys vs)(rv:Vals vs its):
  ∃e:QM->Bool,(∀y,y∈its.toArray->EqAt A s y u (e y))/\∀(j:Nat)(d:D)(w:QM),ys[j]?=some d->its[j]?=some w->e w=pyEq d xd:=by
 classical
 let e:QM->Bool:=λy=>decide (∃d w,pl d=true/\bJ X.K H d w/\RelV w y/\pyEq d xd=true)
 have he:∀d w y,pl d=true->bJ X.K H d w->RelV w y->e y=pyEq d xd:=λd w y h0 h1 h2=>by
  cases hq:pyEq d xd with
  |true=>exact decide_eq_true ⟨d,w,h0,h1,h2,hq⟩
  |false=>
   refine decide_eq_false ?_;rintro⟨d',w',g0,g1,g2,g3⟩;have ew:=RelV.inj h2 g2;subst ew;rw[Inv.den_inj I h0 g0 h1 g1,g3]at hq;cases hq
 refine⟨e,λy hy'=>?_,λj d w e1 e2=>?_⟩
 ·have hm:y∈its:=by simpa using hy'
  obtain⟨j,hj,rfl⟩:=Oj hm;obtain⟨w,e1,r1⟩:=iY rv (j:=j) (by simpa using hj);obtain⟨d,f1,g1⟩:=jf hy e1;have r1':RelV w its[j]:=by simpa using r1
  have pd:=fK py _ (NQ f1);rw[he d w _ pd g1 r1'];exact uA I 8 d xd w x _ u A pd px (.inr hd) g1 hx r1' ru hA
 ·obtain⟨v,f1,f2⟩:=hy.get e1;obtain⟨w',f3,f4⟩:=rv.get f1;rw[e2]at f3;cases f3;exact he d v w (fK py _ (NQ e1)) f2 f4
noncomputable def rP(x:D):List D->Option Nat
 |[]=>none
 |y::ys=>if pyEq y x then some 0 else(rP x ys).map (·+1)
theorem pS{x:D}:∀{ys:List D}{j:Nat},rP x ys=some j->∃h:j<ys.length,pyEq ys[j] x=true/\∀m (hm:m<ys.length),m<j->pyEq ys[m] x=false
 |[],_,h=>by cases h
 |y::ys,j,h=>by
  unfold rP at h;split at h
  ·rename_i e;cases h;exact⟨by simp,e,λm _ hm=>absurd hm (Nat.not_lt_zero _)⟩
  ·rename_i e;cases q:rP x ys with
   |none=>rw[q]at h;cases h
   |some i=>
    rw[q]at h;cases h;obtain⟨h1,h2,h3⟩:=pS q;refine⟨by simpa using h1,by simpa using h2,λm hm hlt=>?_⟩;cases m with
    |zero=>simpa using e
    |succ m=>
     have hlt:m+1<i+1:=hlt
     simpa using h3 m (by simpa using hm) ‹0›
noncomputable def AR(a b:D):aY:=match a with
 |.lst ys=>if(pl b&&lh ys)&&dD 8 b then(rP b ys).map (λ(j:Nat)=>D.int (j:Int))else none
 |_=>none
noncomputable def uy(f:FX)(g:aQ):FX:=λρ=>(f ρ).bind λa=>match a with
 |.lst ys=>(g ρ).bind λds=>match ds with
  |[b]=>rO (AR (.lst ys) b)
  |_=>un
 |_=>un
noncomputable def Fd(K:Pn):V->aH->Hp->VK->Prop:=λx xs H Q=>∃Hd a ys vs b v d,aP Hd H/\x=.ref a/\xs=[v]/\ju K Hd a vs/\aG K H ys vs/\bJ K H b v/\AR (.lst ys) b=some d/\∀w,bJ K H d w->Q w H
theorem A8(hu:X.A.units+64<RG):JS X "list.index" (Fd X.K):=by
 rintro pins s σ H x xs v us Q I rx rs ⟨Hd,a,ys,vs,b,y,d,sm,ex,exs,hl,dl,db,hg,q⟩;subst ex exs;cases rx;obtain⟨u,rfl,ru⟩:=vals1 rs;obtain⟨its,r,⟨o,n,ho,hc,hd',hdd⟩,hz⟩:=I.list (sm.seq hl);have hg':(if(pl b&&lh ys)&&dD 8 b then(rP b ys).map (λ(j:Nat)=>D.int (j:Int))else none)=some d:=hg;obtain⟨h1,h2⟩:((pl b&&lh ys)&&dD 8 b)=true/\(rP b ys).map (λ(j:Nat)=>D.int (j:Int))=some d:=by
  split at hg'
  ·rename_i z;exact⟨z,hg'⟩
  ·cases hg'
 rw[NU,NU]at h1;obtain⟨j,ej,ed⟩:=Option.map_eq_some_iff.mp h2;subst ed;obtain⟨hj,hit,hno⟩:=pS ej;obtain⟨e,he,hv⟩:=EB (A:=X.A.in1) I h1.1.1 h1.2 db ru (by rw[in1_units];omega) h1.1.2 dl r;have l1:=dl.length;have l2:=r.length;have hj':j<its.length:=by omega
 obtain⟨oc,od,odt,osl⟩:=o;cases hc;cases hd';cases hdd;refine call_meets QK ⟨_,ho,rfl⟩ PySem.F.entry_list_index (PySem.F.args_list_index_2 _ _)
  (list_indexAt a its.toArray n none osl u e j (by simpa using hj') (by rw[PySem.sizeLine_eq]at hz;omega) ?_ ?_) ⟨ho,he,?_⟩
 ·have:=hv j ys[j] its[j] (by simp[hj]) (by simp[hj'])
  rw[hit]at this
  simpa using this
 ·intro m hm hlt;have hm':m<its.length:=by simpa using hm
  have:=hv m (ys[m]'‹0›) its[m] (by simp[show m<ys.length by omega]) (by simp[hm'])
  rw[hno m ‹0› hlt]at this
  simpa using this
 ·exact⟨.int j,H,I.tok _,⟨_,rfl⟩,q _ (eQ.mpr rfl)⟩
end
end TG
namespace TG
open PySem PySem.Spec L2
variable[aw]
end TG
namespace TG
open PySem PySem.Spec PySem.Calls L2
open PySem.SeqAt (EqAt list_countAt)
variable[aw]
noncomputable def kq:List D->List D->Option (List (Key×D))
 |[],[]=>some []
 |k::ks,d::ds=>(keyOf k).bind λk=>(kq ks ds).map ((k,d)::·)
 |_,_=>none
noncomputable abbrev jq(al:List (Key×D)):List D:=al.map λp=>bC p.1
noncomputable abbrev cN(al:List (Key×D)):D:=.dct (jq al) (al.map (·.2))
theorem jt(k:Key):keyOf (bC k)=some k:=by cases k<;>rfl
theorem Ae{a b:Key}(h:bC a=bC b):a=b:=by
 have e:=congrArg keyOf h;rw[jt,jt]at e;exact Option.some.inj e
theorem tS:∀{ks ds:List D}{al:List (Key×D)},kq ks ds=some al->ks=jq al/\ds=al.map (·.2)
 |[],[],_,h=>by cases h;exact⟨rfl,rfl⟩
 |k::ks,d::ds,al,h=>by
  unfold kq at h;cases e1:keyOf k with
  |none=>rw[e1]at h;cases h
  |some k'=>
   rw[e1]at h;cases e2:kq ks ds with
   |none=>rw[e2]at h;cases h
   |some al'=>
    rw[e2]at h;cases h;obtain⟨h1,h2⟩:=tS e2;rw[iC e1,h1,h2];exact⟨rfl,rfl⟩
 |[],_::_,_,h=>by cases h
 |_::_,[],_,h=>by cases h
theorem oY:∀al:List (Key×D),kq (jq al) (al.map (·.2))=some al
 |[]=>rfl
 |p::r=>by
  show(keyOf (bC p.1)).bind _=_;rw[jt];show(kq (jq r) (r.map (·.2))).map ((p.1,p.2)::·)=_;rw[oY r];rfl
theorem p7:∀{al:List (Key×D)}{ks:List Key},jq al=ks.map bC->al.map (·.1)=ks
 |[],[],_=>rfl
 |p::r,k::ks,h=>by
  have h:bC p.1::jq r=bC k::ks.map bC:=h;injection h with h1 h2;rw[Nx,Ae h1,p7 h2]
 |[],_::_,h=>by cases h
 |_::_,[],h=>by cases h
section
variable{κ:Type}[DecidableEq κ]
noncomputable def lj(al:List (κ×D))(k:κ)(v:D):List (κ×D):=if(al.any λp=>decide (p.1=k))=true then al.map (λp=>if p.1=k then(p.1,v)else p)else al++[(k,v)]
theorem yo{kvs:List (κ×V)}{al:List (κ×D)}(e:kvs.map (·.1)=al.map (·.1))(k:κ)(w:V)(d:D):(putK kvs k w).map (·.1)=(lj al k d).map (·.1):=by
 have e2:(kvs.any λp=>decide (p.1=k))=(al.any λp=>decide (p.1=k)):=by
  have:=congrArg (λl=>l.any λq=>decide (q=k)) e
  simpa [OT,Function.comp_def]using this
 unfold putK lj;rw[e2];split
 ·have e3:∀(l:List (κ×V)),(l.map λkv=>if kv.1=k then(kv.1,w)else kv).map (·.1)=l.map (·.1):=λl=>by
   rw[OW];refine Om λp _=>?_;show(if p.1=k then(p.1,w)else p).1=p.1;split<;>rfl
  have e4:∀(l:List (κ×D)),(l.map λkv=>if kv.1=k then(kv.1,d)else kv).map (·.1)=l.map (·.1):=λl=>by
   rw[OW];refine Om λp _=>?_;show(if p.1=k then(p.1,d)else p).1=p.1;split<;>rfl
  rw[e3,e4,e]
 ·rw[Oo,Oo,e];rfl
theorem pL{K:Pn}{H:Hp}{k:κ}{w:V}{d:D}(hw:bJ K H d w):∀{kvs:List (κ×V)}{al:List (κ×D)},kvs.map (·.1)=al.map (·.1)->aG K H (al.map (·.2)) (kvs.map (·.2))->
  aG K H ((al.map λp=>if p.1=k then(p.1,d)else p).map (·.2)) ((kvs.map λp=>if p.1=k then(p.1,w)else p).map (·.2))
 |[],[],_,h=>h
 |p::r,q::r',e,h=>by
  rw[Nx,Nx]at e;injection e with e1 e2;rw[Nx,Nx,aI]at h;obtain⟨v,ws,h0,h1,h2⟩:=h;injection h0 with h0 h0';subst h0 h0';have ih:=pL (k:=k) hw e2 h2;rw[Nx,Nx,Nx,Nx,aI];refine⟨_,_,rfl,?_,ih⟩;rw[e1];split
  ·exact hw
  ·exact h1
 |[],_::_,e,_=>by cases e
 |_::_,[],e,_=>by cases e
theorem As{K:Pn}{H:Hp}{k:κ}{w:V}{d:D}(hw:bJ K H d w){kvs:List (κ×V)}{al:List (κ×D)}(e:kvs.map (·.1)=al.map (·.1))(h:aG K H (al.map (·.2)) (kvs.map (·.2))):
  aG K H ((lj al k d).map (·.2)) ((putK kvs k w).map (·.2)):=by
 have e2:(kvs.any λp=>decide (p.1=k))=(al.any λp=>decide (p.1=k)):=by
  have:=congrArg (λl=>l.any λq=>decide (q=k)) e
  simpa [OT,Function.comp_def]using this
 unfold putK lj;rw[e2];split
 ·exact pL hw e h
 ·rw[Oo,Oo];exact h.append (aI.mpr ⟨w,[],rfl,hw,bB.mpr rfl⟩)
end
theorem rH{kvs:List (Key×V)}{al:List (Key×D)}(e:kvs.map (·.1)=al.map (·.1)):jq al=kvs.map λp=>bC p.1:=by
 have:=congrArg (List.map bC) e
 rw[OW,OW]at this;exact this.symm
end TG
namespace TG
open PySem PySem.Spec L2
variable[aw]
end TG
namespace TG
open PySem PySem.Spec PySem.Calls L2
variable[aw]
theorem yk:typeLookup (.type "list") "keys"=pure none:=by rw[typeLookup_type,builtinLookup_eq_fast];kernel_rfl
theorem CI{prog:QT}{w:QS}{A:QZ}{E:aW}{s:QR}{a:QO}{o:Obj}{xs:Array QM}{k:Nat}{u:Tok}{Q:aW}
  (hx:s.heap.get? a=some o) (hc:o.cls=.type "list") (hdat:o.data=.seq xs k) (hd:o.dict=none) (hA:A.handled=none)
  (h:∀h' tk e,Heap.NewExcOf s.heap h' e "AttributeError"->E (.ref e) {s with heap:=h',toks:=tk}):
  Rc (model prog w) A (getAttrBy (.ref a) (.str "keys" u) false) Q E s:=by
 obtain⟨c,dct,dat,sl⟩:=o;simp only at hc hdat hd;subst hc hdat hd;obtain⟨hp,g,d,tk,os⟩:=s;have hT:∀tk',(⟨hp,g,d,tk',os⟩:QR).TypeIs (.ref a) "list":=λ_=>⟨_,hx,rfl⟩
 have f1:=sub_AttributeError;have f3:=F.slot_list_getattribute.lookup;have f4:=F.slot_list_getattribute.bind (.ref a);have f5:=am_list_getattr_none;unfold getAttrBy
 repeat (any_goals (first|assumption|exact hT _|((with_reducible show Rc _ _ (call (Value.builtin "list.__getattribute__") _ _) _ _ _);refine call_meets F.slot_list_getattribute (hT _) am_entry_list_getattribute (F.args_list_getattribute_2 _ _) (meets_getattribute_miss_list a xs k sl "keys" _ yk (by decide +kernel) (by decide +kernel)) ⟨hx,hA,λh' tk' e hx'=>?_⟩)|wp_step))
 obtain⟨t',u',he⟩:=hx'.there;show Rc _ _ (getattributeRaised _ _ _ _ _ _ _) _ _ _;unfold getattributeRaised
 repeat (any_goals (first|assumption|wp_step))
 exact h _ _ _ hx'.of
theorem vA{prog:QT}{w:QS}{A:QZ}{E:aW}{s:QR}{a:QO}{o:Obj}{xs:Array QM}{k:Nat}{Q:gZ->eI}
  (hx:s.heap.get? a=some o) (hc:o.cls=.type "list") (hdat:o.data=.seq xs k) (hd:o.dict=none) (hA:A.handled=none)
  (h:∀h' tk,(∀b o,s.heap.get? b=some o->h'.get? b=some o)->Q none {s with heap:=h',toks:=tk}):
  Rc (model prog w) A (getAttr? (.ref a) "keys") Q E s:=by
 obtain⟨hp,g,d,tk,os⟩:=s;have f1:=sub_AttributeError;unfold getAttr? getAttrBy?;refine Rq (wpAny_mkText ?_);refine Rq (Se (CI (s:=⟨hp,g,d,tk+1,os⟩) hx hc hdat hd hA λh' tk' e ne=>?_));obtain⟨ob,vs,e1,e2,_⟩:=ne.there;refine Rq (wpAny_isInstance (s:=⟨h',g,d,tk',os⟩) ⟨ob,e1,e2⟩ f1 ?_);exact Rp (h h' tk' ne.keeps)
noncomputable abbrev Keeps(h0 h:QV):Prop:=∀b o,h0.get? b=some o->h.get? b=some o
section
variable{prog:QT}{w:QS}{A:QZ}{E:aW}{K:Type}[DecidableEq K]{knd:HeapKind prog w K}{d:QO}{h0:QV}
noncomputable def DI(knd:HeapKind prog w K)(h0:QV)(d:QO)(h:QV)(xs:List (K×QO×QM)):Prop:=
 (∃o es ep,h.get? d=some o/\o.ExactDict/\o.data=.dict es ep/\es.toList=xs.map (entryOfKey knd)/\(xs.map (·.1)).Nodup)/\∀x∈xs,∀h,Keeps h0 h->knd.is h x.1 x.2.1
theorem DI.dict{h:QV}{xs:List (K×QO×QM)}(x:DI knd h0 d h xs)(k:Keeps h0 h):h.DictOfH knd d xs:=by
 obtain⟨⟨o,es,ep,h1,h2,h3,h4,h5⟩,h6⟩:=x;exact⟨o,es,ep,h1,h2,h3,h4,λy hy=>h6 y hy h k,h5⟩
theorem DI.stay{h h':QV}{xs:List (K×QO×QM)}(x:DI knd h0 d h xs)(k:∀o,h.get? d=some o->h'.get? d=some o):DI knd h0 d h' xs:=by
 obtain⟨⟨o,es,ep,h1,r⟩,h6⟩:=x;exact⟨⟨o,es,ep,k o h1,r⟩,h6⟩
theorem mem_storedH{xs:List (K×QO×QM)}{k:K}{a:QO}{v:QM}{x:K×QO×QM}(h:x∈storedH xs k a v):(∃y∈xs,y.1=x.1/\y.2.1=x.2.1)\/(x.1=k/\x.2.1=a):=by
 unfold storedH at h;split at h
 ·obtain⟨y,hy,rfl⟩:=List.mem_map.mp h;refine .inl ⟨y,hy,?_⟩;unfold putAt;split<;>exact⟨rfl,rfl⟩
 ·rcases List.mem_append.mp h with z|z
  ·exact .inl ⟨x,z,rfl,rfl⟩
  ·rw[OY]at z;subst z;exact .inr ⟨rfl,rfl⟩
theorem DI.put{h h':QV}{xs:List (K×QO×QM)}{k:K}{a:QO}{v:QM}(x:DI knd h0 d h xs)(hk:∀h,Keeps h0 h->knd.is h k a)(dd:h'.DictOfH knd d (storedH xs k a v)):DI knd h0 d h' (storedH xs k a v):=by
 obtain⟨o,es,ep,h1,h2,h3,h4,_,h5⟩:=dd;refine⟨⟨o,es,ep,h1,h2,h3,h4,h5⟩,λy hy g kg=>?_⟩;rcases mem_storedH hy with⟨z,hz,e1,e2⟩|⟨e1,e2⟩
 ·rw[<-e1,<-e2];exact x.2 z hz g kg
 ·rw[e1,e2];exact hk g kg
theorem sW(xs:List (K×QO×QM))(k:K)(a:QO)(v:QM):(storedH xs k a v).length<=xs.length+1:=by
 unfold storedH;split
 ·rw[Ny];omega
 ·simp
theorem jF:entryFor table "dict.update.loop"=some Builtin.«dict.update.loop»:=entryFor_of_tree (by kernel_rfl)
theorem dZ:plainId "dict.update.loop"=true:=by decide +kernel
theorem wx{R:Rz->eI}{I:QO}{fp wr:aD}{P:Nat->QM->Prop}{St:Nat->QV->Prop}{L:List (K×QO×QM)}(W:Walks prog w A.in1 I fp wr L.length P St)(hwr:∀b∈wr,h0.get? b=none)(hdn:h0.get? d=none)(hdf:d∉fp)
  (hn:L.length<=QW) (hu:knd.room A.in1) (hP:∀i v,P i v->∃x t,L[i]?=some x/\v=.ref t/\∀h,Keeps h0 h->h.IsTuple t #[.ref x.2.1,x.2.2]) (hK:∀x∈L,∀h,Keeps h0 h->knd.is h x.1 x.2.1) (res:QM):
  ∀(m i:Nat)(s:QR)(xs:List (K×QO×QM))(j:Int)(u:Tok),i+m=L.length->St i s.heap->Keeps h0 s.heap->DI knd h0 d s.heap xs->xs.length<=i->
  (∀h' tk,Keeps h0 h'->DI knd h0 d h' ((L.drop i).foldl (λxs x=>storedH xs x.1 x.2.1 x.2.2) xs)->R (.ok (.ret res)) {s with heap:=h',toks:=tk})->
  RB (model prog w) A (.builtin "dict.update.loop" ⟨[.ref d,.ref I,.int j u,res],[]⟩) R s:=by
 have hdw:d∉wr:=λh=>hdf (W.sub _ h);intro m
 induction m with
 |zero=>
  intro i s xs j u hi st kp di hl hR;have hin:i=L.length:=by omega
  subst hin;refine Si jF ?_;rw[Around.under_plainId dZ _];show Rc _ A.in1 (pyNext (.ref I) >>= _) _ _ s;refine Rq (W.done s _ _ st λh' tk hk=>?_);refine Rq (Rp (Rp ?_))
  have:=hR h' tk (λb o q=>hk b o (λz=>by have:=hwr b z;rw[q]at this;cases this) (kp b o q)) (by
   rw[Ox,OZ];exact di.stay λo q=>hk d o hdw q)
  exact this
 |succ m ih=>
  intro i s xs j u hi st kp di hl hR;refine Si jF ?_;rw[Around.under_plainId dZ _];show Rc _ A.in1 (pyNext (.ref I) >>= _) _ _ s;refine Rq (W.item i s _ _ ‹0› st λv h' tk hv st' hk=>?_);obtain⟨x,t,hx,rfl,ht⟩:=hP i v hv;have kp':Keeps h0 h':=λb o q=>hk b o (λz=>by have:=hwr b z;rw[q]at this;cases this) (kp b o q);obtain⟨o,ho,hc,n,hd⟩:=ht h' kp';have xm:x∈L:=NQ hx;refine Rq (RU (Rq (wpAny_tryCatch ?_)));unfold Builtin.Dict.pairItems;refine Rq (RX (T:="tuple") ⟨o,ho,hc⟩ ?_);rw[if_pos (by decide)];refine Rq (R7 ho hd (Rp ?_));show Rc _ _ (holding [.ref x.2.1,x.2.2] (dictSet d (.ref x.2.1) x.2.2)) _ _ _;have di':DI knd h0 d h' xs:=di.stay λo q=>hk d o hdw q;refine RU (wpAny_dictSet_heap (s:={s with heap:=h',toks:=tk}) (hsz:=by omega) hu (hK x xm h' kp') (di'.dict kp') λh2 dd sb=>?_);have kp2:Keeps h0 h2:=λb o q=>(sb.2 b (λz=>by rw[z,hdn]at q;cases q)).trans (kp' b o q);refine Rp ⟨Sl dZ _,?_⟩;refine ih (i+1) _ (storedH xs x.1 x.2.1 x.2.2) (j+1) 0 ‹0› (W.frame _ _ _ st' λb hb o q=>(sb.2 b (λz=>hdf (by rw[<-z];exact hb))).trans q) kp2 (di'.put (hK x xm) dd) (by have:=sW xs x.1 x.2.1 x.2.2;omega) λh3 tk3 kp3 di3=>?_;refine hR h3 tk3 kp3 ?_;have e:L.drop i=x::L.drop (i+1):=by
   have hil:i<L.length:=(by omega);rw[Ov hil];rw[Oe hil]at hx;rw[Option.some.inj hx]
  rw[e,O0];exact di3
theorem mO{s:QR}{Q:aW}{l:QO}{o:Obj}{items:Array QM}{n:Nat}{L:List (K×QO×QM)}(ho:s.heap.get? l=some o)(hc:o.cls=.type "list")(hd:o.data=.seq items n)(hdd:o.dict=none)(hh:A.handled=none)(hu:knd.room A.in1.in1)
  (hl:items.size=L.length) (hn:L.length<=QW) (hP:∀(i:Nat) v,items[i]?=some v->∃x t,L[i]?=some x/\v=.ref t/\s.heap.IsTuple t #[.ref x.2.1,x.2.2]) (hK:∀x∈L,∀h,Keeps s.heap h->knd.is h x.1 x.2.1)
  (hQ:∀h' tk,Keeps s.heap h'->DI knd s.heap s.heap.objs.size h' (L.foldl (λxs x=>storedH xs x.1 x.2.1 x.2.2) [])->Q (.ref s.heap.objs.size) {s with heap:=h',toks:=tk}):
  Rc (model prog w) A (call (.type "dict") [.ref l]) Q E s:=by
 refine callType_codes (Q₁:=λobj s₁=>obj=.ref s.heap.objs.size/\s₁={s with heap:=s.heap.push {cls:=.type "dict",data:=.dict #[]}}) F.kt_called_dict (F.kt_typeCall_dict_1 _) F.entry_dict_init (kt_code_dict_new _ ⟨rfl,rfl⟩) ?_;rintro obj s₁ ⟨rfl,rfl⟩;have hnew:(s.heap.push {cls:=.type "dict",data:=.dict #[]}).DictOfH knd s.heap.objs.size []:=Heap.DictOfH.new s.heap;have hlt:=Qm ho;have hl1:(s.heap.push {cls:=.type "dict",data:=.dict #[]}).get? l=some o:=Qp _ ho;refine⟨hnew.typeIs,F.args_dict_init_2 _ _,?_⟩;unfold Builtin.«dict.__init__»;refine Rq ?_;unfold Builtin.Dict.selfAndRest;refine Rq (wpAny_notOrdered_dict hnew.typeIs ?_);show Rc _ _ (pure (s.heap.objs.size,[Value.ref l])) _ _ _;refine Rp ?_;show Rc _ _ (Builtin.Dict.updateFrom "dict.__init__" s.heap.objs.size (.ref l) [] .none) _ _ _;unfold Builtin.Dict.updateFrom;refine Rq (RX (T:="list") ⟨o,hl1,hc⟩ ?_);rw[if_pos (by decide)];refine Rq (vA hl1 hc hd hdd hh λh1 tk1 k1=>?_);rw[if_pos (show(none:gZ).isNone=true from rfl)];refine Rq (R4 ?_);have hd1:h1.get? s.heap.objs.size=some {cls:=.type "dict",data:=.dict #[]}:=k1 _ _ (Qq _ rfl);have hl2:h1.IsList l items:=⟨o,k1 _ _ hl1,hc,n,hd⟩
 have dlt:=Qm hd1;refine Rq (Rr (s:={s with heap:=h1,toks:=tk1}) hl2 ?_);refine Rp ⟨Sl dZ _,?_⟩;have W:=Walks.list (prog:=prog) (w:=w) (A:=A.in1.in1) hh h1.objs.size l (Nc (N2 hlt dlt)) items;rw[hl]at W;refine wx (A:=A.in1) (knd:=knd) (h0:=s.heap) (d:=s.heap.objs.size) W (λb hb=>?_) (Qn (Nt _)) (λz=>?_) hn hu (λi v hv=>?_) hK .none L.length 0 _ [] 0 0 ‹0› ?_ (λb o q=>?_) ⟨⟨_,#[],0,Qp _ hd1,⟨rfl,rfl,rfl⟩,rfl,rfl,O2⟩,λx hx=>by simp at hx⟩ (Nt _) λh' tk kp di=>?_
 ·rw[OY]at hb;subst hb;exact Qn (Ng dlt)
 ·simp only[Oz,OA,or_false]at z;rcases z with z|z
  ·exact absurd z (Nc dlt)
  ·exact absurd z.symm (Nc hlt)
 ·obtain⟨x,t,e1,e2,e3⟩:=hP i v hv;obtain⟨ob,q1,q2⟩:=e3;exact⟨x,t,e1,e2,λh kh=>⟨ob,kh _ _ q1,q2⟩⟩
 ·exact⟨⟨_,Qq _ rfl,rfl,rfl⟩,let ⟨ob,q1,q2⟩:=hl2;⟨ob,Qp _ q1,q2⟩⟩
 ·exact Qp _ (k1 _ _ (Qp _ q))
 ·exact⟨rfl,hQ h' tk kp di⟩
end
noncomputable def vo:D->Option (List Key×D)
 |.tup [k,v]=>(uj k).map λq=>(q,v)
 |_=>none
noncomputable def kX:List D->Option (fz)
 |[]=>some []
 |d::r=>(vo d).bind λp=>(kX r).map (p::·)
noncomputable def D6(ps:fz):fz:=ps.foldl (λal p=>sE al p.1 p.2) []
noncomputable def nu:List D->aY
 |[.lst xs]=>(kX xs).bind λps=>if small ps.length then some (wQ (D6 ps))else none
 |_=>none
theorem zu{d:D}{p:List Key×D}(h:vo d=some p):d=.tup [.tup (p.1.map bC),p.2]:=by
 unfold vo at h;split at h
 ·rename_i k v;cases e:uj k with
  |none=>rw[e]at h;cases h
  |some q=>rw[e]at h;cases h;rw[rB e]
 ·cases h
theorem pG:∀{xs:List D}{ps:fz},kX xs=some ps->xs=ps.map λp=>.tup [.tup (p.1.map bC),p.2]
 |[],_,h=>by cases h;rfl
 |d::r,ps,h=>by
  unfold kX at h;cases e1:vo d with
  |none=>rw[e1]at h;cases h
  |some p=>
   rw[e1]at h;cases e2:kX r with
   |none=>rw[e2]at h;cases h
   |some ps'=>rw[e2]at h;cases h;rw[zu e1,pG e2];rfl
section
variable{X:Cx}
theorem pD{pins:aM}{σ:St}{H:Hp}{s:QR}{O:aD}(I:L2.Inv X pins σ H s):∀{ps:fz}{ws:aH}{its:aS},aG X.K (hid H O) (ps.map λp=>.tup [.tup (p.1.map bC),p.2]) ws->Vals ws its->
  ∃(L:List (List Key×QO×QM))(ks:List (List Key×V)),its.length=L.length/\(∀(i:Nat)(v:QM),its[i]?=some v->∃(x:List Key×QO×QM)(t:QO),L[i]?=some x/\v=.ref t/\s.heap.IsTuple t #[.ref x.2.1,x.2.2])/\KT H ks L/\ks.map (·.1)=ps.map (·.1)/\aG X.K (hid H O) (ps.map (·.2)) (ks.map (·.2))
 |[],ws,its,h,r=>by
  rw[NX,bB]at h;subst h;cases r;exact⟨[],[],rfl,(λi v e=>by simp at e),.nil,rfl,bB.mpr rfl⟩
 |p::ps,ws,its,h,r=>by
  rw[Nx,aI]at h;obtain⟨w,ws',rfl,h1,h2⟩:=h;cases r with
  |@cons _ u _ us ru rr=>
   obtain⟨L,ks,l1,l2,l3,l4,l5⟩:=pD I h2 rr;obtain⟨t,vs,rfl,t1,t2⟩:=bQ.mp h1;obtain⟨v1,v2,rfl,d1,d2⟩:=t2.two;obtain⟨a,ks1,rfl,a1,a2⟩:=bQ.mp d1;rw[kN a2]at a1;obtain⟨its',r',⟨o,q1,q2⟩,_⟩:=I.tuple (bL (K:=X.K) (ax H O) t1);obtain⟨x1,x2,rfl,rx1,rx2⟩:=vals2 r';cases rx1;obtain rfl:u=Value.ref t:=ru;refine⟨(p.1,a,x2)::L,(p.1,v2)::ks,by rw[Nw,Nw,l1],λi v e=>?_,.cons ⟨rfl,(ax H O) _ _ a1,rx2⟩ l3,by rw[Nx,Nx,l4],aI.mpr ⟨v2,_,rfl,d2,l5⟩⟩;cases i with
   |zero=>
    have e:Value.ref t=v:=(by simpa using e);subst e;exact⟨_,t,rfl,rfl,o,q1,q2⟩
   |succ i=>exact l2 i v (by simpa using e)
theorem rZ{K:Pn}{H:Hp}{H0:Hp}:∀{ps:fz}{ks:List (List Key×V)}{L:List (List Key×QO×QM)}{al:fz}{kvs:List (List Key×V)}{xs:List (List Key×QO×QM)},KT H ks L->ks.map (·.1)=ps.map (·.1)->aG K H0 (ps.map (·.2)) (ks.map (·.2))->
  KT H kvs xs->kvs.map (·.1)=al.map (·.1)->aG K H0 (al.map (·.2)) (kvs.map (·.2))->
  KT H (ks.foldl (λm p=>putK m p.1 p.2) kvs) (L.foldl (λxs x=>storedH xs x.1 x.2.1 x.2.2) xs)/\(ks.foldl (λm p=>putK m p.1 p.2) kvs).map (·.1)=(ps.foldl (λal p=>sE al p.1 p.2) al).map (·.1)/\
   aG K H0 ((ps.foldl (λal p=>sE al p.1 p.2) al).map (·.2)) ((ks.foldl (λm p=>putK m p.1 p.2) kvs).map (·.2))/\(ks.foldl (λm p=>putK m p.1 p.2) kvs).length<=kvs.length+ks.length
 |[],[],_,al,kvs,xs,.nil,_,_,h1,h2,h3=>⟨h1,h2,h3,by simp⟩
 |p::ps,q::ks,_,al,kvs,xs,.cons (b:=x) hq hr,e,d,h1,h2,h3=>by
  rw[Nx,Nx]at e;injection e with e1 e2;rw[Nx,Nx,aI]at d;obtain⟨v,vs,d0,d1,d2⟩:=d;injection d0 with d0 d0';subst d0 d0';obtain⟨y1,y2,y3⟩:=hq;have z1:=KT.put h1 q.1 y2 y3;rw[y1]at z1;have z2:=AO h2 q.1 q.2 p.2;have z3:=Bv (k:=q.1) d1 h2 h3
  have:=rZ (kvs:=putK kvs q.1 q.2) (al:=sE al q.1 p.2) (xs:=storedH xs x.1 x.2.1 x.2.2) hr e2 d2 (by rw[y1];exact z1) z2 z3
  rw[O0,O0,O0,<-e1];refine⟨this.1,this.2.1,this.2.2.1,Nf this.2.2.2 ?_⟩
  have:=lr kvs q.1 q.2
  rw[Nw];omega
 |[],_::_,_,_,_,_,_,e,_,_,_,_=>by cases e
 |_::_,[],_,_,_,_,_,e,_,_,_,_=>by cases e
theorem ui(hc:X.calm=true)(hu:X.A.units+64<RG):dh X (.type "dict") (Au X.K nu):=by
 rintro pins s σ H xs us Q I r ⟨O,ds,d,hO,hd,hg,q⟩;unfold nu at hg;split at hg
 ·rename_i ys;cases hp:kX ys with
  |none=>rw[hp]at hg;cases hg
  |some ps=>
   rw[hp]at hg;obtain⟨sm,rfl⟩:=bb (show(if small ps.length then some (wQ (D6 ps))else none)=some d from hg);obtain⟨v,rfl,h1⟩:=hd.one;obtain⟨p,ws,rfl,g1,g2⟩:=bP.mp h1;obtain⟨u,rfl,ru⟩:=vals1 r;cases ru;obtain⟨its,rv,⟨o,n,ho,hcl,hd',hdd⟩,hz⟩:=I.list ((ax H O).seq g1);rw[pG hp]at g2;obtain⟨L,ks,l1,l2,l3,l4,l5⟩:=pD I g2 rv;have kl:ks.length=ps.length:=(by have:=congrArg List.length l4;simpa using this);have ll:ks.length=L.length:=Paired.length l3;have key:∀{ks:List (List Key×V)}{L:List (List Key×QO×QM)},KT H ks L->∀x∈L,∀h,Keeps s.heap h->(tupleKind (bI X.prog X.w)).is h x.1 x.2.1:=λ{ks L} kt=>by
    induction kt with
    |nil=>intro x hx;cases hx
    |cons hq _ ih=>
     intro x hx h kh;rcases List.mem_cons.mp hx with z|z
     ·subst z;obtain⟨e1,e2,_⟩:=hq;rw[e1]at e2;obtain⟨o,xs,n,k1,k2⟩:=nM I.hok e2;exact⟨o,xs,n,kh _ _ k1,k2⟩
     ·exact ih x z h kh
   obtain⟨f1,f2,f3,f4⟩:=rZ (K:=X.K) (H:=H) (H0:=hid H O) (al:=[]) (kvs:=[]) (xs:=[]) l3 l4 l5 .nil rfl (bB.mpr rfl);have hsz:ps.length<=100000:=of_decide_eq_true sm;have sl:QW=16777216:=Rv;refine mO (knd:=tupleKind (bI X.prog X.w)) (L:=L) ho hcl hdd hd' (I.ok.hd hc) (R0 (by rw[in1_units];omega)) (by simpa using l1) ‹0› (λi v e=>l2 i v (by simpa using e)) (key l3) λh' tk kp di=>?_;have hf:=I.hok.fresh (Nt s.heap.objs.size);obtain⟨⟨od,es,ep,k1,k2,k3,k4,k5⟩,_⟩:=di;have kt':KT (upd H s.heap.objs.size (.dT (ks.foldl (λm p=>putK m p.1 p.2) []))) (ks.foldl (λm p=>putK m p.1 p.2) []) (L.foldl (λxs x=>storedH xs x.1 x.2.1 x.2.2) []):=KT.keeps f1 λb ys eb=>by rw[ak (λz=>by rw[z,hf]at eb;cases eb)];exact eb
   refine⟨.ref s.heap.objs.size,_,I.laid (t':=tk) kp (Nt _) (show bM X.prog X.w _ h' _ (.dT (ks.foldl (λm p=>putK m p.1 p.2) []))from⟨by simp only[N0]at f4;omega,beq_eq_false_iff_ne.mpr (Ne.symm (Nc I.big)),_,kt',od,es,ep,k1,k2,k3,k4,k5⟩),rfl,?_⟩;refine q _ _ (bV hf _) ?_;have pO:=hO.not hf;refine IJ.mpr ⟨s.heap.objs.size,_,rfl,f3.mono (lQ hf),.inr (.inl ⟨_,by rw[fT pO];exact aq,EX f2,rfl⟩)⟩
 ·cases hg
end
noncomputable def Eo(H:Hp)(a:QO)(y:V)(r:Option V):Prop:=qR H a y r\/(H a=some (.dK [])/\r=none/\∃b k,y=.ref b/\H b=some (.tup (List.map kV k)))
noncomputable def sq(al:fz)(q:List Key):aY:=(al.find? λp=>decide (p.1=q)).map (·.2)
noncomputable def sA(ks ds:List D)(k x:D):aY:=(wL ks ds).bind λal=>(uj k).bind λq=>some ((sq al q).getD x)
noncomputable def n0(fo fk fx:FX):FX:=λρ=>(fo ρ).bind λdd=>match dd with
 |.dct ks ds=>(fk ρ).bind λk=>(fx ρ).bind λx=>rO (sA ks ds k x)
 |_=>un
theorem zS{K:Pn}{H:Hp}{v:V}{al:fz}(h:bJ K H (wQ al) v):
  ∃a,v=.ref a/\((∃kvs:List (List Key×V),H a=some (.dT kvs)/\kvs.map (·.1)=al.map (·.1)/\aG K H (al.map (·.2)) (kvs.map (·.2)))\/(H a=some (.dK [])/\al=[])):=by
 obtain⟨a,vs,e0,h2,h3⟩:=IJ.mp h;refine⟨a,e0,?_⟩;rcases h3 with⟨kvs,e,e1,e2⟩|⟨kvs,e,e1,e2⟩|⟨kvs,o,e,e1,e2⟩
 rotate_left 2
 ·cases al with
  |nil=>cases e1
  |cons _ _=>injection e1 with e1 _;cases e1
 ·cases kvs with
  |nil=>exact .inr ⟨e,by simpa using e1⟩
  |cons p r=>
   cases al with
   |nil=>cases e1
   |cons q r'=>
    have e1:D.tup (q.1.map bC)::encK r'=bC p.1::r.map (λp=>bC p.1):=e1;injection e1 with e1 _;rcases p with⟨k,v⟩
    cases k<;>cases e1
 ·refine .inl ⟨kvs,e,?_,by rw[<-e2];exact h2⟩;exact(so (ks:=kvs.map (·.1)) (by rw[OW];exact e1)).symm
theorem sJ{K:Pn}{H:Hp}(q:List Key):∀{kvs:List (List Key×V)}{al:fz},kvs.map (·.1)=al.map (·.1)->aG K H (al.map (·.2)) (kvs.map (·.2))->(gr kvs q=none/\sq al q=none)\/∃v d,gr kvs q=some v/\sq al q=some d/\bJ K H d v
 |[],[],_,_=>.inl ⟨rfl,rfl⟩
 |p::r,a::al,e,h=>by
  rw[Nx,Nx]at e;injection e with e1 e2;rw[Nx,Nx,aI]at h;obtain⟨v,ws,h0,h1,h2⟩:=h;injection h0 with h0 h0';subst h0 h0';by_cases z:p.1=q
  ·refine .inr ⟨p.2,a.2,iz z,?_,h1⟩;unfold sq;rw[O3 (by rw[<-e1];simpa using z)];rfl
  ·have ih:=sJ q e2 h2;have g:sq (a::al) q=sq al q:=by
    unfold sq;rw[O5 (by rw[<-e1];simpa using z)]
   rw[iG z,g];exact ih
 |[],_::_,e,_=>by cases e
 |_::_,[],e,_=>by cases e
theorem ux{ks ds:List D}{k x d:D}(h:sA ks ds k x=some d):∃al q,ks=encK al/\ds=al.map (·.2)/\k=.tup (q.map bC)/\d=(sq al q).getD x:=by
 unfold sA at h;cases e1:wL ks ds with
 |none=>rw[e1]at h;cases h
 |some al=>
  rw[e1]at h;cases e2:uj k with
  |none=>rw[e2]at h;cases h
  |some q=>
   rw[e2]at h;cases h;obtain⟨h1,h2⟩:=wo e1;exact⟨al,q,h1,h2,rB e2,rfl⟩
section
variable{X:Cx}{o e f:QP}{apos cpos:Pos}
theorem BG{pins:aM}{σ:St}{H:Hp}{s:QR}{a:QO}{y d:V}{u r:QM}{w:Option V}{A:QZ}{E:aW}{Q:aW}(hu:A.units+1<RG)(I:L2.Inv X pins σ H s)(g:Eo H a y w)(ry:RelV y u)(rd:RelV d r)(h:∀w' s',L2.Inv X pins σ H s'->RelV (w.getD d) w'->Q w' s'):
  Rc (model X.prog X.w) A (call (.builtin "dict.get") [.ref a,u,r]) Q E s:=by
 rcases g with g|⟨h1,rfl,b,k,rfl,hb⟩
 ·exact z9 hu I g ry rd h
 ·have ne:b≠a:=λz=>by rw[z,h1]at hb;cases hb
  refine z9 (o:=gr [] k) hu (Ih I h1) (qR.t aq (by rw[ak ne];exact hb)) ry rd λw' s' I4 rw'=>h w' s' ?_ rw';have I5:=HV I4 aq;rw[tG h1]at I5;exact I5
noncomputable def C7(td ty tx:TE):TE:=λσ H Q=>td σ H λx H1=>∃a,x=.ref a/\Li H1 a/\ty σ H1 λy H2=>tx σ H2 λz H3=>∃o,Eo H3 a y o/\Q (o.getD z) H3
theorem xO{td ty tx:TE}(hu:X.A.units+1<RG)(ho:PE X o td)(he:PE X e ty)(hf:PE X f tx)(m:M2 X o "get" apos e f cpos):PE X (.Call (.Attribute o "get" apos) [e,f] [] cpos) (C7 td ty tx):=by
 intro pins s σ H Q I h;refine wpAny_Call_method m.base m.few m.line PySem.F.plainAttrs_dict QH PySem.F.type_dict_get (bU (ho pins s σ H _ I h) λu s1 ⟨x,H1,I1,rx,a,ex,d,q1⟩=>?_);subst ex;obtain rfl:u=Value.ref a:=rx;obtain⟨t1,t2,_⟩:=E7 I1 d;refine⟨t1,t2,?_⟩;rw[m.trees];refine Calls.callWith_builtin rfl (Calls.evalArgs_plain (Calls.spliced_cons (bU (he pins s1 σ H1 _ I1 q1) λiv s2 ⟨y,H2,I2,ry,q2⟩=>
  Calls.spliced_cons (bU (hf pins s2 σ H2 _ I2 q2) λfv s3 ⟨z,H3,I3,rz,ov,g,q3⟩=>Calls.spliced_nil ?_))))
 exact BG hu I3 g ry rz λw' s4 I4 rw'=>⟨_,H3,I4,rw',q3⟩
end
end TG
namespace TG
open PySem PySem.Spec L2
variable[aw]
end TG
namespace TG
open PySem PySem.Spec L2
variable[aw]
end TG
namespace TG
open PySem PySem.Spec L2
variable[aw]
end TG
namespace TG
open PySem PySem.Spec PySem.Calls L2
variable[aw]
end TG
namespace TG
open PySem PySem.Spec L2
variable[aw]
end TG
namespace TG
open PySem PySem.Spec L2
variable[aw]
end TG
namespace TG
open PySem PySem.Spec L2
variable[aw]
end TG
namespace TG
open PySem PySem.Spec L2
variable[aw]
end TG
namespace TG
open PySem PySem.Spec PySem.Calls L2
variable[aw]
end TG
namespace L2
open PySem PySem.Spec PyProof.Rows
end L2
namespace TG
open PySem PySem.Spec L2
variable[aw]
end TG
namespace TG
open PySem PySem.Spec L2
variable[aw]
end TG
namespace TG
open PySem PySem.Spec L2
section
variable{prog:QT}{w:QS}{A:QZ}{E:aW}{h:QV}{g:Array GenState}{d:Drawn}{t:Nat}{os:OsState}
variable{nm q:Str}{C N:QO}{bs bm bmB:aS}{hdct:Bool}{sn:av}{sub:aS}{ab:Bool}{col:Option Bool}{dd:Option QO}{k0 k1 k2 k3 k5:gZ}{B Bn newId nid initId inN:String}{bmN:aS}{mN:bF}{us:aS}{fI:QO}{oI:Obj}
theorem sY{Q:PySem.Fin->eI}(Fn:Sn Bn newId inN bmN)(hb:bmB.contains (.type Bn)=true)(F:Sn B nid initId bmB)(T:OwnTail h bmB bm)
  (hC:h.get? C=some (excClassObj nm q C N bs bm hdct sn sub ab col dd k0 k1 k2 k3 k5 newId)) (hn:h.Ns N mN) (hi:mN "__init__"=some (.ref fI)) (hf:h.get? fI=some oI) (hc:oI.cls=.type "function")
  (hq:∀h' e,Qw h h' e (.ref C) us->Rc (model prog w) A (call (.ref fI) (.ref e::us)) (λr s'=>r=.none/\Q (.done (.ret (.ref e))) s') E ⟨h',g,d,t,os⟩) (hl:us.length<=QW):
  Rc (model prog w) A (Builtin.«type.__call__» ⟨.ref C::us,[]⟩) Q E ⟨h,g,d,t,os⟩:=by
 repeat (first|with_reducible refine Sq hC ?_|with_reducible refine wpAny_madeBy_exc hC ?_|wp_step)
 refine codeAny_call_builtin_code (Code.quiet_builtin _ Fn.quiet) (wpAny_check_new_subU Fn hb T hC (codeAny_exc_new_subU Fn hb F T hC ?_ hl));show Rc _ _ _ _ _ _;obtain⟨o1,e1⟩:∃o:Obj,o={cls:=.type "tuple",data:=.seq us.toArray}:=⟨_,rfl⟩
 obtain⟨o2,e2⟩:∃o:Obj,o={cls:=.ref C,data:=.fields #[.ref h.objs.size,.none,.none,.none,.bool false,.none]}:=⟨_,rfl⟩
 rw[<-e1,<-e2];have up:∀b o,h.get? b=some o->((h.push o1).push o2).get? b=some o:=λb o z=>Qp _ (Qp _ z);have hC1:=up _ _ hC;have hf1:=up _ _ hf;have hn1:((h.push o1).push o2).Ns N mN:=let ⟨o,es,ep,z,r⟩:=hn;⟨o,es,ep,up _ _ z,r⟩
 have hg:((h.push o1).push o2).get? (h.objs.size+1)=some o2:=Qv (by simp only[Qr]) (by rw[e2];rfl);have hg1:((h.push o1).push o2).get? h.objs.size=some o1:=Qp _ (Qv rfl (by rw[e1];rfl));have cc:(Value.ref C::bm).contains (.ref C)=true:=by simp
 have T1:=T.keeps (h':=(h.push o1).push o2) up;subst e2;unfold isInstance
 repeat (first|with_reducible refine Sq hg ?_|(with_reducible refine wpAny_isSubtype_exc hC1 ?_;rw[cc])|wp_step)
 show Rc _ _ (typeLookup (.ref C) _) _ _ _;refine wpAny_typeLookup_tail hC1 hn1 T1 F.mroIs F.init.lookup ?_;rw[hi];refine RU (Rq ?_);unfold bindSpecial;refine Rq (RX (T:="function") ⟨_,hf1,hc⟩ ?_);rw[if_pos (by decide)];subst e1;refine Rp (Rq (Rg (hq _ (h.objs.size+1) ⟨up,Qn (NE _),h.objs.size,hg,Qn (Nt _),hg1⟩) (λr s' hr=>?_) λ_ _ x=>x));obtain⟨rfl,hQ⟩:=hr
 wp_walk
 exact hQ
theorem oz{Q:aW}(Fn:Sn Bn newId inN bmN)(hb:bmB.contains (.type Bn)=true)(F:Sn B nid initId bmB)(T:OwnTail h bmB bm)
  (hC:h.get? C=some (excClassObj nm q C N bs bm hdct sn sub ab col dd k0 k1 k2 k3 k5 newId)) (hn:h.Ns N mN) (hi:mN "__init__"=some (.ref fI)) (hf:h.get? fI=some oI) (hc:oI.cls=.type "function")
  (hq:∀h' e,Qw h h' e (.ref C) us->Rc (model prog w) (A.under (.builtin "type.__call__" ⟨.ref C::us,[]⟩)) (call (.ref fI) (.ref e::us)) (λr s'=>r=.none/\Q (.ref e) s') E ⟨h',g,d,t,os⟩) (hl:us.length<=QW):
  Rc (model prog w) A (call (.ref C) us) Q E ⟨h,g,d,t,os⟩:=by
 have f1:=tc_lookup;have f2:=tc_bind (.ref C);have hT:(⟨h,g,d,t,os⟩:QR).TypeIs (.ref C) "type":=⟨_,hC,rfl⟩
 refine RK (codeAny_of_tree ?_);show Rc _ _ (callAny (.ref C) _) _ _ _
 repeat (any_goals (first|assumption|with_reducible refine Sq hC ?_|wp_step))
 exact⟨rfl,codeAny_call_builtin_at (Code.quiet_builtin _ (by decide +kernel)) entry_typeCall (wpAny_check_type_call_sub hC (sY Fn hb F T hC hn hi hf hc (λh' e hm=>hq h' e hm) hl))⟩
end
variable[aw]
noncomputable abbrev Ji(a0:QO):Data:=.fields #[.ref a0,.none,.none,.none,.bool false,.none]
noncomputable def oE(C e a0:QO):(QO->Prop)->QV->Prop:=λ_ h=>∃o,h.get? e=some o/\o.cls=.ref C/\o.data=Ji a0/\o.dict=none
noncomputable def fQ(C e a0 d:QO)(fs:List (Str×V)):(QO->Prop)->QV->Prop:=λS h=>∃o mA,h.get? e=some o/\o.cls=.ref C/\o.data=Ji a0/\o.dict=some d/\S d/\d≠e/\h.Ns1 d mA/\∀f,lO (fs.lookup f) (mA f)
theorem GD{h h':QV}{d:QO}{mA:bF}(n:h.Ns1 d mA)(k:∀o,h.get? d=some o->h'.get? d=some o):h'.Ns1 d mA:=n.at k
theorem CZ{P:QT}{w:QS}{H:Hp}{h:QV}{C e a0:QO}(x:oE C e a0 (λb=>H b=some (.own e)) h):bM P w H h e (.ext (oE C e a0)):=by
 refine⟨x,let ⟨o,q,_⟩:=x;⟨o,q⟩,λS1 S2 h1 h2 z s12 k=>?_⟩;obtain⟨o,q1,q2⟩:=z;exact⟨o,k _ _ (.inl rfl) q1,q2⟩
theorem vx{P:QT}{w:QS}{H:Hp}{h:QV}{C e a0 d:QO}{fs:List (Str×V)}(x:fQ C e a0 d fs (λb=>H b=some (.own e)) h):bM P w H h e (.ext (fQ C e a0 d fs)):=by
 refine⟨x,let ⟨o,_,q,_⟩:=x;⟨o,q⟩,λS1 S2 h1 h2 z s12 k=>?_⟩;obtain⟨o,mA,q1,q2,q3,q4,q5,q6,q7,q8⟩:=z;exact⟨o,mA,k _ _ (.inl rfl) q1,q2,q3,q4,s12 _ q5,q6,GD q7 λo e=>k _ _ (.inr q5) e,q8⟩
section
variable{X:Cx}{pins:aM}{σ:St}{H:Hp}{s:QR}{A:QZ}{E:aW}{C e a0:QO}{fs:List (Str×V)}{f:Str}{y:V}{u:QM}{Q:Unit->eI}
theorem tD{fs:List (Str×V)}{f:Str}(y:V)(h:(fs.map (·.1)).contains f=false)(g:Str):(fs++[(f,y)]).lookup g=if g=f then some y else fs.lookup g:=by
 induction fs with
 |nil=>
  show List.lookup g [(f,y)]=_;rw[N3];by_cases z:g=f
  ·rw[if_pos z,z,beq_self_eq_true]
  ·rw[if_neg z,beq_eq_false_iff_ne.mpr z]
 |cons p r ih=>
  rw[Nx,OL,OM]at h;rw[N6,N3,N3,ih h.2];have ne:f≠p.1:=by simpa using h.1
  cases q:(g==p.1)with
  |false=>rfl
  |true=>
   have:=beq_iff_eq.mp q
   have nf:¬g=f:=λz=>ne (z.symm.trans this);show some p.2=if g=f then some y else some p.2
   rw[if_neg nf]
theorem lookup_mem{fs:List (Str×V)}{g:Str}{v:V}(h:fs.lookup g=some v):g∈fs.map (·.1):=by
 induction fs with
 |nil=>cases h
 |cons p r ih=>
  rw[N3]at h;cases q:(g==p.1)with
  |true=>rw[Nx,beq_iff_eq.mp q];exact Ni
  |false=>rw[q]at h;exact Nj _ (ih h)
theorem rj(I:Inv X pins σ H s)(e1:H e=some (.ext (oE C e a0)))(Z:D4 X.K C)(n:cw X.K C f)(ry:RelV y u)
  (h0:∀d s',H d=none->d≠e->Inv X pins σ (upd (upd H d (.own e)) e (.ext (fQ C e a0 d [(f,y)]))) s'->Q () s'):Rc (model X.prog X.w) A (setAttr (.ref e) f u) Q E s:=by
 obtain⟨⟨o,q1,q2,q3,q6⟩,_,_⟩:=(show bM X.prog X.w H s.heap e (.ext (oE C e a0))from I.hok e _ e1)
 refine zq Z I.kIn q1 q2 q3 q6 n λh' n2 s2=>h0 s.heap.objs.size _ (I.hok.fresh (Nt _)) (Ne.symm (Nc (Qm q1))) ?_;have ne:e≠s.heap.objs.size:=Nc (Qm q1);have I1:=I.laid (a:=s.heap.objs.size) (o:=.own e) (h':=s.heap.push {cls:=.type "dict",data:=.dict #[]}) (t':=s.toks) (λb o z=>Qp _ z) (Nt _) ⟨_,Qq s.heap rfl⟩;have g1:(s.heap.push {cls:=.type "dict",data:=.dict #[]}).get? e=some o:=Qp _ q1;have g2:((s.heap.push {cls:=.type "dict",data:=.dict #[]}).update e λo=>{o with dict:=some s.heap.objs.size}).get? e=some {o with dict:=some s.heap.objs.size}:=Qt (λo=>{o with dict:=some s.heap.objs.size}) g1 (Obj.isFreed_of_fields (o:={o with dict:=some s.heap.objs.size}) q3);have I2:=I1.write (x:=e) (e:=e) (o:=.ext (mY C e (some s.heap.objs.size))) (t':=s.toks) (h':=(s.heap.push {cls:=.type "dict",data:=.dict #[]}).update e λo=>{o with dict:=some s.heap.objs.size}) (by rw[ak ne,e1];trivial) (.inl rfl) (λb u nb z=>(Qu _ _ _ _ nb).trans z) ⟨_,g2⟩
  ⟨⟨_,g2,q2,rfl,by unfold P4;rw[q3]⟩,⟨_,g2⟩,λ_ _ h1 h2 ⟨o,z1,z2⟩ _ k=>⟨o,k _ o (.inl rfl) z1,z2⟩⟩
 have g3:h'.get? e=some {o with dict:=some s.heap.objs.size}:=(s2.2 e ne).trans g2;have I3:=I2.write (x:=e) (e:=s.heap.objs.size) (o:=.ext (fQ C e a0 s.heap.objs.size [(f,y)])) (t':=s.toks+2) (h':=h') (by rw[aq];trivial) (.inr (by rw[ak ne.symm,aq])) (λb u nb z=>(s2.2 b nb).trans z) (let ⟨o,_,_,z,_⟩:=n2;⟨o,z⟩)
  (vx ⟨_,_,g3,q2,q3,rfl,by dsimp only;rw[ak ne.symm,ak ne.symm,aq],ne.symm,n2,λg=>?_⟩)
 ·rw[jX]at I3;exact I3
 ·rw[N3];by_cases z:g=f
  ·rw[if_pos z,z];simpa [lO]using ry
  ·rw[if_neg z,beq_eq_false_iff_ne.mpr z];trivial
theorem qA{d:QO}(I:Inv X pins σ H s)(e1:H e=some (.ext (fQ C e a0 d fs)))(Z:D4 X.K C)(n:cw X.K C f)(hl:fs.length<1000)(hc:(fs.map (·.1)).contains f=false)(ry:RelV y u)
  (h1:∀s',Inv X pins σ (upd H e (.ext (fQ C e a0 d (fs++[(f,y)])))) s'->Q () s'):Rc (model X.prog X.w) A (setAttr (.ref e) f u) Q E s:=by
 obtain⟨⟨o,mA,q1,q2,q3,p1,p2,p3,p4,p5⟩,_,_⟩:=(show bM X.prog X.w H s.heap e (.ext (fQ C e a0 d fs))from I.hok e _ e1)
 have wi:PySem.Within mA (fs.map (·.1)):=λg hg=>by
  cases z:fs.lookup g with
  |none=>have:=p5 g;rw[z]at this;exact absurd (lO.none_of this) hg
  |some v=>exact lookup_mem z
 refine Ab Z I.kIn q1 q2 (by unfold P4;rw[q3]) p1 p4 n wi (by rw[Ny,Rv];omega) λh' n2 s2=>h1 _ ?_;refine I.write (x:=e) (e:=d) (t':=s.toks+2) (by rw[e1];trivial) (.inr p2) (λb u nb z=>(s2.2 b nb).trans z) (let ⟨o,_,_,z,_⟩:=n2;⟨o,z⟩) (vx ⟨o,_,(s2.2 e p3.symm).trans q1,q2,q3,p1,by dsimp only;rw[ak p3];exact p2,p3,n2,λg=>?_⟩);rw[tD y hc];by_cases z:g=f
 ·rw[if_pos z,if_pos z];exact ry
 ·rw[if_neg z,if_neg z];exact p5 g
end
noncomputable def Ik(K:Pn)(ta tv:TE)(f:Str):TS:=λD σ H=>tv σ H λy H1=>ta σ H1 λx H2=>∃e C a0,x=.ref e/\D4 K C/\cw K C f/\
  ((H2 e=some (.ext (oE C e a0))/\∀ d,H2 d=none->d≠e->D.nx σ (upd (upd H2 d (.own e)) e (.ext (fQ C e a0 d [(f,y)])))) \/
   ∃d fs,H2 e=some (.ext (fQ C e a0 d fs))/\fs.length<1000/\(fs.map (·.1)).contains f=false/\D.nx σ (upd H2 e (.ext (fQ C e a0 d (fs++[(f,y)])))))
section
variable{X:Cx}
theorem vf{o value:QP}{f:Str}{pos pos':Pos}{ta tv:TE}(ha:PE X o ta)(hv:PE X value tv)(hs:swapsWith value (some (.Attribute o f pos')) pos.line X.env=pure false):PS X (.Assign [.Attribute o f pos'] value pos) (Ik X.K ta tv f):=by
 intro pins s σ H D I h;refine RD (bU (hv pins s σ H _ I h) λu s1 h1=>?_) hs;obtain⟨y,H1,I1,ry,q⟩:=h1;refine bU (ha pins s1 σ H1 _ I1 q) λov s2 h2=>?_;obtain⟨x,H2,I2,rx,e,C,a0,ex,Z,n,q⟩:=h2;subst ex;obtain rfl:ov=Value.ref e:=rx;rcases q with⟨ea,q⟩|⟨d,fs,ea,l,nc,q⟩
 ·exact rj I2 ea Z n ry λd s3 hd ne I3=>⟨σ,_,I3,q d hd ne⟩
 ·exact qA I2 ea Z n l nc ry λs3 I3=>⟨σ,_,I3,q⟩
noncomputable def vW(X:Cx)(body:cF)(fs:av)(i:Nat):Prop:=
 ∃t,pR X body t/\∀(D:Ends)(σ:St)(H:Hp)(e C a0:QO)(as:aH),σ[0]?=some (some (.ref e))->(∀j v,as[j]?=some v->σ[i+j]?=some (some v))->as.length=fs.length->D4 X.K C->(∀f∈fs,cw X.K C f)->
  (fs.length<1000->fs.Nodup->H e=some (.ext (oE C e a0))->(∀d,H d=none->d≠e->D.nx σ (upd (upd H d (.own e)) e (.ext (fQ C e a0 d (fs.zip as)))))->t D σ H)/\
  ∀d done,done.length+fs.length<1000->(done.map (·.1)++fs).Nodup->H e=some (.ext (fQ C e a0 d done))->D.nx σ (upd H e (.ext (fQ C e a0 d (done++fs.zip as))))->t D σ H
theorem El{done:List (Str×V)}{f:Str}{fs:av}(nd:(done.map (·.1)++f::fs).Nodup):(done.map (·.1)).contains f=false:=by
 rw[OO]at nd;cases hc:(done.map (·.1)).contains f with
 |false=>rfl
 |true=>exact absurd rfl (nd.2.2 f (List.contains_iff_mem.mp hc) f Ni)
theorem xM{st:QQ}{f:Str}{i:Nat}{o v:QP}{p1 p2:Pos}(hst:st=.Assign [.Attribute o f p1] v p2)(ho:PE X o (nW 0))(hv:PE X v (nW i))(hs:swapsWith v (some (.Attribute o f p1)) p2.line X.env=pure false):vW X [st] [f] i:=by
 subst hst;refine⟨_,qU (vf ho hv hs),λD σ H e C a0 as h0 ha hl Z na=>?_⟩;obtain⟨a,rfl⟩:=List.length_eq_one_iff.mp hl;exact⟨λ_ _ hx q=>⟨a,ha 0 a rfl,.ref e,h0,e,C,a0,rfl,Z,na f Ni,.inl ⟨hx,q⟩⟩,λd done hz nd hx q=>⟨a,ha 0 a rfl,.ref e,h0,e,C,a0,rfl,Z,na f Ni,.inr ⟨d,done,hx,by simp at hz;omega,El nd,q⟩⟩⟩
theorem mR{st:QQ}{rest:cF}{f:Str}{fs:av}{i:Nat}{o v:QP}{p1 p2:Pos}(hst:st=.Assign [.Attribute o f p1] v p2)(ho:PE X o (nW 0))(hv:PE X v (nW i))(hs:swapsWith v (some (.Attribute o f p1)) p2.line X.env=pure false)(hr:vW X rest fs (i+1)):vW X (st::rest) (f::fs) i:=by
 subst hst;obtain⟨t,ht,hq⟩:=hr;refine⟨_,oh (vf ho hv hs) ht,λD σ H e C a0 as h0 ha hl Z na=>?_⟩;cases as with
 |nil=>cases hl
 |cons a as=>
  have nx:∀j v,as[j]?=some v->σ[i+1+j]?=some (some v):=λj v z=>by
   have:=ha (j+1) v z
   rw[show i+1+j=i+(j+1)by omega];exact this
  have na':∀g∈fs,cw X.K C g:=λg hg=>na g (Nj _ hg);refine⟨λhz nd hx q=>⟨a,ha 0 a rfl,.ref e,h0,e,C,a0,rfl,Z,na f Ni,.inl ⟨hx,λd hd ne=>?_⟩⟩,λd done hz nd hx q=>⟨a,ha 0 a rfl,.ref e,h0,e,C,a0,rfl,Z,na f Ni,.inr ⟨d,done,hx,by omega,El nd,?_⟩⟩⟩
  ·exact(hq D σ _ e C a0 as h0 nx (Nat.succ.inj hl) Z na').2 d [(f,a)] (by rw[NW];rw[Nw]at hz;omega) nd aq (by rw[jX];exact q d hd ne)
  ·exact(hq D σ _ e C a0 as h0 nx (Nat.succ.inj hl) Z na').2 d (done++[(f,a)]) (by rw[NR,NW];rw[Nw]at hz;omega) (by rw[Oo,Ow];exact nd) aq (by rw[jX,Ow];exact q)
end
noncomputable def Lq(C:QO)(fs:av):Sp:=λvs H Q _=>∃e a0 as,vs=.ref e::as/\as.length=fs.length/\H e=some (.ext (oE C e a0))/\∀d,H d=none->d≠e->Q .non (upd (upd H d (.own e)) e (.ext (fQ C e a0 d (fs.zip as))))
structure Jf(K:Pn)(C f:QO):Prop where
 cls:∃nm q N bs bm hdct sn sub ab col dd k0 k1 k2 k3 k5,∀h,K.In h->h.get? C=some (excClassObj nm q C N bs bm hdct sn sub ab col dd k0 k1 k2 k3 k5 "ValueError.__new__")/\(∃mN,h.Ns N mN/\mN "__init__"=some (.ref f))/\OwnTail h Br bm
 fn:PF K (.ref f)=some (.type "function")
 st:D4 K C
 kp:PQ K (.ref C)=true
noncomputable def uh(K:Pn)(C:QO)(f:QO):Bool:=match K.lookup C with
 |some ⟨.type "type",_,.cls k,slots⟩=>(match k.mro,slots.toList with
  |.ref c0::tl,[_,_,_,_,some (.builtin j),_]=>c0==C&&(j=="ValueError.__new__"&&(!k.hasDel&&(PySem.W.tailIn K Br tl&&(PySem.W.nsOkIn K k.ns&&P0 K k.ns "__init__"==some (some (.ref f))))))
  |_,_=>false)
 |_=>false
theorem HW{K:Pn}{h:QV}{N:QO}{m:bF}{n:Str}{v:QM}(X:K.In h)(G:h.Ns N m)(e:P0 K N n=some (some v)):m n=some v:=by
 obtain⟨o,es,ep,g1,g2,_,g3⟩:=G;unfold P0 at e;split at e
 ·rename_i look;have z:=X _ _ look;rw[g1]at z;cases z;cases g2;rw[<-g3];unfold nsFind findBy;rw[<-Array.find?_toList];split at e
  ·rename_i y;rw[y];cases e;rfl
  ·split at e<;>cases e
 ·cases e
theorem GQ{K:Pn}{C f:QO}(q:uh K C f=true)(fn:PF K (.ref f)=some (.type "function"))(st:D4 K C)(kp:PQ K (.ref C)=true):Jf K C f:=by
 refine⟨?_,fn,st,kp⟩;unfold uh at q;split at q
 ·rename_i od data slots look;split at q
  ·rename_i C0 tl s0 s1 s2 s3 nid s5 e1 e2;simp only[NU,beq_iff_eq,OX]at q;obtain⟨y1,y2,y3,y4,y5,y6⟩:=q;subst y1 y2;obtain⟨d1,d2,d3,d4,d5,d6,d7,d8,d9,d10,d11⟩:=data;dsimp only at e1 y3 y5 y6;subst e1 y3;have hs:slots=#[s0,s1,s2,s3,some (.builtin "ValueError.__new__"),s5]:=by
    cases slots with
    |mk l=>rw[show l=_ from e2]
   subst hs;exact⟨d1,d5,d4,d2,tl,d6,d7,d8,d9,d10,od,s0,s1,s2,s3,s5,λh X=>⟨X _ _ look,⟨_,.of_isNs (Qf X y5),HW X (.of_isNs (Qf X y5)) y6⟩,Qg X y4⟩⟩
  ·cases q
 ·cases q
noncomputable def mD(P:QT)(w:QS)(K:Pn)(mg:bF)(base:QV)(k:Nat)(c:Str)(ps fs:av):Prop:=
 ∃C f fd,clsAt K c C/\Jf K C f/\eW P w K mg base (jM P w) k f fd ps (Lq C fs)/\Binds K fd ps []/\mg c=some (.ref C)
theorem uw{P:QT}{w:QS}{K:Pn}{mg:bF}{base:QV}{k:Nat}{ps:av}{c qual:Str}{C f:QO}{fd:RH}{st:QQ}{fs:av}(h1:clsAt K c C)(hM:Jf K C f)(na:∀g∈fs,cw K C g)(F:ow K "__init__" qual st f fd)(b:Binds K fd ps [])(hmg:mg c=some (.ref C))(SC:bX ps ps (aF st))(hps:ps.length=fs.length+1)(hnd:fs.Nodup)(hlen:fs.length<1000)
  (hb:∀(cdv:QM)(A:QZ)(outer:List Env)(s:QR)(H:Hp)(E:XK),vW (ir HD P w K mg base ps qual (aF st) f cdv A outer s H E).nox (cU st) fs 1):mD P w K mg base (k+1) c ps fs:=by
 refine⟨C,f,fd,h1,hM,?_,b,hmg⟩;refine eW.any (F.ok SC (λvs H Q E h=>?_) λcdv A outer s H vs Q E hr h=>?_)
 ·obtain⟨e,a0,as,rfl,hl,_⟩:=h;rw[Nw,hl,hps]
 ·obtain⟨t,ht,hq⟩:=hb cdv A outer s H E;obtain⟨e,a0,as,rfl,hl,hx,q⟩:=h;have hst:L2.start ps (.ref e::as)=(.ref e::as).map some:=by
   unfold L2.start;rw[Nw,hl,hps,OQ,OS,ND]
  refine⟨t,ht,(hq _ _ H e C a0 as (by rw[hst];rfl) (λj v z=>?_) hl hM.st na).1 hlen hnd hx q⟩;rw[hst,Nat.add_comm,Nx,OC,NP,z];rfl
theorem uT{M:Rb}{A:QZ}{E:aW}{env:Env}{nm q:Str}{C N:QO}{bs bm:aS}{hdct:Bool}{sn:av}{sub:aS}{ab:Bool}{col:Option Bool}{dd:Option QO}{k0 k1 k2 k3 k5:gZ}{newId:String}{s:QR}{x:Sem QM}{Q:Flow->eI}(hb:bm.contains (.type "BaseException")=true)(hh:A.handled=none)
  (h:Rc M A x (λv s₁=>∃e t dx sl,v=.ref e/\s₁.heap.get? C=some (excClassObj nm q C N bs bm hdct sn sub ab col dd k0 k1 k2 k3 k5 newId)/\s₁.heap.get? e=some ⟨.ref C,dx,Ji t,sl⟩/\E (.ref e) s₁) E s):Rc M A (raiseStmt env (some x) none) Q E s:=by
 have hc:(Value.ref C::bm).contains (.type "BaseException")=true:=by rw[OL,hb,Bool.or_true]
 unfold raiseStmt;refine Rq (Rg h (λv s₁ h₁=>?_) λ_ _ x=>x);obtain⟨e,t,dx,sl,rfl,hC,he,hE⟩:=h₁;obtain⟨hp,g,d,tk,os⟩:=s₁
 repeat (first|with_reducible refine Sq he ?_|with_reducible refine Sq hC ?_|(with_reducible refine wpAny_isSubtype_exc hC ?_;rw[hc])|wp_step)
 exact wpAny_raiseNew_none hh hE
section
variable{X:Cx}{pins:aM}{σ:St}{H:Hp}{s:QR}
theorem adopt{e:QO}{ob:HO}(I:Inv X pins σ H s)(hn:H e=none)(h0:X.s₀.heap.get? e=none)(hL:e≠X.env.locals)(hcl:∀x,X.env.cells.lookup x≠some e)(hp:∀p∈X.pn++pins,p.1≠e)(new:bM X.prog X.w (upd H e ob) s.heap e ob):Inv X pins σ (upd H e ob) s:=by
 have ne:∀b u,H b=some u->b≠e:=λb u q z=>by rw[z,hn]at q;cases q
 have U:=I.base;refine⟨I.ok,I.os,I.bare,⟨U.keep,U.slot,λb o q n nx=>?_,U.there,λb xs q=>?_,λb o u q=>?_,λb ps q=>?_⟩,I.loc,I.cell,?_,λx c q=>?_,λp q=>?_,λa o q=>?_,I.len⟩
 ·rw[ak λz=>by rw[z,h0]at q;cases q];exact U.free b o q n nx
 ·have:=U.tups b xs q;rw[ak (ne _ _ this)];exact this
 ·have:=U.frzs b o u q;rw[ak (ne _ _ this)];exact this
 ·obtain⟨more,z⟩:=U.tbls b ps q;exact⟨more,by rw[ak (ne _ _ z)];exact z⟩
 ·rw[ak hL.symm];exact I.free
 ·rw[ak λz=>hcl x (by rw[<-z];exact q)];exact I.freeC x c q
 ·obtain⟨a1,a2,a3⟩:=I.pin p q;exact⟨a1,by rw[ak (hp p q)];exact a2,a3⟩
 ·by_cases z:a=e
  ·subst z;rw[aq]at q;cases q;exact new
  ·rw[ak z]at q;exact(I.hok a o q).stay (λb u _ q=>q) (λb q=>by rw[ak (ne _ _ q)];exact q) λb xs q=>by rw[ak (ne _ _ q)];exact q
theorem ph{e:QO}(I:Inv X pins σ H s)(hx:X.ex=[])(n:s.heap.get? e=none):H e=none/\X.s₀.heap.get? e=none/\e≠X.env.locals/\(∀x,X.env.cells.lookup x≠some e)/\∀p∈X.pn++pins,p.1≠e:=by
 refine⟨?_,?_,λz=>?_,λx q=>?_,λp hp z=>?_⟩
 ·cases q:H e with
  |none=>rfl
  |some ob=>obtain⟨o,z⟩:=uV (I.hok e ob q);rw[n]at z;cases z
 ·cases q:X.s₀.heap.get? e with
  |none=>rfl
  |some o=>obtain⟨o',z⟩:=I.base.there e o q (by rw[hx];simp);rw[n]at z;cases z
 ·obtain⟨m,⟨o,es,ep,e2,_⟩,_⟩:=I.loc;rw[<-z,n]at e2;cases e2
 ·obtain⟨v,o,z,_⟩:=I.cell x e q;rw[n]at z;cases z
 ·have:=(I.pin p hp).1
  rw[z,n]at this;cases this
theorem Ce{s3:QR}{C e a0 d:QO}{fs:List (Str×V)}(I:Inv X pins σ H s)(hx:X.ex=[])(n:s.heap.get? e=none)(hd:H d=none)(I3:Inv X pins σ (upd (upd H d (.own e)) e (.ext (fQ C e a0 d fs))) s3):
  Inv X pins σ (upd H d (.xd fs)) s3/\tT X (upd H d (.xd fs)) s3 e C (some d)/\∃sl,s3.heap.get? e=some ⟨.ref C,some d,Ji a0,sl⟩:=by
 obtain⟨hn,h0,hL,hcl,hp⟩:=ph I hx n;obtain⟨⟨o,mA,q1,q2,q3,q4,q5,q6,q7,q8⟩,_,_⟩:=(show bM X.prog X.w _ s3.heap e (.ext (fQ C e a0 d fs))from I3.hok e _ aq)
 have He:upd H d (.xd fs) e=none:=by rw[ak q6.symm];exact hn
 have d3:upd (upd H d (.own e)) e (.ext (fQ C e a0 d fs)) d=some (.own e):=by rw[ak q6,aq]
 have away:∀b,b≠e->b≠d->upd H d (.xd fs) b=upd (upd H d (.own e)) e (.ext (fQ C e a0 d fs)) b:=λb n1 n2=>by rw[ak n2,ak n1,ak n2]
 have none3:∀b,upd (upd H d (.own e)) e (.ext (fQ C e a0 d fs)) b=none->b≠e/\b≠d:=λb z=>⟨λw=>(by rw[w,aq]at z;cases z),λw=>(by rw[w,d3]at z;cases z)⟩
 have some3:∀b u,upd (upd H d (.own e)) e (.ext (fQ C e a0 d fs)) b=some u->(∀φ,u≠.ext φ)->(∀y,u≠.own y)->upd H d (.xd fs) b=some u:=λb u z n1 n2=>by
  rw[away b (λw=>by rw[w,aq]at z;cases z;exact n1 _ rfl) λw=>by rw[w,d3]at z;cases z;exact n2 _ rfl];exact z
 have U:=I3.base;have I4:Inv X pins σ (upd H d (.xd fs)) s3:=by
  refine⟨I3.ok,I3.os,I3.bare,⟨U.keep,U.slot,λb o q n nx=>?_,U.there,λb xs q=>?_,λb o u q=>?_,λb ps q=>?_⟩,I3.loc,I3.cell,?_,λx c q=>?_,λp q=>?_,λa o q=>?_,I3.len⟩
  ·have z:=U.free b o q n nx;obtain⟨n1,n2⟩:=none3 b z;rw[away b n1 n2];exact z
  ·exact some3 _ _ (U.tups b xs q) (λ_ z=>nomatch z) λ_ z=>nomatch z
  ·exact some3 _ _ (U.frzs b o u q) (λ_ z=>nomatch z) λ_ z=>nomatch z
  ·obtain⟨more,z⟩:=U.tbls b ps q;exact⟨more,some3 _ _ z (λ_ z=>nomatch z) λ_ z=>nomatch z⟩
  ·obtain⟨n1,n2⟩:=none3 _ I3.free;rw[away _ n1 n2];exact I3.free
  ·obtain⟨n1,n2⟩:=none3 _ (I3.freeC x c q);rw[away _ n1 n2];exact I3.freeC x c q
  ·obtain⟨a1,a2,a3⟩:=I3.pin p q;obtain⟨n1,n2⟩:=none3 _ a2;exact⟨a1,by rw[away _ n1 n2];exact a2,a3⟩
  ·by_cases z:a=d
   ·subst z;rw[aq]at q;cases q;exact⟨mA,q7,q8⟩
   ·have ae:a≠e:=λw=>by rw[w,He]at q;cases q
    rw[away a ae z]at q;refine(I3.hok a o q).stay (λb u _ q=>q) (λb w=>?_) λb xs w=>some3 _ _ w (λ_ z=>nomatch z) λ_ z=>nomatch z;rw[away b (λy=>by rw[y,aq]at w;cases w) λy=>by rw[y,d3]at w;cases w;exact ae rfl];exact w
 obtain⟨oc,odi,oda,osl⟩:=o;dsimp only at q2 q3 q4;subst q2 q3 q4;have nk:¬gM X (upd H d (.xd fs)) e:=λz=>by
  rcases z with⟨⟨o,z⟩,_⟩|z|⟨o,z⟩|⟨x,z⟩
  ·rw[h0]at z;cases z
  ·exact z He
  ·exact hp _ (Nk _ z) rfl
  ·exact hcl x z
 refine⟨I4,⟨λoe z=>by rw[q1]at z;cases z;rfl,jj s3.heap (λb=>if b∈frs X.stack\/b=e then some (.tup [])else none),.ref a0,λb o z=>(jQ z).1,?_,gD (λ_ _ z=>z) (λb hb=>?_) I4.stack,.inr ⟨_,_,q1,rfl,rfl,rfl,rfl⟩,λb o z kb nf=>nV z (if_neg ?_)⟩,osl,q1⟩
 ·cases z:(jj s3.heap (λb=>if b∈frs X.stack\/b=e then some (.tup [])else none)).get? e with
  |none=>rfl
  |some o=>have:=(jQ z).2;rw[if_pos (.inr rfl)]at this;cases this
 ·cases z:(jj s3.heap (λb=>if b∈frs X.stack\/b=e then some (.tup [])else none)).get? b with
  |none=>rfl
  |some o=>have:=(jQ z).2;rw[if_pos (.inl hb)]at this;cases this
 ·rintro(w|w)
  ·exact nf w
  ·exact nk (w ▸ kb)
end
noncomputable def qJ(c:Str)(fs:av)(f:aQ):bw:=λk ρ=>kZ (f ρ) k ρ λds=>if small ds.length&&ds.length==fs.length then k.ex ⟨c,fs,ds⟩ ρ else un
end TG
namespace TG
open PySem PySem.Spec L2
variable[aw]
end TG
namespace TG
open PySem PySem.Spec L2
variable[aw]
end TG
namespace L2
open PySem PySem.Spec PyProof.Rows
end L2
namespace TG
open PySem PySem.Spec L2
variable[aw]
end TG
namespace TG
open PySem PySem.Spec PySem.Calls L2
variable[aw]
theorem tU{K:Pn}{H:Hp}{v:V}{al:List (Key×D)}(h:bJ K H (cN al) v):
  ∃a,v=.ref a/\((∃kvs:List (Key×V),H a=some (.dK kvs)/\kvs.map (·.1)=al.map (·.1)/\aG K H (al.map (·.2)) (kvs.map (·.2)))\/(H a=some (.dT [])/\al=[])):=by
 obtain⟨a,vs,e0,h2,h3⟩:=IJ.mp h;refine⟨a,e0,?_⟩;rcases h3 with⟨kvs,e,e1,e2⟩|⟨kvs,e,e1,e2⟩|⟨kvs,o,e,e1,e2⟩
 ·refine .inl ⟨kvs,e,?_,by rw[<-e2];exact h2⟩;exact(p7 (ks:=kvs.map (·.1)) (by rw[OW];exact e1)).symm
 ·cases kvs with
  |nil=>exact .inr ⟨e,by simpa using e1⟩
  |cons p r=>
   cases al with
   |nil=>cases e1
   |cons q r'=>
    have e1:bC q.1::jq r'=D.tup (p.1.map bC)::r.map (λp=>D.tup (p.1.map bC)):=e1;injection e1 with e1 _;rcases q with⟨k,v⟩
    cases k<;>cases e1
 ·cases al with
  |nil=>cases e1
  |cons q r=>
   have e1:bC q.1::jq r=D.non::kvs.map (λp=>D.tup (p.1.map bC)):=e1;injection e1 with e1 _;rcases q with⟨k,v⟩
   cases k<;>cases e1
noncomputable def eB(al:List (Key×D))(q:Key):aY:=(al.find? λp=>decide (p.1=q)).map (·.2)
theorem mZ{K:Pn}{H:Hp}(q:Key):∀{kvs:List (Key×V)}{al:List (Key×D)},kvs.map (·.1)=al.map (·.1)->aG K H (al.map (·.2)) (kvs.map (·.2))->(gr kvs q=none/\eB al q=none)\/∃v d,gr kvs q=some v/\eB al q=some d/\bJ K H d v
 |[],[],_,_=>.inl ⟨rfl,rfl⟩
 |p::r,a::al,e,h=>by
  rw[Nx,Nx]at e;injection e with e1 e2;rw[Nx,Nx,aI]at h;obtain⟨v,ws,h0,h1,h2⟩:=h;injection h0 with h0 h0';subst h0 h0';by_cases z:p.1=q
  ·refine .inr ⟨p.2,a.2,iz z,?_,h1⟩;unfold eB;rw[O3 (by rw[<-e1];simpa using z)];rfl
  ·have ih:=mZ q e2 h2;have g:eB (a::al) q=eB al q:=by
    unfold eB;rw[O5 (by rw[<-e1];simpa using z)]
   rw[iG z,g];exact ih
 |[],_::_,e,_=>by cases e
 |_::_,[],e,_=>by cases e
noncomputable def Ek(dd k:D):Option (aY):=match dd with
 |.dct ks ds=>(kq ks ds).bind λal=>(keyOf k).map λq=>eB al q
 |_=>none
noncomputable def pz(dd k:D):aY:=(Ek dd k).bind id
noncomputable def eN(x y:D):aY:=(Ek y x).map λo=>.bl (!o.isSome)
theorem tu{dd k:D}{o:aY}(h:Ek dd k=some o):∃al q,dd=cN al/\k=bC q/\o=eB al q:=by
 unfold Ek at h;split at h
 ·rename_i ks ds;cases e1:kq ks ds with
  |none=>rw[e1]at h;cases h
  |some al=>
   rw[e1]at h;cases e2:keyOf k with
   |none=>rw[e2]at h;cases h
   |some q=>
    rw[e2]at h;cases h;obtain⟨h1,h2⟩:=tS e1;exact⟨al,q,by rw[h1,h2],iC e2,rfl⟩
 ·cases h
theorem EL{X:Cx}{pins:aM}{σ:St}{H:Hp}{s:QR}{O:aD}{al:List (Key×D)}{q:Key}{x y:V}(I:Inv X pins σ H s)(hb:bJ X.K (hid H O) (cN al) y)(ha:bJ X.K (hid H O) (bC q) x):
  ∃(a:QO)(o:Option V)(H':Hp),y=.ref a/\Inv X pins σ H' s/\qR H' a x o/\(∀s',Inv X pins σ H' s'->Inv X pins σ H s')/\((o=none/\eB al q=none)\/∃v d,o=some v/\eB al q=some d/\bJ X.K (hid H O) d v):=by
 obtain⟨a,ey,hh⟩:=tU hb;have ex:=iS ha;subst ex;rcases hh with⟨kvs,k1,k2,k3⟩|⟨k1,rfl⟩
 ·exact⟨a,gr kvs q,H,ey,I,qR.k ((ax H O) _ _ k1),λs' z=>z,mZ q k2 k3⟩
 ·have k1':=(ax H O) _ _ k1;refine⟨a,gr [] q,upd H a (.dK []),ey,HV I k1',qR.k aq,λs' I4=>?_,.inl ⟨rfl,rfl⟩⟩;have I5:=Ih I4 aq;rw[tG k1']at I5;exact I5
section
variable{X:Cx}
theorem pf(hu:X.A.units+64<RG):ib X (Rj .NotIn) (rD X.K eN):=by
 rintro pins s σ H x y u v Q I rx ry ⟨O,a,b,d,hO,ha,hb,hg,q⟩;unfold eN at hg;cases e:Ek b a with
 |none=>rw[e]at hg;cases hg
 |some o=>
  rw[e]at hg;cases hg;obtain⟨al,qk,rfl,rfl,rfl⟩:=tu e;obtain⟨p,o,H',ey,I',g,bk,z⟩:=EL I hb ha;subst ey;cases ry;refine Cg ‹0› I' g rx λs3 I3=>⟨.bl (!o.isSome),H,bk s3 I3,rfl,q _ H (aP.refl H) (gF.mpr ?_)⟩
  rcases z with⟨z1,z2⟩|⟨v,d,z1,z2,_⟩<;>rw[z1,z2]<;>rfl
end
noncomputable def xC:List (FX×FX)->ao->R (List (D×D))
 |[],_=>.ok []
 |(fk,fv)::r,ρ=>(fk ρ).bind λk=>(fv ρ).bind λv=>(xC r ρ).bind λps=>.ok ((k,v)::ps)
noncomputable def gQ:List (D×D)->Option (List (Key×D))
 |[]=>some []
 |(k,v)::r=>(keyOf k).bind λk=>(gQ r).map ((k,v)::·)
noncomputable def iJ(al:List (Key×D)):List (Key×D):=al.foldl (λm p=>lj m p.1 p.2) []
noncomputable def jn(ps:List (D×D)):aY:=(gQ ps).bind λal=>if decide (al.length<=15)then some (cN (iJ al))else none
noncomputable def eJ(fs:List (FX×FX)):FX:=λρ=>(Bt (xC fs ρ)).bind λps=>rO (jn ps)
theorem la:∀{ps:List (D×D)}{al:List (Key×D)},gQ ps=some al->ps=al.map λp=>(bC p.1,p.2)
 |[],_,h=>by cases h;rfl
 |(k,v)::r,al,h=>by
  unfold gQ at h;cases e1:keyOf k with
  |none=>rw[e1]at h;cases h
  |some k'=>
   rw[e1]at h;cases e2:gQ r with
   |none=>rw[e2]at h;cases h
   |some al'=>
    rw[e2]at h;cases h;rw[Nx,la e2,iC e1]
section
variable{X:Cx}
theorem ua{σ:St}{O:aD}{ρ:ao}:∀{fs:List (FX×FX)}{ps:List (D×D)}{H:Hp}{Q:List (V×V)->Hp->Prop},xC fs ρ=.ok ps->cM X.K O H ρ σ->
  (∀(vs:List (V×V)) H',aP H H'->aG X.K (hid H' O) (ps.map (·.1)) (vs.map (·.1))->aG X.K (hid H' O) (ps.map (·.2)) (vs.map (·.2))->Q vs H')->qz (fs.map λp=>(tF X p.1,tF X p.2)) σ H Q
 |[],ps,H,Q,e,E,q=>by
  cases e;exact q [] H (aP.refl H) (bB.mpr rfl) (bB.mpr rfl)
 |(fk,fv)::r,ps,H,Q,e,E,q=>by
  unfold xC at e;cases e1:fk ρ with
  |error z=>rw[e1]at e;cases e
  |ok k=>
   rw[e1]at e;have e:(fv ρ).bind (λv=>(xC r ρ).bind λps=>.ok ((k,v)::ps))=.ok ps:=e;cases e2:fv ρ with
   |error z=>rw[e2]at e;cases e
   |ok v=>
    rw[e2]at e;have e:(xC r ρ).bind (λps=>(.ok ((k,v)::ps):R (List (D×D))))=.ok ps:=e;cases e3:xC r ρ with
    |error z=>rw[e3]at e;cases e
    |ok ps'=>
     rw[e3]at e;cases e;refine⟨O,ρ,E,?_⟩;show dJ X σ O H (fk ρ) _;rw[e1];intro x H1 s1 d1;refine⟨O,ρ,E.same s1,?_⟩;show dJ X σ O H1 (fv ρ) _;rw[e2];intro y H2 s2 d2;refine ua e3 ((E.same s1).same s2) λvs H3 s3 d3 d4=>q ((x,y)::vs) H3 ((s1.trans s2).trans s3) ?_ ?_
     ·exact aI.mpr ⟨x,_,rfl,d1.mono (bn (s2.trans s3)),d3⟩
     ·exact aI.mpr ⟨y,_,rfl,d2.mono (bn s3),d4⟩
theorem iy{K:Pn}{H:Hp}:∀{al:List (Key×D)}{vs:List (V×V)},aG K H ((al.map λp=>(bC p.1,p.2)).map (·.1)) (vs.map (·.1))->aG K H ((al.map λp=>(bC p.1,p.2)).map (·.2)) (vs.map (·.2))->
  ∃kvs:List (Key×V),vs=kvs.map (λkv=>(kV kv.1,kv.2))/\kvs.map (·.1)=al.map (·.1)/\aG K H (al.map (·.2)) (kvs.map (·.2))
 |[],[],_,_=>⟨[],rfl,rfl,bB.mpr rfl⟩
 |[],_::_,h,_=>by rw[NX,NX,bB]at h;cases h
 |_::_,[],h,_=>by
  rw[Nx,Nx,aI]at h;obtain⟨_,_,e,_⟩:=h;cases e
 |p::al,w::vs,h1,h2=>by
  rw[Nx,Nx,Nx,aI]at h1 h2;obtain⟨a,as,ea,ha,has⟩:=h1;obtain⟨b,bs,eb,hb,hbs⟩:=h2;injection ea with ea eas;injection eb with eb ebs;subst ea eas eb ebs;obtain⟨kvs,e1,e2,e3⟩:=iy has hbs;refine⟨(p.1,w.2)::kvs,?_,by rw[Nx,Nx,e2],aI.mpr ⟨w.2,_,rfl,hb,e3⟩⟩;rw[Nx,e1,<-iS ha]
theorem jI{K:Pn}{H:Hp}:∀{al:List (Key×D)}{kvs:List (Key×V)}{al0:List (Key×D)}{kvs0:List (Key×V)},kvs.map (·.1)=al.map (·.1)->aG K H (al.map (·.2)) (kvs.map (·.2))->kvs0.map (·.1)=al0.map (·.1)->aG K H (al0.map (·.2)) (kvs0.map (·.2))->
  (kvs.foldl (λacc kv=>putK acc kv.1 kv.2) kvs0).map (·.1)=(al.foldl (λm p=>lj m p.1 p.2) al0).map (·.1)/\aG K H ((al.foldl (λm p=>lj m p.1 p.2) al0).map (·.2)) ((kvs.foldl (λacc kv=>putK acc kv.1 kv.2) kvs0).map (·.2))
 |[],[],_,_,_,_,e0,h0=>⟨e0,h0⟩
 |p::al,kv::kvs,al0,kvs0,e,h,e0,h0=>by
  rw[Nx,Nx]at e;injection e with e1 e2;rw[Nx,Nx,aI]at h;obtain⟨v,ws,h1,h2,h3⟩:=h;injection h1 with h1 h1';subst h1 h1';rw[O0,O0];rw[e1];exact jI e2 h3 (yo e0 p.1 kv.2 p.2) (As h2 e0 h0)
 |[],_::_,_,_,e,_,_,_=>by cases e
 |_::_,[],_,_,e,_,_,_=>by cases e
theorem mQ{pos:Pos}{keys:List (Option QP)}{values:aR}{fs:List (FX×FX)}(h:GZ X pos keys values (fs.map λp=>(tF X p.1,tF X p.2)))(hall:keys.all (·.isSome)=true)(hl:keys.length=values.length)(h0:keys≠[])(h15:keys.length<=15):
  FE X (.Dict keys values pos) (eJ fs):=PE.weak (vI h hall hl h0 h15) λσ H Q ⟨O,ρ,E,hF⟩ p hp=>by
 unfold eJ at hF;cases e:xC fs ρ with
 |error z=>rw[e]at hF;exact hF.elim
 |ok ps=>
  rw[e]at hF;obtain⟨d,hg,q⟩:=dJ.rO (show dJ X σ O H (rO (jn ps)) _ from hF);unfold jn at hg;cases ek:gQ ps with
  |none=>rw[ek]at hg;cases hg
  |some al=>
   rw[ek]at hg;obtain⟨z15,hd⟩:=bb (show(if decide (al.length<=15)then some (cN (iJ al))else none)=some d from hg);have z15:=of_decide_eq_true z15;subst hd;have e0:=la ek;subst e0;refine ua e (E.hideNew (o:=.dK []) trivial hp) λvs H2 s2 d1 d2=>?_;obtain⟨kvs,e1,e2,e3⟩:=iy d1 d2;have hp2:H2 p=some (.dK []):=s2 _ _ aq;have pO:p∉O:=E.all.not hp;refine⟨hp2,kvs,e1,?_,q _ _ ?_ ?_⟩
   ·have:=congrArg List.length e2
    rw[Ny,Ny]at this;omega
   ·intro b u hb;have ne:=aK hb hp;rw[ak ne];exact s2 b u (by rw[ak ne];exact hb)
   ·have sm:aP (hid H2 (p::O)) (hid (upd H2 p (.dK (fw [] kvs))) O):=(iW Ni).trans (gx λa ha=>Nj _ ha);obtain⟨f1,f2⟩:=jI (al0:=[]) (kvs0:=[]) e2 (e3.mono sm) rfl (bB.mpr rfl);refine IJ.mpr ⟨p,_,rfl,f2,.inl ⟨fw [] kvs,by rw[fT pO];exact aq,?_,rfl⟩⟩;exact rH f1
end
end TG
namespace TG
open PySem PySem.Spec PySem.Calls L2
variable[aw]
end TG
namespace TG
open PySem PySem.Spec L2
variable[aw]
end TG
namespace TG
open PySem PySem.Spec PySem.Calls L2
variable[aw]
section
variable{X:Cx}{pos:Pos}
theorem xI{pos:Pos}{keys:List (Option QP)}{values:aR}{fs:List (FX×FX)}(h:GZ X pos keys values (fs.map λp=>(tF X p.1,tF X p.2)))(hall:keys.all (·.isSome)=true)(hl:keys.length=values.length)(h0:keys≠[])(h15:keys.length<=15):
  FN X (.Dict keys values pos) (eJ fs):=PE.weak (vI h hall hl h0 h15) λσ H Q ⟨O,ρ,E,hF⟩ p hp=>by
 unfold eJ at hF;cases e:xC fs ρ with
 |error z=>rw[e]at hF;exact hF.elim
 |ok ps=>
  rw[e]at hF;obtain⟨d,hg,q⟩:=dJ.rO (show dJ X σ O H (rO (jn ps)) _ from hF);unfold jn at hg;cases ek:gQ ps with
  |none=>rw[ek]at hg;cases hg
  |some al=>
   rw[ek]at hg;obtain⟨z15,hd⟩:=bb (show(if decide (al.length<=15)then some (cN (iJ al))else none)=some d from hg);have z15:=of_decide_eq_true z15;subst hd;have e0:=la ek;subst e0;refine ua e (E.hideNew (o:=.dK []) trivial hp) λvs H2 s2 d1 d2=>?_;obtain⟨kvs,e1,e2,e3⟩:=iy d1 d2;have hp2:H2 p=some (.dK []):=s2 _ _ aq;refine⟨hp2,kvs,e1,?_,q p _ ?_ hp ⟨_,aq,trivial⟩ ?_⟩
   ·have:=congrArg List.length e2
    rw[Ny,Ny]at this;omega
   ·intro b u hb;have ne:=aK hb hp;rw[ak ne];exact s2 b u (by rw[ak ne];exact hb)
   ·have sm:aP (hid H2 (p::O)) (hid (upd H2 p (.dK (fw [] kvs))) (p::O)):=iW Ni;obtain⟨f1,f2⟩:=jI (al0:=[]) (kvs0:=[]) e2 (e3.mono sm) rfl (bB.mpr rfl);exact⟨_,_,aq,f2,.inl ⟨fw [] kvs,rfl,rH f1,rfl⟩⟩
end
end TG
namespace TG
open PySem PySem.Spec PySem.Calls L2
variable[aw]
end TG
namespace L2
open PySem PySem.Spec PyProof.Rows
end L2
namespace TG
open PySem PySem.Spec L2
variable[aw]
end TG
namespace TG
open PySem PySem.Spec PySem.Calls L2
variable[aw]
section
variable{prog:QT}{w:QS}{A:QZ}{E:aW}{K:Type}[DecidableEq K]{knd:KeyKind prog w K}{d:QO}{h0:QV}
theorem ue(xs:List (K×QM))(k:K)(v:QM):(stored xs k v).length<=xs.length+1:=by
 unfold stored;split
 ·rw[Ny];omega
 ·simp
theorem lA{h h':QV}{xs:List (K×QM)}(x:h.DictOf knd d xs)(k:∀o,h.get? d=some o->h'.get? d=some o):h'.DictOf knd d xs:=by
 obtain⟨o,es,ep,h1,r⟩:=x;exact⟨o,es,ep,k o h1,r⟩
theorem uL{R:Rz->eI}{I:QO}{fp wr:aD}{P:Nat->QM->Prop}{St:Nat->QV->Prop}{L:List (K×QM×QM)}(W:Walks prog w A.in1 I fp wr L.length P St)(hwr:∀b∈wr,h0.get? b=none)(hdn:h0.get? d=none)(hdf:d∉fp)
  (hn:L.length<=QW) (hP:∀i v,P i v->∃x t,L[i]?=some x/\v=.ref t/\∀h,Keeps h0 h->h.IsTuple t #[x.2.1,x.2.2]) (hK:∀x∈L,knd.is x.1 x.2.1=true) (res:QM):
  ∀(m i:Nat)(s:QR)(xs:List (K×QM))(j:Int)(u:Tok),i+m=L.length->St i s.heap->Keeps h0 s.heap->s.heap.DictOf knd d xs->xs.length<=i->
  (∀h' tk,Keeps h0 h'->h'.DictOf knd d ((L.drop i).foldl (λxs x=>stored xs x.1 x.2.2) xs)->R (.ok (.ret res)) {s with heap:=h',toks:=tk})->
  RB (model prog w) A (.builtin "dict.update.loop" ⟨[.ref d,.ref I,.int j u,res],[]⟩) R s:=by
 have hdw:d∉wr:=λh=>hdf (W.sub _ h);intro m
 induction m with
 |zero=>
  intro i s xs j u hi st kp di hl hR;have hin:i=L.length:=by omega
  subst hin;refine Si jF ?_;rw[Around.under_plainId dZ _];show Rc _ A.in1 (pyNext (.ref I) >>= _) _ _ s;refine Rq (W.done s _ _ st λh' tk hk=>?_);refine Rq (Rp (Rp ?_))
  have:=hR h' tk (λb o q=>hk b o (λz=>by have:=hwr b z;rw[q]at this;cases this) (kp b o q)) (by
   rw[Ox,OZ];exact lA di λo q=>hk d o hdw q)
  exact this
 |succ m ih=>
  intro i s xs j u hi st kp di hl hR;refine Si jF ?_;rw[Around.under_plainId dZ _];show Rc _ A.in1 (pyNext (.ref I) >>= _) _ _ s;refine Rq (W.item i s _ _ ‹0› st λv h' tk hv st' hk=>?_);obtain⟨x,t,hx,rfl,ht⟩:=hP i v hv;have kp':Keeps h0 h':=λb o q=>hk b o (λz=>by have:=hwr b z;rw[q]at this;cases this) (kp b o q);obtain⟨o,ho,hc,n,hd⟩:=ht h' kp';have xm:x∈L:=NQ hx;refine Rq (RU (Rq (wpAny_tryCatch ?_)));unfold Builtin.Dict.pairItems;refine Rq (RX (T:="tuple") ⟨o,ho,hc⟩ ?_);rw[if_pos (by decide)];refine Rq (R7 ho hd (Rp ?_));show Rc _ _ (holding [x.2.1,x.2.2] (dictSet d x.2.1 x.2.2)) _ _ _;have di':h'.DictOf knd d xs:=lA di λo q=>hk d o hdw q;refine RU (wpAny_dictSet_pairs (s:={s with heap:=h',toks:=tk}) (hsz:=by omega) (hK x xm) di' λh2 dd sb=>?_);have kp2:Keeps h0 h2:=λb o q=>(sb.2 b (λz=>by rw[z,hdn]at q;cases q)).trans (kp' b o q);refine Rp ⟨Sl dZ _,?_⟩;refine ih (i+1) _ (stored xs x.1 x.2.2) (j+1) 0 ‹0› (W.frame _ _ _ st' λb hb o q=>(sb.2 b (λz=>hdf (by rw[<-z];exact hb))).trans q) kp2 dd (by have:=ue xs x.1 x.2.2;omega) λh3 tk3 kp3 di3=>?_;refine hR h3 tk3 kp3 ?_;have e:L.drop i=x::L.drop (i+1):=by
   have hil:i<L.length:=(by omega);rw[Ov hil];rw[Oe hil]at hx;rw[Option.some.inj hx]
  rw[e,O0];exact di3
theorem lK{s:QR}{Q:aW}{l:QO}{o:Obj}{items:Array QM}{n:Nat}{L:List (K×QM×QM)}(ho:s.heap.get? l=some o)(hc:o.cls=.type "list")(hd:o.data=.seq items n)(hdd:o.dict=none)(hh:A.handled=none)
  (hl:items.size=L.length) (hn:L.length<=QW) (hP:∀(i:Nat) v,items[i]?=some v->∃x t,L[i]?=some x/\v=.ref t/\s.heap.IsTuple t #[x.2.1,x.2.2]) (hK:∀x∈L,knd.is x.1 x.2.1=true)
  (hQ:∀h' tk,Keeps s.heap h'->h'.DictOf knd s.heap.objs.size (L.foldl (λxs x=>stored xs x.1 x.2.2) [])->Q (.ref s.heap.objs.size) {s with heap:=h',toks:=tk}):
  Rc (model prog w) A (call (.type "dict") [.ref l]) Q E s:=by
 refine callType_codes (Q₁:=λobj s₁=>obj=.ref s.heap.objs.size/\s₁={s with heap:=s.heap.push {cls:=.type "dict",data:=.dict #[]}}) F.kt_called_dict (F.kt_typeCall_dict_1 _) F.entry_dict_init (kt_code_dict_new _ ⟨rfl,rfl⟩) ?_;rintro obj s₁ ⟨rfl,rfl⟩;have hlt:=Qm ho;have hl1:(s.heap.push {cls:=.type "dict",data:=.dict #[]}).get? l=some o:=Qp _ ho;refine⟨⟨_,Qq _ rfl,rfl⟩,F.args_dict_init_2 _ _,?_⟩;unfold Builtin.«dict.__init__»;refine Rq ?_;unfold Builtin.Dict.selfAndRest;refine Rq (wpAny_notOrdered_dict ⟨_,Qq _ rfl,rfl⟩ ?_);show Rc _ _ (pure (s.heap.objs.size,[Value.ref l])) _ _ _;refine Rp ?_;show Rc _ _ (Builtin.Dict.updateFrom "dict.__init__" s.heap.objs.size (.ref l) [] .none) _ _ _;unfold Builtin.Dict.updateFrom;refine Rq (RX (T:="list") ⟨o,hl1,hc⟩ ?_);rw[if_pos (by decide)];refine Rq (vA hl1 hc hd hdd hh λh1 tk1 k1=>?_);rw[if_pos (show(none:gZ).isNone=true from rfl)];refine Rq (R4 ?_);have hd1:h1.get? s.heap.objs.size=some {cls:=.type "dict",data:=.dict #[]}:=k1 _ _ (Qq _ rfl);have hl2:h1.IsList l items:=⟨o,k1 _ _ hl1,hc,n,hd⟩
 have dlt:=Qm hd1;refine Rq (Rr (s:={s with heap:=h1,toks:=tk1}) hl2 ?_);refine Rp ⟨Sl dZ _,?_⟩;have W:=Walks.list (prog:=prog) (w:=w) (A:=A.in1.in1) hh h1.objs.size l (Nc (N2 hlt dlt)) items;rw[hl]at W;refine uL (A:=A.in1) (knd:=knd) (h0:=s.heap) (d:=s.heap.objs.size) W (λb hb=>?_) (Qn (Nt _)) (λz=>?_) hn (λi v hv=>?_) hK .none L.length 0 _ [] 0 0 ‹0› ?_ (λb o q=>?_) ⟨_,#[],0,Qp _ hd1,⟨rfl,rfl,rfl⟩,rfl,(λe he=>by simp at he),.nil,O2⟩ (Nt _) λh' tk kp di=>?_
 ·rw[OY]at hb;subst hb;exact Qn (Ng dlt)
 ·simp only[Oz,OA,or_false]at z;rcases z with z|z
  ·exact absurd z (Nc dlt)
  ·exact absurd z.symm (Nc hlt)
 ·obtain⟨x,t,e1,e2,e3⟩:=hP i v hv;obtain⟨ob,q1,q2⟩:=e3;exact⟨x,t,e1,e2,λh kh=>⟨ob,kh _ _ q1,q2⟩⟩
 ·exact⟨⟨_,Qq _ rfl,rfl,rfl⟩,let ⟨ob,q1,q2⟩:=hl2;⟨ob,Qp _ q1,q2⟩⟩
 ·exact Qp _ (k1 _ _ (Qp _ q))
 ·exact⟨rfl,hQ h' tk kp di⟩
end
noncomputable def vJ:D->Option (Key×D)
 |.tup [k,v]=>(keyOf k).map λq=>(q,v)
 |_=>none
noncomputable def jd:List D->Option (List (Key×D))
 |[]=>some []
 |d::r=>(vJ d).bind λp=>(jd r).map (p::·)
noncomputable def kK:List D->aY
 |[.lst xs]=>(jd xs).bind λal=>if small al.length then some (cN (iJ al))else none
 |_=>none
theorem AQ{d:D}{p:Key×D}(h:vJ d=some p):d=.tup [bC p.1,p.2]:=by
 unfold vJ at h;split at h
 ·rename_i k v;cases e:keyOf k with
  |none=>rw[e]at h;cases h
  |some q=>rw[e]at h;cases h;rw[iC e]
 ·cases h
theorem mU:∀{xs:List D}{ps:List (Key×D)},jd xs=some ps->xs=ps.map λp=>.tup [bC p.1,p.2]
 |[],_,h=>by cases h;rfl
 |d::r,ps,h=>by
  unfold jd at h;cases e1:vJ d with
  |none=>rw[e1]at h;cases h
  |some p=>
   rw[e1]at h;cases e2:jd r with
   |none=>rw[e2]at h;cases h
   |some ps'=>rw[e2]at h;cases h;rw[AQ e1,mU e2];rfl
section
variable{X:Cx}
theorem mS{pins:aM}{σ:St}{H:Hp}{s:QR}{O:aD}(I:L2.Inv X pins σ H s):∀{ps:List (Key×D)}{ws:aH}{its:aS},aG X.K (hid H O) (ps.map λp=>.tup [bC p.1,p.2]) ws->Vals ws its->
  ∃(L:List (Key×QM×QM))(ks:List (Key×V)),its.length=L.length/\(∀(i:Nat)(v:QM),its[i]?=some v->∃(x:Key×QM×QM)(t:QO),L[i]?=some x/\v=.ref t/\s.heap.IsTuple t #[x.2.1,x.2.2])/\(∀x∈L,(bI X.prog X.w).is x.1 x.2.1=true)/\KV ks (L.map λx=>(x.1,x.2.2))/\ks.map (·.1)=ps.map (·.1)/\aG X.K (hid H O) (ps.map (·.2)) (ks.map (·.2))
 |[],ws,its,h,r=>by
  rw[NX,bB]at h;subst h;cases r;exact⟨[],[],rfl,(λi v e=>by simp at e),(λx hx=>nomatch hx),.nil,rfl,bB.mpr rfl⟩
 |p::ps,ws,its,h,r=>by
  rw[Nx,aI]at h;obtain⟨w,ws',rfl,h1,h2⟩:=h;cases r with
  |@cons _ u _ us ru rr=>
   obtain⟨L,ks,l1,l2,l3,l4,l5,l6⟩:=mS I h2 rr;obtain⟨t,vs,rfl,t1,t2⟩:=bQ.mp h1;obtain⟨v1,v2,rfl,d1,d2⟩:=t2.two;have e1:=iS d1;subst e1;obtain⟨its',r',⟨o,q1,q2⟩,_⟩:=I.tuple (bL (K:=X.K) (ax H O) t1);obtain⟨x1,x2,rfl,rx1,rx2⟩:=vals2 r';obtain rfl:u=Value.ref t:=ru;refine⟨(p.1,x1,x2)::L,(p.1,v2)::ks,by rw[Nw,Nw,l1],λi v e=>?_,λx hx=>?_,.cons ⟨rfl,rx2⟩ l4,by rw[Nx,Nx,l5],aI.mpr ⟨v2,_,rfl,d2,l6⟩⟩
   ·cases i with
    |zero=>
     have e:Value.ref t=v:=(by simpa using e);subst e;exact⟨_,t,rfl,rfl,o,q1,q2⟩
    |succ i=>exact l2 i v (by simpa using e)
   ·rcases List.mem_cons.mp hx with z|z
    ·subst z;exact o4 rx1
    ·exact l3 x z
theorem uC(hc:X.calm=true):dh X (.type "dict") (Au X.K kK):=by
 rintro pins s σ H xs us Q I r ⟨O,ds,d,hO,hd,hg,q⟩;unfold kK at hg;split at hg
 ·rename_i ys;cases hp:jd ys with
  |none=>rw[hp]at hg;cases hg
  |some ps=>
   rw[hp]at hg;obtain⟨sm,rfl⟩:=bb (show(if small ps.length then some (cN (iJ ps))else none)=some d from hg);obtain⟨v,rfl,h1⟩:=hd.one;obtain⟨p,ws,rfl,g1,g2⟩:=bP.mp h1;obtain⟨u,rfl,ru⟩:=vals1 r;cases ru;obtain⟨its,rv,⟨o,n,ho,hcl,hd',hdd⟩,hz⟩:=I.list ((ax H O).seq g1);rw[mU hp]at g2;obtain⟨L,ks,l1,l2,l3,l4,l5,l6⟩:=mS I g2 rv;have kl:ks.length=ps.length:=(by have:=congrArg List.length l5;simpa using this);have ll:ks.length=L.length:=(by have:=KV.length l4;simpa using this);have hsz:ps.length<=100000:=of_decide_eq_true sm;have sl:QW=16777216:=Rv;refine lK (knd:=bI X.prog X.w) (L:=L) ho hcl hdd hd' (I.ok.hd hc) (by simpa using l1) ‹0› (λi v e=>l2 i v (by simpa using e)) l3 λh' tk kp di=>?_;have hf:=I.hok.fresh (Nt s.heap.objs.size);have km:=KV.merge l4 (kvs:=[]) (vs:=[]) .nil;have em:merged [] (L.map λx=>(x.1,x.2.2))=L.foldl (λxs x=>stored xs x.1 x.2.2) []:=(by unfold merged;rw[List.foldl_map]);rw[em]at km;have ml:=fO ks [];rw[N0]at ml;obtain⟨f1,f2⟩:=jI (K:=X.K) (H:=hid H O) (al:=ps) (kvs:=ks) (al0:=[]) (kvs0:=[]) l5 l6 rfl (bB.mpr rfl);refine⟨.ref s.heap.objs.size,_,I.laid (t':=tk) (o:=.dK (fw [] ks)) kp (Nt _) (Ai ‹0› (beq_eq_false_iff_ne.mpr (Ne.symm (Nc I.big))) km di),rfl,?_⟩;refine q _ _ (bV hf _) ?_;have pO:=hO.not hf;exact IJ.mpr ⟨s.heap.objs.size,_,rfl,f2.mono (lQ hf),.inl ⟨fw [] ks,by rw[fT pO];exact aq,rH f1,rfl⟩⟩
 ·cases hg
end
end TG
namespace TX
open PySem PySem.Spec L2 TG
variable[aw]
structure XE(X:Cx)(e:QP)(F:FX):Prop where h:FE X e F
structure XT(X:Cx)(e:QP)(F:bx):Prop where h:FT X e F
structure XW(X:Cx)(e:QP)(F:bx):Prop where h:FW X e F
structure XA(X:Cx)(e:aR)(F:aQ):Prop where h:FA X e F
structure XS(X:Cx)(e:QQ)(F:bw):Prop where h:FS X e F
structure oi(X:Cx)(e:cF)(F:bw):Prop where h:Ja X e F
structure XI(X:Cx)(t e:QP)(F:aQ):Prop where h:FI X t e F
structure XG(X:Cx)(e:QP)(F:GF):Prop where h:FG X e F
structure FZ(X:Cx)(e:aR)(F:Bp):Prop where h:L8 X e F
structure XO(X:Cx)(e:Option QP)(F:ao->R cA):Prop where h:FO X e F
structure XN(X:Cx)(e:QP)(F:FX):Prop where h:FN X e F
structure HP(X:Cx)(e:aR)(F:bx):Prop where h:Lf X e F
structure XV(X:Cx)(e:QP)(i:Nat):Prop where h:PE X e (nW i)
structure XB(X:Cx)(scope:Ra)(N:av)(tg elt:QP)(ifs:aR)(g:GF)(C:bx)(Fe:FX)(cl:kR)(C':QO)(fp:aD)(s:QR)(H:Hp)(E:aW):Prop where
 a:XG (bK X scope N cl C' fp s H E) tg g
 b:HP (bK X scope N cl C' fp s H E) ifs C
 c:XE (bK X scope N cl C' fp s H E) elt Fe
structure oC(X:Cx)(scope:Ra)(N:av)(tg elt:QP)(ifs:aR)(g:GF)(C:bx)(Fe:FX):Prop where
 q:∀cl C' fp s H E,XB X scope N tg elt ifs g C Fe cl C' fp s H E
theorem oC.h{X:Cx}{scope:Ra}{N:av}{tg elt:QP}{ifs:aR}{g:GF}{C:bx}{Fe:FX}(x:oC X scope N tg elt ifs g C Fe):Le X scope N tg elt ifs g C Fe:=λcl C' fp s H E=>⟨(x.q cl C' fp s H E).a.h,(x.q cl C' fp s H E).b.h,(x.q cl C' fp s H E).c.h⟩
theorem xv{X:Cx}(i:Nat){x:Str}{pos:Pos}(hN:X.N[i]?=some x:=by rfl)(hv:Fq X.env.scope x:=by first|exact Or.inl rfl|exact Or.inr (Or.inl rfl)|exact Or.inr (Or.inr rfl))(hd:(x==("__debug__":Str))=false:=by decide)
  (hcd:(x==("__classdict__":Str))=false:=by decide):XV X (.Name x pos) i:=⟨pv i hN hv hd hcd⟩
theorem Lp{X:Cx}{e:QP}{f:bx}(h:XW X e f):XT X e f:=⟨FW.ft h.h⟩
section
variable[aw]{X:Cx}
theorem C4{i:Nat}{x:Str}{pos:Pos}(h:XV X (.Name x pos) i):XE X (.Name x pos) (af i):=⟨PE.weak h.h λσ H Q ⟨O,ρ,E,hF⟩=>by
  obtain⟨d,e,q⟩:=xB hF;obtain⟨v,e,dv⟩:=E.val i d e;exact⟨v,e,q v H (aP.refl H) dv⟩⟩
theorem Cw{i j pos}:XE X (.Constant (.int i) j pos) (fC (.int i)):=⟨iN GA λ_ _=>eQ.mpr rfl⟩
theorem GB{b j pos}:XE X (.Constant (.bool b) j pos) (fC (.bl b)):=⟨iN Im λ_ _=>gF.mpr rfl⟩
theorem BV{j pos}:XE X (.Constant .none j pos) (fC .non):=⟨iN Gz λ_ _=>gC.mpr rfl⟩
theorem BW{x j pos}:XE X (.Constant (.str x) j pos) (fC (.str x)):=⟨iN Gu λ_ _=>dW.mpr rfl⟩
theorem vB:XA X [] ai:=⟨TG.JM ⟩
theorem nK{e:QP}{es:aR}{f:FX}{g:aQ}(he:XE X e f)(hs:XA X es g)(hns:noStar e=true:=by rfl):XA X (e::es) (aa f g):=⟨TG.IM he.h hs.h hns⟩
theorem Dq{es:aR}{g:aQ}{k pos}(h:XA X es g):XE X (.Tuple es k pos) (aN g):=⟨PE.weak (yU h.h) λσ H Q ⟨O,ρ,E,hF⟩=>⟨O,ρ,E,(dJ.bind hF).imp λxs hF vs H1 s1 d1=>by
  obtain⟨d,e,q⟩:=dJ.rO hF;obtain⟨hz,e⟩:=bb e;subst e;refine⟨by rw[<-d1.length];exact b8 hz,λp hp=>?_⟩;exact q _ _ (s1.trans (bV hp _)) (dA (E.all.same s1) hp d1)⟩⟩
theorem Dj{es:aR}{g:aQ}{pos}(h:XA X es g):XE X (.List es pos) (jN g):=⟨PE.weak (zG h.h) λσ H Q ⟨O,ρ,E,hF⟩=>⟨O,ρ,E,(dJ.bind hF).imp λxs hF vs H1 s1 d1=>by
  obtain⟨d,e,q⟩:=dJ.rO hF;obtain⟨hz,e⟩:=bb e;subst e;refine⟨by rw[<-d1.length];exact b8 hz,λp hp=>?_⟩;exact q _ _ (s1.trans (bV hp _)) (iH (E.all.same s1) hp d1)⟩⟩
theorem jh{a b:QP}{op:Operator}{r:R2}{g:D->D->aY}{fa fb:FX}{pos:Pos}(ho:ib X (Ru op) r)(s:cJ X.K r g)(ha:XE X a fa)(hb:XE X b fb):XE X (.BinOp a op b pos) (f2 g fa fb):=⟨PE.weak (Ie ho ha.h hb.h) (qH s)⟩
theorem gE{a b:QP}{op:Ri}{r:R2}{g:D->D->aY}{fa fb:FX}{pos:Pos}(ho:ib X (Rj op) r)(s:cJ X.K r g)(ha:XE X a fa)(hb:XE X b fb)(hm:Rk op b=false):XE X (.Compare a [op] [b] pos) (f2 g fa fb):=⟨PE.weak (Cm ho ha.h hb.h hm) (qH s)⟩
theorem gJ{a b:QP}{op:Ri}{r:R2}{g:D->D->aY}{fa fb:FX}{pos:Pos}(ho:ib X (Rj op) r)(s:cJ X.K r g)(ha:XE X a fa)(hb:XE X b fb)(hm:Rk op b=false):XT X (.Compare a [op] [b] pos) (fB (f2 g fa fb)):=⟨PT.weak (C1 ho ha.h hb.h hm) (kr (qH s))⟩
end
section
variable[aw]{X:Cx}{a b c:QP}{rest:aR}{pos:Pos}{f g:bx}
theorem BC(h:XT X a f):XT X (.UnaryOp .Not a pos) (kY f):=⟨PT.weak (Fp h.h) λσ H Q ⟨O,ρ,E,hF⟩=>⟨O,ρ,E,(dJ.bind hF).imp λb q H1 s1=>q H1 s1⟩⟩
theorem Ay(h:XT X a f):XW X (.BoolOp .And [a] pos) f:=⟨CD h.h⟩
theorem Dw(h:XT X a f):XW X (.BoolOp .Or [a] pos) f:=⟨Fu h.h⟩
theorem Cv(ha:XT X a f)(hb:XW X (.BoolOp .And (b::rest) pos) g):XW X (.BoolOp .And (a::b::rest) pos) (ul f g):=⟨PW.weak (Gs ha.h hb.h) λσ H Q ⟨O,ρ,E,hF⟩=>⟨O,ρ,E,(dJ.bind hF).imp λc hF H1 s1=>by
 cases c with
 |true=>exact qq ⟨O,ρ,E.same s1,(hF.mono s1).imp λb q H2 s2=>q H2 (s1.trans s2)⟩
 |false=>exact qL (hF H1 s1)⟩⟩
theorem FV(ha:XT X a f)(hb:XW X (.BoolOp .Or (b::rest) pos) g):XW X (.BoolOp .Or (a::b::rest) pos) (D8 f g):=⟨PW.weak (Iz ha.h hb.h) λσ H Q ⟨O,ρ,E,hF⟩=>⟨O,ρ,E,(dJ.bind hF).imp λc hF H1 s1=>by
 cases c with
 |false=>exact qL ⟨O,ρ,E.same s1,(hF.mono s1).imp λb q H2 s2=>q H2 (s1.trans s2)⟩
 |true=>exact qq (hF H1 s1)⟩⟩
end
section
variable[aw]{X:Cx}{a b c:QP}{rest:aR}{pos:Pos}{f g:bx}{fa fb:FX}
theorem B7{op}(h:XE X a fa):XE X (.BoolOp op [a] pos) fa:=⟨EH h.h⟩
theorem C8(ha:XE X a fa)(hb:XE X (.BoolOp .And (b::rest) pos) fb):XE X (.BoolOp .And (a::b::rest) pos) (ig fa fb):=⟨PE.weak (Gd ha.h hb.h) λσ H Q ⟨O,ρ,E,hF⟩=>⟨O,ρ,E,(dJ.bind hF).imp λd hF x H1 s1 d1=>by
 cases d with
 |bl c=>
  refine⟨c,gF.mp d1,?_⟩;cases c with
  |true=>exact qq ⟨O,ρ,E.same s1,(hF.mono s1).imp λd q v H2 s2 d2=>q v H2 (s1.trans s2) d2⟩
  |false=>exact qL (hF _ H1 s1 (gF.mpr rfl))
 |_=>exact hF.elim⟩⟩
theorem EC(ha:XE X a fa)(hb:XE X (.BoolOp .Or (b::rest) pos) fb):XE X (.BoolOp .Or (a::b::rest) pos) (Cq fa fb):=⟨PE.weak (HH ha.h hb.h) λσ H Q ⟨O,ρ,E,hF⟩=>⟨O,ρ,E,(dJ.bind hF).imp λd hF x H1 s1 d1=>by
 cases d with
 |bl c=>
  refine⟨c,gF.mp d1,?_⟩;cases c with
  |false=>exact qL ⟨O,ρ,E.same s1,(hF.mono s1).imp λd q v H2 s2 d2=>q v H2 (s1.trans s2) d2⟩
  |true=>exact qq (hF _ H1 s1 (gF.mpr rfl))
 |_=>exact hF.elim⟩⟩
theorem BH(ha:XE X a fa):XE X (.UnaryOp .Not a pos) (rQ fa):=⟨PE.weak (Gy ha.h) λσ H Q ⟨O,ρ,E,hF⟩=>⟨O,ρ,E,(dJ.bind hF).imp λd hF x H1 s1 d1=>by
 obtain⟨d',e,q⟩:=dJ.rO hF;cases d with
 |bl c=>
  cases e;exact⟨c,gF.mp d1,q _ H1 s1 (gF.mpr rfl)⟩
 |_=>cases e⟩⟩
theorem GR(hc:XT X c f)(ha:XE X a fa)(hb:XE X b fb):XE X (.IfExp c a b pos) (G1 f fa fb):=⟨PE.weak (zK hc.h ha.h hb.h) λσ H Q ⟨O,ρ,E,hF⟩=>⟨O,ρ,E,(dJ.bind hF).imp λd hF H1 s1=>by
 cases d with
 |true=>exact qq ⟨O,ρ,E.same s1,(hF.mono s1).imp λd q v H2 s2 d2=>q v H2 (s1.trans s2) d2⟩
 |false=>exact qL ⟨O,ρ,E.same s1,(hF.mono s1).imp λd q v H2 s2 d2=>q v H2 (s1.trans s2) d2⟩⟩⟩
end
section
variable[aw]{X:Cx}
theorem GP{a b:QP}{fa fb:FX}{pos:Pos}(ha:XE X a fa)(hb:XE X b fb)(hs:qo b):XE X (.Subscript a b pos) (f2 ap fa fb):=⟨PE.weak (HN KN ha.h hb.h hs) (qH b6)⟩
theorem zo:XO X none bR:=⟨λpins s σ H Q I ⟨O,ρ,E,q⟩=>Bu pins s σ H Q I (q H (aP.refl H))⟩
theorem AJ{e:QP}{f:FX}(h:XE X e f):XO X (some e) (cO f):=⟨λpins s σ H Q I ⟨O,ρ,E,hF⟩=>
 CJ h.h pins s σ H Q I ⟨O,ρ,E,(dJ.bind hF).imp λd hF v H1 s1 d1=>by
  obtain⟨o,e,q⟩:=dJ.rO hF;cases d with
  |int i=>
   cases e;exact⟨i,eQ.mp d1,q H1 s1⟩
  |_=>cases e⟩⟩
theorem yt{e:QP}{f:FX}{l h:ao->R cA}{lo hi:Option QP}{p2 pos:Pos}(he:XE X e f)(hl:XO X lo l)(hh:XO X hi h):XE X (.Subscript e (.Slice lo hi none p2) pos) (cj f l h):=⟨PE.weak (zD KC he.h hl.h hh.h) λσ H Q ⟨O,ρ,E,hF⟩=>⟨O,ρ,E,(dJ.bind hF).imp λa hF x H1 s1 d1=>⟨O,ρ,E.same s1,((dJ.bind hF).mono s1).imp λlo' hF H2 s2=>⟨O,ρ,E.same (s1.trans s2),((dJ.bind hF).mono (s1.trans s2)).imp λhi' hF H3 s3=>by
  obtain⟨d,e,q⟩:=dJ.rO hF;exact⟨O,a,d,E.all.same ((s1.trans s2).trans s3),d1.mono (bn (s2.trans s3)),e,λv H4 s4 d4=>q v H4 (((s1.trans s2).trans s3).trans s4) d4⟩⟩⟩⟩⟩
end
section
variable[aw]{X:Cx}{x:Str}{p pos:Pos}{e:QP}{es:aR}{id T:String}{g:List D->aY}{f:aQ}
theorem gj(hc:dh X (.builtin id) (Au X.K g))(hg:Gl X x)(hm:X.mg x=none)(hv:QY x=some (.builtin id))(ha:XA X (e::es) f)(hn:x≠"__name__":=by decide)(hdb:(x==("__debug__":Str))=false:=by decide)(hns:(e::es).all noStar=true:=by rfl):XE X (.Call (.Name x p) (e::es) [] pos) (fL g f):=⟨PE.weak (fZ hc hg hm hv ha.h hn hdb (bu (NU _ _ ▸ hns).1) (cv (NU _ _ ▸ hns).2)) (AW n9)⟩
theorem jA(hc:dh X (.type T) (Au X.K g))(hg:Gl X x)(hm:X.mg x=none)(hv:QY x=some (.type T))(ha:XA X (e::es) f)(hn:x≠"__name__":=by decide)(hdb:(x==("__debug__":Str))=false:=by decide)(hns:(e::es).all noStar=true:=by rfl):XE X (.Call (.Name x p) (e::es) [] pos) (fL g f):=⟨PE.weak (wF hc hg hm hv ha.h hn hdb (bu (NU _ _ ▸ hns).1) (cv (NU _ _ ▸ hns).2)) (AW n9)⟩
theorem mz{f:FX}{xT:Str}{p2:Pos}(ok:tZ X.K T)(hg:Gl X "isinstance")(hm:X.mg "isinstance"=none)(hgT:Gl X xT)(hmT:X.mg xT=none)(hvT:QY xT=some (.type T))(he:XE X e f)(hn2:xT≠"__name__":=by decide)(hd2:(xT==("__debug__":Str))=false:=by decide)(hns:noStar e=true:=by rfl):XE X (.Call (.Name "isinstance" p) [e,.Name xT p2] [] pos) (nU T f):=⟨PE.weak (fZ (zc ok) hg hm iF (dm he.h (dm (vC (v:=.ty T) hgT hmT hvT rfl hn2 hd2) jw (bu rfl)) (bu hns)) (by decide) (by decide) (bu hns) (cv rfl)) λσ H Q ⟨O,ρ,E,hF⟩=>⟨O,ρ,E,(dJ.bind hF).imp λa hF v H1 s1 d1=>by
  obtain⟨d,e,q⟩:=dJ.rO hF;obtain⟨h1,h2⟩:=bb e;subst h2;exact⟨O,v,a,rfl,h1,d1,q _ H1 s1 (gF.mpr rfl)⟩⟩⟩
end
section
variable[aw]{X:Cx}{a:QP}{f:FX}{pos:Pos}
theorem B2{j pos'}(h:XE X a f):XE X (.Compare a [.Is] [.Constant .none j pos'] pos) (oO f):=⟨PE.weak (yW (zF h.h)) λσ H Q q=>vQ σ H Q q⟩
theorem A5{j pos'}(h:XE X a f):XE X (.Compare a [.IsNot] [.Constant .none j pos'] pos) (lI f):=⟨PE.weak (yW (wq h.h)) λσ H Q q=>tJ σ H Q q⟩
theorem C9{j pos'}(h:XE X a f):XT X (.Compare a [.Is] [.Constant .none j pos'] pos) (fB (oO f)):=⟨PT.weak (Bb (zF h.h)) λσ H Q q=>kr (t:=λσ H Q=>tF X f σ H λv H'=>Q (.bl (decide (v=.non))) H') vQ σ H Q q⟩
theorem A6{j pos'}(h:XE X a f):XT X (.Compare a [.IsNot] [.Constant .none j pos'] pos) (fB (lI f)):=⟨PT.weak (Bb (wq h.h)) λσ H Q q=>kr (t:=λσ H Q=>tF X f σ H λv H'=>Q (.bl (!decide (v=.non))) H') tJ σ H Q q⟩
theorem xW(h:XE X a f)(he:∀whole,isTrue a X.env whole=(do let v<-whole;standAt a.pos;holding [v] (truthy v)):=by intro _;rfl):XT X a (bZ f):=⟨PT.weak (Aj h.h he) λσ H Q ⟨O,ρ,E,hF⟩=>⟨O,ρ,E,(dJ.bind hF).imp λd hF x H1 s1 d1=>by
 obtain⟨r,hF,q⟩:=dJ.rO hF;refine⟨r,?_,q H1 s1⟩;cases d with
 |non=>cases hF;rw[gC.mp d1];rfl
 |bl b=>cases hF;rw[gF.mp d1];rfl
 |int i=>cases hF;rw[eQ.mp d1];rfl
 |str y=>
  obtain⟨hz,e⟩:=bb hF;subst e;rw[dW.mp d1];refine⟨b8 hz,?_⟩;show(y.length !=0)=((y.length:Int) !=0)
  cases y.length<;>rfl
 |tup xs=>
  cases hF;obtain⟨p,vs,e,g1,g2⟩:=bQ.mp d1;rw[e];refine .inr (.inl ⟨vs,bL (ax H1 O) g1,?_⟩);have l:=g2.length;cases xs<;>cases vs<;>first|rfl|(simp at l)
 |lst xs=>
  cases hF;obtain⟨p,vs,e,g1,g2⟩:=bP.mp d1;rw[e];refine .inl ⟨vs,(ax H1 O).seq g1,?_⟩;have l:=g2.length;cases xs<;>cases vs<;>first|rfl|(simp at l)
 |_=>cases hF⟩⟩
end
section
variable[aw]{X:Cx}{tg:QP}
theorem Dn{e:QP}{f:FX}(h:XE X e f):XI X tg e (bj f):=by
 refine⟨?_⟩;rintro pins s σ H R I ⟨O,ρ,E,hG⟩;have hG':=dJ.bind hG;cases hf:f ρ with
 |error z=>exact vL h.h pins s σ H R I ⟨O,ρ,E,by rw[hf]at hG' ⊢;cases z with|none=>exact hG'.elim|some x=>exact hG'⟩
 |ok d=>
  rw[hf]at hG';obtain⟨ds,e1,q⟩:=dJ.rO (α:=List D) (o:=m9 d) hG';cases d with
  |lst xs=>
   cases e1;refine vL h.h pins s σ H R I ⟨O,ρ,E,?_⟩;rw[hf];refine λv H1 s1 d1=>?_;obtain⟨p,vs,ev,g1,g2⟩:=bP.mp d1;exact⟨p,ev,⟨vs,(ax H1 O).seq g1⟩,q _ H1 s1 (xh g1 g2)⟩
  |tup xs=>
   cases e1;refine Gg h.h pins s σ H R I ⟨O,ρ,E,?_⟩;rw[hf];refine λv H1 s1 d1=>?_;obtain⟨p,vs,ev,g1,g2⟩:=bQ.mp d1;exact⟨p,ev,⟨vs,bL (ax H1 O) g1⟩,q _ H1 s1 (yJ g1 g2)⟩
  |_=>cases e1
theorem u9{a:QP}{f:aQ}{p pos:Pos}(hg:Gl X "range")(hm:X.mg "range"=none)(ha:XA X [a] f)(hs:Rf [a] X.env=[(false,eval a X.env)]:=by rfl):XI X tg (.Call (.Name "range" p) [a] [] pos) (dq f):=by
 refine⟨?_⟩;rintro pins s σ H R I ⟨O,ρ,E,hG⟩;refine xA hg hm ha.h hs pins s σ H R I ⟨O,ρ,E,(dJ.bind hG).imp λes hG' vs H1 s1 d1=>?_⟩;clear hG;obtain⟨ds,hG,q⟩:=dJ.rO hG';clear hG';unfold iZ at hG;split at hG
 ·rename_i j;obtain⟨h1,h2⟩:=bb hG;subst h2;obtain⟨j1,j2⟩:=of_decide_eq_true h1;obtain⟨v,ev,dv⟩:=d1.one;exact⟨j,by rw[ev,eQ.mp dv],j1,j2,q _ H1 s1 (uO 0 _)⟩
 ·cases hG
end
section
variable[aw]{X:Cx}{pos:Pos}
theorem zW{i:Nat}{x:Str}(hN:X.N.Nodup)(hi:X.N[i]?=some x)(hx:Loc X.env.scope x)(hf:X.fn x=true\/X.env.scope.names.lookup x=some .local:=by first|exact .inl rfl|exact .inr rfl|assumption):XG X (.Name x pos) (gN i):=by
 refine⟨?_⟩;rintro pins s σ H v u Q I r ⟨O,ρ,d,ρ',E,hd,hg,q⟩;cases hg;have hiσ:i<σ.length:=by rw[I.len];exact(List.getElem?_eq_some_iff.mp hi).1
 refine B4 hN hi hx hf pins s σ H v u Q I r (q _ (E.setV hiσ hd) λj x e nv=>?_);rcases aT e with⟨_,eq⟩|⟨ne,eq⟩
 ·cases eq;exact absurd rfl (nv _)
 ·exact⟨Np (Ne.symm ne),eq⟩
theorem A9:FZ X [] DU:=by
 refine⟨?_⟩;rintro pins s σ H vs us Q I r ⟨O,ρ,ds,ρ',E,hd,hg,q⟩;cases ds with
 |nil=>
  cases hg;rw[bB]at hd;exact B6 pins s σ H vs us Q I r ⟨hd,q _ E λi x e _=>⟨rfl,e⟩⟩
 |cons _ _=>cases hg
theorem wz{e:QP}{es:aR}{g:GF}{h:Bp}(h1:XG X e g)(h2:FZ X es h)(hs:(assignEach (e::es) X.env).map (·.2)=assign e X.env::(assignEach es X.env).map (·.2):=by rfl):FZ X (e::es) (yQ g h):=by
 refine⟨?_⟩;rintro pins s σ H vs us Q I r ⟨O,ρ,ds,ρ',E,hd,hg,q⟩;cases ds with
 |nil=>cases hg
 |cons d ds=>
  obtain⟨ρ1,e1,e2⟩:=bind_some hg;rw[aI]at hd;obtain⟨v,vr,ev,d1,d2⟩:=hd;exact AK h1.h h2.h hs pins s σ H vs us Q I r ⟨v,vr,ev,O,ρ,d,ρ1,E,d1,e1,λσ1 E1 k1=>⟨O,ρ1,ds,ρ',E1,d2,e2,λσ2 E2 k2=>q σ2 E2 λi x e nv=>by
   obtain⟨a1,a2⟩:=k2 i x e nv;obtain⟨b1,b2⟩:=k1 i x a2 nv;exact⟨a1.trans b1,b2⟩⟩⟩
theorem By{es:aR}{k:Nat}{g:Bp}{n:Nat}(hc:X.calm=true)(h:FZ X es g)(hn:(assignEach es X.env).length=n:=by rfl)(hst:(assignEach es X.env).findIdx? (·.1)=none:=by rfl):XG X (.Tuple es k pos) (gT n g):=by
 refine⟨?_⟩;rintro pins s σ H v u Q I r ⟨O,ρ,d,ρ',E,hd,hg,q⟩;cases d with
 |tup xs=>
  obtain⟨p,vs,ev,g1,g2⟩:=bQ.mp hd;have hg':(if xs.length=n then g xs ρ else none)=some ρ':=hg;by_cases hl:xs.length=n
  ·rw[if_pos hl]at hg';exact Gi hc h.h hn hst pins s σ H v u Q I r ⟨p,vs,ev,bL (ax H O) g1,by rw[<-g2.length];exact hl,O,ρ,xs,ρ',E,g2,hg',q⟩
  ·rw[if_neg hl]at hg';cases hg'
 |_=>cases hg
end
section
variable[aw]
theorem AA{X:Cx}:HP X [] bz:=⟨λpins s σ H Q I ⟨O,ρ,E,q⟩=>BJ pins s σ H Q I (q H (aP.refl H))⟩
theorem AI{X:Cx}{c:QP}{F:bx}(h:XT X c F):HP X [c] F:=⟨CA h.h⟩
end
section
variable[aw]{X:Cx}{elt tg iter:QP}{ifs:aR}{scope:Ra}{pos:Pos}{N:av}{ix:eD}{G:aQ}{g:GF}{C:bx}{Fe:FX}
theorem EK(hc:X.calm=true)(ok:jU X scope N ix)(tk:lP ix g)(hi:XI X tg iter G)(hb:oC X scope N tg elt ifs g C Fe)(hs:∀x,Rt iter X.env x=pure x:=by intro _;rfl):XE X (.ListComp elt [⟨tg,iter,ifs,0⟩] scope pos) (eE ix G g C Fe):=⟨PE.weak (Ef hc ok.cell ok.kind ok.names ok.free ok.ix hi.h hb.h.k hs) (D9 tk)⟩
end
section
variable[aw]{X:Cx}{st:QQ}{rest body:cF}{pos:Pos}
theorem zn:oi X [] bD:=⟨λHb Ob=>pR.weak vi λE σ H ⟨O,ρ,k,r,S,hF,hk⟩=>hk.nx O ρ σ H S hF⟩
theorem wU{F1 F2:bw}(h1:XS X st F1)(h2:oi X rest F2):oi X (st::rest) (az F1 F2):=⟨λHb Ob=>pR.weak (oh (h1.h Hb Ob) (h2.h Hb Ob)) λE σ H ⟨O,ρ,k,r,S,hF,hk⟩=>
 ⟨O,ρ,{k with nx:=F2 k},r,S,hF,hk.ne,λO' ρ' σ' H' S' e=>⟨O',ρ',k,r,S',e,hk⟩,hk.bk,hk.ct,hk.rt,hk.ex⟩⟩
theorem zM{F1:bw}(h1:XS X st F1):oi X [st] F1:=⟨λHb Ob=>qU (h1.h Hb Ob)⟩
theorem BZ{e:QP}{f:FX}(h:XE X e f):XS X (.Return (some e) pos) (aU f):=⟨λHb Ob=>PS.weak (EG h.h) λE σ H ⟨O,ρ,k,r,S,hF,hk⟩=>
 ⟨O,ρ,S.env,dJ.on hF hk S λd e v H' s' d'=>hk.rt d O v H' e.symm (S.base.same' s') d'⟩⟩
theorem Bh:XS X (.Pass pos) bD:=⟨λHb Ob=>PS.weak Dc λE σ H ⟨O,ρ,k,r,S,hF,hk⟩=>hk.nx O ρ σ H S hF⟩
theorem Dp{x j pos'}:XS X (.Expr (.Constant (.str x) j pos) pos') bD:=⟨λHb Ob=>PS.weak Fb λE σ H ⟨O,ρ,k,r,S,hF,hk⟩=>hk.nx O ρ σ H S hF⟩
theorem zE{e:QP}{f:FX}(h:XE X e f)(hs:swapsWith e none pos.line X.env=pure false:=by rfl):XS X (.Expr e pos) (pI f):=⟨λHb Ob=>PS.weak (vN h.h hs) λE σ H ⟨O,ρ,k,r,S,hF,hk⟩=>
 ⟨O,ρ,S.env,dJ.on hF hk S λd e v H' s' d'=>hk.nx O ρ σ H' (S.same s') e⟩⟩
theorem Fo{c:QP}{a b:cF}{tc:bx}{A B:bw}(hc:XT X c tc)(ha:oi X a A)(hb:oi X b B):XS X (.If c a b pos) (fD tc A B):=⟨λHb Ob=>PS.weak (HF hc.h (ha.h Hb Ob) (hb.h Hb Ob)) λE σ H ⟨O,ρ,k,r,S,hF,hk⟩=>
 ⟨O,ρ,S.env,dJ.on hF hk S fun z e H1 s1=>by
  cases z with
  |true=>exact qq ⟨O,ρ,k,r,S.same s1,e,hk⟩
  |false=>exact qL ⟨O,ρ,k,r,S.same s1,e,hk⟩⟩⟩
theorem Cy{i:Nat}{x:Str}{e:QP}{f:FX}{pos':Pos}(hN:X.N.Nodup)(hi:X.N[i]?=some x)(hx:Loc X.env.scope x)(he:XE X e f)(hs:swapsWith e (some (.Name x pos')) pos.line X.env=pure false:=by rfl)(hf:X.fn x=true\/X.env.scope.names.lookup x=some .local:=by first|exact .inl rfl|exact .inr rfl|assumption):XS X (.Assign [.Name x pos'] e pos) (aO i f):=⟨pE (List.getElem?_eq_some_iff.mp hi).1 (zp hN hi hx he.h hs hf)⟩
theorem GN{elt tg iter:QP}{ifs:aR}{scope:Ra}{N:av}{ix:eD}{G:aQ}{g:GF}{C:bx}{Fe:FX}{i:Nat}{y:Str}{lpos py spos:Pos}(hN:X.N.Nodup)(hi':X.N[i]?=some y)(hx:Loc X.env.scope y)(hc:X.calm=true)(ok:jU X scope N ix)(tk:lP ix g)(hi:XI X tg iter G)(hb:oC X scope N tg elt ifs g C Fe)(hsw:swapsWith (.ListComp elt [⟨tg,iter,ifs,0⟩] scope lpos) (some (.Name y py)) spos.line X.env=pure true:=by rfl)(hs:∀x,Rt iter X.env x=pure x:=by intro _;rfl)(hf:X.fn y=true\/X.env.scope.names.lookup y=some .local:=by first|exact .inl rfl|exact .inr rfl|assumption):XS X (.Assign [.Name y py] (.ListComp elt [⟨tg,iter,ifs,0⟩] scope lpos) spos) (aO i (eE ix G g C Fe)):=⟨pE (List.getElem?_eq_some_iff.mp hi').1 (PS.weak (DY hN hi' hx hc ok.cell ok.kind ok.names ok.free ok.ix hi.h hb.h.k hsw hs hf) λE σ H q=>D9 tk σ H _ q)⟩
theorem DJ{tg e:QP}{f:FX}{g:GF}(he:XE X e f)(hg:XG X tg g)(hs:swapsWithSole [tg] e pos.line X.env=pure false:=by rfl)(hw:swappedStores [tg] e X.env=pure none:=by rfl)(h1:(assignEach [tg] X.env).map (·.2)=[assign tg X.env]:=by rfl):XS X (.Assign [tg] e pos) (zC f g):=⟨λHb Ob=>PS.weak (FQ he.h hg.h hs hw h1) λE σ H ⟨O,ρ,k,r,S,hF,hk⟩=>
 ⟨O,ρ,S.env,dJ.on hF hk S fun d e v H1 s1 d1=>by
  cases hg.h:g d ρ with
  |none=>rw[hg.h]at e;exact absurd e.symm hk.ne
  |some ρ1=>
   rw[hg.h]at e;refine⟨O,ρ,d,ρ1,(S.same s1).env,d1,hg.h,λσ' E' own=>hk.nx O ρ1 σ' H1 ((S.same s1).after E' own) e⟩⟩⟩
theorem Bc:XS X st jo:=⟨λHb Ob pins s σ H E I ⟨O,ρ,k,r,S,hF,hk⟩=>absurd hF.symm hk.ne⟩
theorem wV{st:cF}:oi X st jo:=⟨λHb Ob pins s σ H E I ⟨O,ρ,k,r,S,hF,hk⟩=>absurd hF.symm hk.ne⟩
theorem wA{st:cF}{F:bw}(is:List Nat)(h:oi X st F):oi X st (h7 is F):=⟨λHb Ob=>pR.weak (h.h Hb Ob) λE σ H ⟨O,ρ,k,r,S,hF,hk⟩=>⟨O,TG.kill is ρ,k,r,S.kill is,hF,hk⟩⟩
theorem Cj{tg iter:QP}{G:aQ}{g:GF}{B:bw}(hp:Rn (model X.prog X.w) X.A X.env X.xe)(hc:X.calm=true)(hi:XI X tg iter G)(hg:XG X tg g)(hb:oi X body B)(hs:∀x,Rt iter X.env x=pure x:=by intro _;rfl):XS X (.For tg iter body [] pos) (sv G g B):=⟨λHb Ob pins s σ H E I ⟨O,ρ,k,r,S,hF,hk⟩=>by
 have hall:pR X body (λE σ H=>∃Hb',Jh X Hb' Ob B E σ H):=λpins s σ H E I ⟨Hb',q⟩=>hb.h Hb' Ob pins s σ H E I q;refine GI hp hc hi.h hg.h hall hs pins s σ H E I ⟨O,ρ,S.env,dJ.on hF hk S λds hF J H1 s1 wk=>?_⟩;have E1:=S.same s1;refine⟨λi m σ H=>m=ds.length-i/\i<=ds.length/\∃O' ρ',cW X.K (lb H1 O Ob) Ob O' H ρ' σ/\dS g B k (ds.drop i) ρ'=r,
  ⟨ds.length,by rw[Ot],NC _,O,ρ,E1.loop,by rw[N9];exact hF⟩,?_⟩
 rintro i m σ' H' ⟨rfl,hi',O',ρ',E',hr⟩;have sD:=Bi E1.base E'.base;by_cases hlt:i<ds.length
 ·right;obtain⟨go,yl⟩:=(wk H' O' i E'.env.all sD).1 ds[i] (by simp[hlt]);refine⟨go,λσ2 H2=>ds.length-(i+1)=ds.length-(i+1)/\i+1<=ds.length/\∃O' ρ',cW X.K (lb H1 O Ob) Ob O' H2 ρ' σ2/\dS g B k (ds.drop (i+1)) ρ'=r,λσ2 H2 z=>⟨ds.length-(i+1),by omega,z⟩,λx H2 y=>?_⟩;obtain⟨s2,dx⟩:=yl x H2 y;have E':=E'.same s2;rw[Ov hlt]at hr;cases hg':g ds[i] ρ' with
  |none=>
   have hr':(rO (g ds[i] ρ')).bind (λρ1=>B ⟨dS g B k (ds.drop (i+1)),k.nx,dS g B k (ds.drop (i+1)),k.ex⟩ ρ1)=r:=hr;rw[hg']at hr';exact absurd hr'.symm hk.ne
  |some ρ1=>
   have hr':(rO (g ds[i] ρ')).bind (λρ1=>B ⟨dS g B k (ds.drop (i+1)),k.nx,dS g B k (ds.drop (i+1)),k.ex⟩ ρ1)=r:=hr;rw[hg']at hr';refine⟨O',ρ',ds[i],ρ1,E'.env,dx,hg',λσ3 E3 own=>?_⟩;have E3':cW X.K (lb H1 O Ob) Ob O' H2 ρ1 σ3:=E'.after E3 own;exact⟨lb H1 O Ob,O',ρ1,⟨dS g B k (ds.drop (i+1)),k.nx,dS g B k (ds.drop (i+1)),k.ex⟩,r,E3',hr',hk.loop E1.base (λO4 ρ4 σ4 H4 E4 z=>⟨rfl,hlt,O4,ρ4,E4,z⟩) (λO4 ρ4 σ4 H4 E4 z=>⟨rfl,hlt,O4,ρ4,E4,z⟩) rfl rfl rfl rfl⟩
 ·left;have ei:i=ds.length:=by omega
  subst ei;refine⟨(wk H' O' ds.length E'.env.all sD).2 rfl,?_⟩;rw[Ox]at hr;exact hk.nx O' ρ' σ' H' (E'.back E1.base) hr⟩
theorem wO{c:QP}{tc:bx}{B:bw}(n:Nat)(hp:Rn (model X.prog X.w) X.A X.env X.xe)(hc:XT X c tc)(hb:oi X body B):XS X (.While c body [] pos) (nh n tc B):=⟨λHb Ob pins s σ H E I ⟨O,ρ,k,r,S,hF,hk⟩=>by
 have hall:pR X body (λE σ H=>∃Hb',Jh X Hb' Ob B E σ H):=λpins s σ H E I ⟨Hb',q⟩=>hb.h Hb' Ob pins s σ H E I q;refine zt hp hc.h hall pins s σ H E I ⟨λm σ H'=>∃O' ρ',cW X.K (lb H O Ob) Ob O' H' ρ' σ/\dU tc B k m ρ'=r,⟨n,O,ρ,S.loop,hF⟩,?_⟩;rintro m σ' H' ⟨O',ρ',E',hr⟩;cases m with
 |zero=>exact absurd hr.symm hk.ne
 |succ m=>
  refine⟨O',ρ',E'.env,?_⟩;have hr':kZ (tc ρ') k ρ' (λb=>if b then B ⟨dU tc B k m,k.nx,dU tc B k m,k.ex⟩ ρ' else k.nx ρ')=r:=hr;refine dJ.on hr' hk (E'.back S.base) λb hr H1 s1=>?_;cases b with
  |true=>
   refine qq ⟨λσ2 H2=>∃O' ρ',cW X.K (lb H O Ob) Ob O' H2 ρ' σ2/\dU tc B k m ρ'=r,λσ2 H2 z=>⟨m,NB m,z⟩,?_⟩;exact⟨lb H O Ob,O',ρ',⟨dU tc B k m,k.nx,dU tc B k m,k.ex⟩,r,E'.same s1,hr,hk.loop S.base (λO4 ρ4 σ4 H4 E4 z=>⟨O4,ρ4,E4,z⟩) (λO4 ρ4 σ4 H4 E4 z=>⟨O4,ρ4,E4,z⟩) rfl rfl rfl rfl⟩
  |false=>exact qL (hk.nx O' ρ' σ' H1 ((E'.back S.base).same s1) hr)⟩
end
section
variable[aw]{X:Cx}{pos:Pos}
theorem Cr{es:aR}{g:aQ}(h:XA X es g):XN X (.List es pos) (jN g):=⟨PE.weak (zG h.h) λσ H Q ⟨O,ρ,E,hF⟩=>⟨O,ρ,E,(dJ.bind hF).imp λxs hF vs H1 s1 d1=>by
  obtain⟨d,e,q⟩:=dJ.rO hF;obtain⟨hz,e⟩:=bb e;subst e;refine⟨by rw[<-d1.length];exact b8 hz,λp hp=>?_⟩;exact q p _ (s1.trans (bV hp _)) (s1.free hp) ⟨_,aq,trivial⟩ (sC hp d1)⟩⟩
theorem Cd{i:Nat}{x:Str}{e:QP}{f:FX}{pos':Pos}(hN:X.N.Nodup)(hi:X.N[i]?=some x)(hx:Loc X.env.scope x)(he:XN X e f)(hs:swapsWith e (some (.Name x pos')) pos.line X.env=pure false:=by rfl)(hf:X.fn x=true\/X.env.scope.names.lookup x=some .local:=by first|exact .inl rfl|exact .inr rfl|assumption):XS X (.Assign [.Name x pos'] e pos) (sL i f):=⟨pP (List.getElem?_eq_some_iff.mp hi).1 (zp hN hi hx he.h hs hf)⟩
end
section
variable[aw]
theorem wD{X:Cx}{elt tg iter:QP}{ifs:aR}{scope:Ra}{N:av}{ix:eD}{G:aQ}{g:GF}{C:bx}{Fe:FX}{i:Nat}{y:Str}{lpos py spos:Pos}(hN:X.N.Nodup)(hi':X.N[i]?=some y)(hx:Loc X.env.scope y)(hc:X.calm=true)(ok:jU X scope N ix)(tk:lP ix g)(hi:XI X tg iter G)(hb:oC X scope N tg elt ifs g C Fe)(hsw:swapsWith (.ListComp elt [⟨tg,iter,ifs,0⟩] scope lpos) (some (.Name y py)) spos.line X.env=pure true:=by rfl)(hs:∀x,Rt iter X.env x=pure x:=by intro _;rfl)(hf:X.fn y=true\/X.env.scope.names.lookup y=some .local:=by first|exact .inl rfl|exact .inr rfl|assumption):XS X (.Assign [.Name y py] (.ListComp elt [⟨tg,iter,ifs,0⟩] scope lpos) spos) (sL i (eE ix G g C Fe)):=⟨pP (List.getElem?_eq_some_iff.mp hi').1 (PS.weak (DY hN hi' hx hc ok.cell ok.kind ok.names ok.free ok.ix hi.h hb.h.k hsw hs hf) λE σ H q=>zQ tk σ H _ (DZ σ H _ q))⟩
theorem Gw{X:Cx}{elt tg iter:QP}{ifs:aR}{scope:Ra}{pos:Pos}{N:av}{ix:eD}{G:aQ}{g:GF}{C:bx}{Fe:FX}(hc:X.calm=true)(ok:jU X scope N ix)(tk:lP ix g)(hi:XI X tg iter G)(hb:oC X scope N tg elt ifs g C Fe)(hs:∀x,Rt iter X.env x=pure x:=by intro _;rfl):XN X (.ListComp elt [⟨tg,iter,ifs,0⟩] scope pos) (eE ix G g C Fe):=⟨PE.weak (Ef hc ok.cell ok.kind ok.names ok.free ok.ix hi.h hb.h.k hs) λσ H Q q=>zQ tk σ H _ (DZ σ H _ q)⟩
theorem Gv{X : Cx}{i : Nat}{x m : Str}{id : String}{r : V -> aH -> Hp -> VK -> Prop}{u : List D -> List D -> Option (List D)}{e : QP}{es : aR}{f : aQ}{npos apos cpos pos : Pos}(slot : Slot "list" m id)(hty : typeOf (.builtin id) = pure (.type "method_descriptor"))(hm : Lr X id r)(ok : Ep X.K r u)(hx : XV X (.Name x npos) i)(he : XA X (e :: es) f)(hbase : RC (.Name x npos) m X.env (eval (.Name x npos) X.env) = eval (.Name x npos) X.env := by rfl)(hfew : ((backTo cpos (Rf (e :: es) X.env)).all (fun x => !x.1) && (backToKw cpos (RF [] X.env)).all (fun x => x.1.isSome)
      && decide ((e::es:aR).length+([]:List RZ).length+(if([]:List RZ).isEmpty then 0 else 1)<30))=true:=by rfl)(hline:(apos.endLine==cpos.line)=true:=by rfl)(hs:Rf (e::es) X.env=(false,eval e X.env)::Rf es X.env:=by rfl)(hplain:(backTo cpos (Rf es X.env)).any (·.1)=false:=by rfl)(hsw:swapsWith (.Call (.Attribute (.Name x npos) m apos) (e::es) [] cpos) none pos.line X.env=pure false:=by rfl):XS X (.Expr (.Call (.Attribute (.Name x npos) m apos) (e::es) [] cpos) pos) (ED i u f):=⟨λHb Ob pins s σ H E I ⟨O,ρ,k,rr,S,hF,hk⟩=>by
  unfold ED at hF;split at hF
  · rename_i xs hxs
    obtain⟨a,ha,haO,hat⟩:=S.env.own i _ hxs;obtain⟨o,vs0,ho,eo,dn⟩:=hat;subst eo;refine vN (zP F.plainAttrs_list slot hty hm hx.h he.h hbase hfew hline hs hplain) hsw pins s σ H E I ⟨.ref a,ha,.inl ⟨rfl,vs0,ju.of ho⟩,O,ρ,S.env,dJ.on hF hk S λds hr vs H1 s1 d1=>?_⟩;have S1:=S.same s1;cases hu1:u xs ds with
    |none=>rw[hu1]at hr;exact absurd hr.symm hk.ne
    |some ys=>
      rw[hu1]at hr;exact ok H1 O a xs ys ds vs0 vs _ S1.env.all haO (s1 _ _ ho) (dn.mono (bn s1)) d1 hu1 λws' v new=>hk.nx O _ σ _ (S1.setO hxs ha trivial (sO haO new)) hr
  ·exact absurd hF.symm hk.ne⟩
theorem yI{X:Cx}{st:cF}{F:bw}(i:Nat)(h:oi X st F):oi X st (Ad i F):=⟨λHb Ob=>pR.weak (h.h Hb Ob) λE σ H ⟨O,ρ,k,r,S,hF,hk⟩=>by
 obtain⟨O',S'⟩:=S.frz i;exact⟨O',TG.frz i ρ,k,r,S',hF,hk⟩⟩
theorem uH{X:Cx}{k k':Nat}{ps:av}{g:bE}{h:aQ}{x:Str}{p pos:Pos}{e:QP}{es:aR}(C:Callee X.prog X.w X.K X.mg X.base k x ps g)(hn:Ar ps.length g)(hr:dY k' X.A)(hk:k<=k')(ha:XA X (e::es) h)(hg:Gl X x:=by rfl)(hdb:(x==("__debug__":Str))=false:=by decide)(hns:(e::es).all noStar=true:=by rfl):XE X (.Call (.Name x p) (e::es) [] pos) (fR g h):=by
 refine⟨?_⟩;obtain⟨f,fd,F,b,kp,m⟩:=C;exact PE.weak (yE F (hr.mono hk) hg m kp b ha.h hdb (bu (NU _ _ ▸ hns).1) (cv (NU _ _ ▸ hns).2)) (xt hn)
end
section
variable[aw]{X:Cx}{a b c:QP}{fa fb fc:FX}{pos:Pos}
theorem xn{op op':Ri}{r r':R2}{g g':D->D->aY}(ho:ib X (Rj op) r)(s:cJ X.K r g)(ho':ib X (Rj op') r')(s':cJ X.K r' g')(ha:XE X a fa)(hb:XE X b fb)(hc:XE X c fc)(hm:lastMarks [op,op'] [b,c]=false:=by with_unfolding_all rfl):XE X (.Compare a [op,op'] [b,c] pos) (js g g' fa fb fc):=⟨PE.weak (Bk ho ho' ha.h hb.h hc.h hm) (oV s s')⟩
theorem xK{op op':Ri}{r r':R2}{g g':D->D->aY}(ho:ib X (Rj op) r)(s:cJ X.K r g)(ho':ib X (Rj op') r')(s':cJ X.K r' g')(ha:XE X a fa)(hb:XE X b fb)(hc:XE X c fc)(hm:lastMarks [op,op'] [b,c]=false:=by with_unfolding_all rfl):XT X (.Compare a [op,op'] [b,c] pos) (fB (js g g' fa fb fc)):=⟨PT.weak (zI ho ho' ha.h hb.h hc.h hm) (kr (oV s s'))⟩
theorem Dl(ha:XE X a fa):XE X (.UnaryOp .USub a pos) (uS fa):=⟨PE.weak (Ia EY ha.h) (Ey λx d v O H Q _ e dv q=>by
 cases x with
 |int i=>cases e;exact⟨i,eQ.mp dv,q _ H (aP.refl H) (eQ.mpr rfl)⟩
 |_=>cases e)⟩
theorem zm{x:Str}{i:Int}(hg:Gl X x)(hm:∃t,X.mg x=some (.int i t))(hd:(x==("__debug__":Str))=false:=by decide):XE X (.Name x pos) (fC (.int i)):=by
 refine⟨?_⟩;obtain⟨t,m⟩:=hm;exact iN (me (v:=.int i) hg m ⟨t,rfl⟩ hd) λ_ _=>eQ.mpr rfl
end
section
variable[aw]{X:Cx}
theorem BK{a b:QP}{es:aR}{k:Nat}{tpos:Pos}{f:aQ}{p pos:Pos}(hg:Gl X "zip")(hm:X.mg "zip"=none)(ha:XA X [a,b] f)(hs:Rf [a,b] X.env=(false,eval a X.env)::Rf [b] X.env:=by rfl)(hpl:(backTo pos (Rf [b] X.env)).any (·.1)=false:=by rfl):XI X (.Tuple es k tpos) (.Call (.Name "zip" p) [a,b] [] pos) (yf f):=by
 refine⟨?_⟩;rintro pins s σ H RR I ⟨O,ρ,E,hG⟩;have hA:=ha.h pos pins s σ H (λvs H1=>∃ds r,Ax ds=some r/\aG X.K (hid H1 O) ds vs/\∀J,Walk X.K (hid H1 O) J r->RR J H1) I ⟨O,ρ,E,(dJ.bind hG).imp λds hG vs H1 s1 d1=>by
  obtain⟨r,e,q⟩:=dJ.rO hG;exact⟨ds,r,e,d1,λJ wk=>q J H1 s1 wk⟩⟩
 refine QB (kI I hg hm PyProof.Rows.boot_zip (Qx (bU hA λus s1 ⟨vs,H1,I1,r1,ds,r,er,d1,q⟩=>?_) hs hpl));exact Gc I1 er d1 r1 q
theorem ou{a:QP}{es:aR}{k:Nat}{tpos:Pos}{f:aQ}{p pos:Pos}(hg:Gl X "enumerate")(hm:X.mg "enumerate"=none)(ha:XA X [a] f)(hs:Rf [a] X.env=(false,eval a X.env)::Rf [] X.env:=by rfl)(hpl:(backTo pos (Rf [] X.env)).any (·.1)=false:=by rfl):XI X (.Tuple es k tpos) (.Call (.Name "enumerate" p) [a] [] pos) (hV f):=by
 refine⟨?_⟩;rintro pins s σ H RR I ⟨O,ρ,E,hG⟩;have hA:=ha.h pos pins s σ H (λvs H1=>∃ds r,pC ds=some r/\aG X.K (hid H1 O) ds vs/\∀J,Walk X.K (hid H1 O) J r->RR J H1) I ⟨O,ρ,E,(dJ.bind hG).imp λds hG vs H1 s1 d1=>by
  obtain⟨r,e,q⟩:=dJ.rO hG;exact⟨ds,r,e,d1,λJ wk=>q J H1 s1 wk⟩⟩
 refine QB (kI I hg hm PyProof.Rows.boot_enumerate (Qx (bU hA λus s1 ⟨vs,H1,I1,r1,ds,r,er,d1,q⟩=>?_) hs hpl));exact Dh I1 er d1 r1 q
end
section
variable[aw]{X:Cx}{a o e:QP}{es:aR}{fa fo:FX}{fas:aQ}{f m x:Str}{cs:av}{pos apos p:Pos}{k k':Nat}{ps:av}
theorem DF(ok:dg X.K f cs)(h:XE X a fa)(hb:RC a f X.env (eval a X.env)=eval a X.env:=by rfl):XE X (.Attribute a f pos) (f1 (aX f cs) fa):=⟨PE.weak (GH h.h hb) λσ H Q ⟨O,ρ,E,hF⟩=>⟨O,ρ,E,(dJ.bind hF).imp λd hF v H1 s1 d1=>by
  obtain⟨r,e,q⟩:=dJ.rO hF;cases d with
  |obj c fs vs=>
   have e':(if cs.contains c then(fs.zip vs).lookup f else none)=some r:=e;cases hc:cs.contains c with
   |false=>rw[hc]at e';cases e'
   |true=>
    rw[hc]at e';obtain⟨a,ws,ev,g1,g2,C,dx,g3,g4⟩:=Jg.mp d1;obtain⟨w,l1,l2⟩:=nS g1 e';obtain⟨cl,na⟩:=ok c (List.contains_iff_mem.mp hc) C g3;exact⟨a,C,dx,_,w,ev,ax H1 O _ _ g4,cl,na,l1,q w H1 s1 l2⟩
  |_=>cases e⟩⟩
theorem zy{tbl : List (Str × (bE))}{pl : Sem Bool}(tb : nF X.prog X.w X.K X.mg X.base k m ps tbl)(hr : dY k' X.A)(hk : k <= k')(ho : XE X o fo)(ha : XA X (e :: es) fas)(hns : (e :: es).all noStar = true := by rfl)(ht : eval (.Call (.Attribute o m apos) (e :: es) [] pos) X.env = (do
      let ov<-eval o X.env
      standAt apos.atName
      let (f,first)<-holding [ov] (getMethod ov m pl)
      RE pos f first (backTo pos (Rf (e::es) X.env)) (backToKw pos (RF [] X.env))):=by rfl):XE X (.Call (.Attribute o m apos) (e::es) [] pos) (bf m tbl fo fas):=⟨sQ tb (hr.mono hk) ho.h (λpins s1 σ H1 O ρ a f od Q g fd _ kp F b ar I1 E1 dO hP=>by
    refine PR (first:=[.ref a]) (h₀:=X.base) I1.ok.mod.kin kp (bU (ha.h pos pins s1 σ H1 _ I1 ⟨O,ρ,E1,(dJ.bind hP).imp λas hP vs H2 s2 d2=>nR (vs:=.ref a::vs) ar (E1.all.same s2) (aI.mpr ⟨_,_,rfl,dO.mono (bn s2),d2⟩) ((hP.mono s2).imp λd q v H3 s3 d3=>q v H3 (s2.trans s3) d3)⟩) λus s2 ⟨vs,H2,I2,r,Ex,hx,q2⟩=>⟨I2.kIn,?_⟩) (bu (NU _ _ ▸ hns).1) (cv (NU _ _ ▸ hns).2);exact qO (us:=.ref a::us) (vs:=.ref a::vs) F (hr.mono hk) b hx I2 (.cons rfl r) q2) ht⟩
theorem xD{tbl : List (Str × (bE))}{pl : Sem Bool}(tb : nF X.prog X.w X.K X.mg X.base k m ps tbl)(hr : dY k' X.A)(hk : k <= k')(ho : XE X o fo)(ht : eval (.Call (.Attribute o m apos) [] [] pos) X.env = (do
      let ov<-eval o X.env
      standAt apos.atName
      let (f,first)<-holding [ov] (getMethod ov m pl)
      RE pos f first (backTo pos (Rf [] X.env)) (backToKw pos (RF [] X.env))):=by rfl):XE X (.Call (.Attribute o m apos) [] [] pos) (bf m tbl fo ai):=⟨sQ tb (hr.mono hk) ho.h (λpins s1 σ H1 O ρ a f od Q g fd _ kp F b ar I1 E1 dO hP=>by
    have hP':dJ X σ O H1 (g [od]) λd=>∀v H',aP H1 H'->bJ X.K (hid H' O) d v->Q v H':=hP;obtain⟨Ex,hx,q2⟩:=nR (vs:=[.ref a]) ar E1.all (aI.mpr ⟨_,_,rfl,dO,bB.mpr rfl⟩) hP';exact Qk (first:=[.ref a]) I1.kIn kp (qO (us:=[.ref a]) (vs:=[.ref a]) F (hr.mono hk) b hx I1 (.cons rfl .nil) q2)) ht⟩
theorem DL{c:Str}{fs:av}(IA:eF X.prog X.w X.K X.mg X.base k c ps fs)(hr:dY k' X.A)(hk:k+1<=k')(hg:Gl X c)(ha:XA X (e::es) fas)(hdb:(c==("__debug__":Str))=false:=by decide)(hns:(e::es).all noStar=true:=by rfl):XE X (.Call (.Name c p) (e::es) [] pos) (fNew c fs fas):=by
 refine⟨?_⟩;obtain⟨C,f,fd,h1,h2,h3,h4,h5⟩:=IA;refine PE.weak (Do (dvs:=[]) (E:=E0) h2 h3 (hr.mono hk) hg h5 h4 .nil Ea ha.h hdb (bu (NU _ _ ▸ hns).1) (cv (NU _ _ ▸ hns).2)) λσ H Q ⟨O,ρ,E,hF⟩=>⟨O,ρ,E,(dJ.bind hF).imp λas hF vs H1 s1 d1 x dx hx hd ne=>?_⟩
 by_cases hl:as.length=fs.length
 ·rw[if_pos hl]at hF;rw[ND];refine⟨x,dx,vs,rfl,by rw[<-d1.length,hl],by rw[aq],rfl,?_⟩;obtain⟨sm,dn⟩:=lq h1 hl d1 (E.all.same s1) hx hd ne;exact hF _ _ (s1.trans sm) dn
 ·rw[if_neg hl]at hF;exact hF.elim
end
section
variable[aw]{X:Cx}
theorem z8{a e : QP}{es : aR}{fa : FX}{fs : aQ}{apos cpos : Pos}(ha : XE X a fa)(hs : XA X (e :: es) fs)(hbase : RC a "join" X.env (eval a X.env) = eval a X.env := by rfl)(hfew : ((backTo cpos (Rf (e :: es) X.env)).all (fun x => !x.1) && (backToKw cpos (RF [] X.env)).all (fun x => x.1.isSome)
      && decide ((e::es).length+([]:List RZ).length+(if([]:List RZ).isEmpty then 0 else 1)<30))=true:=by rfl)(hline:(apos.endLine==cpos.line)=true:=by rfl)(hst:Rf (e::es) X.env=(false,eval e X.env)::Rf es X.env:=by rfl)(hplain:(backTo cpos (Rf es X.env)).any (·.1)=false:=by rfl):XE X (.Call (.Attribute a "join" apos) (e::es) [] cpos) (ki fa fs):=⟨PE.weak (zP F.plainAttrs_str F.slot_str_join F.type_str_join CU ha.h hs.h hbase hfew hline hst hplain) λσ H Q ⟨O,ρ,E,hF⟩=>⟨O,ρ,E,(dJ.bind hF).imp λx hF v H1 s1 d1=>by
    obtain⟨z,ez,hF⟩:=dJ.rO (dJ.bind hF);rw[CV ez d1];exact⟨rfl,O,ρ,E.same s1,((dJ.bind hF).mono s1).imp λds hF vs H2 s2 d2=>by
      obtain⟨d,e,q⟩:=dJ.rO hF;exact qx e d2 λw dw=>q w H2 (s1.trans s2) dw⟩⟩⟩
end
section
variable[aw]{X:Cx}{C:QO}{pins:aM}{σ:St}{H:Hp}{s:QR}{Q:VK}
theorem A0{c:Str}{p pos:Pos}(NA:A4 X.K X.mg c)(hg:Gl X c)(hdb:(c==("__debug__":Str))=false:=by decide):XE X (.Call (.Name c p) [] [] pos) (fC (.obj c [] [])):=by
 refine⟨?_⟩;obtain⟨C,h1,h2,h3⟩:=NA;rintro pins s σ H Q I ⟨O,ρ,E,hF⟩;refine RM (g9 I hg h3 ?_ hdb);refine Qk I.kIn h2.kp (run_plain h2 I λx dx hx hd ne=>?_);obtain⟨sm,dn⟩:=lq (fs:=[]) (as:=[]) (vs:=[]) h1 rfl (bB.mpr rfl) E.all hx hd ne;have e:upd (upd (upd H dx (.own x)) x (.ins C dx [])) x (.ins C dx (([]:av).zip []))=upd (upd H dx (.own x)) x (.ins C dx []):=by rw[jX];rfl
 rw[e]at sm dn;exact hF _ _ sm dn
end
section
variable[aw]{X:Cx}{p pos:Pos}{e:QP}{C:QO}
theorem Dz{f:FX}{x:Str}{p2:Pos}{yes no:av}(h:sr X.K X.mg x yes no)(hg:Gl X "isinstance")(hm:X.mg "isinstance"=none)(hgx:Gl X x)(he:XE X e f)(hd2:(x==("__debug__":Str))=false:=by decide)(hns:noStar e=true:=by rfl):XE X (.Call (.Name "isinstance" p) [e,.Name x p2] [] pos) (f1 (oK yes no) f):=by
 refine⟨?_⟩;obtain⟨C,hC,hy,hn⟩:=h;exact PE.weak (fZ zv hg hm iF (dm he.h (dm (me (v:=.ref C) hgx hC rfl hd2) jw (bu rfl)) (bu hns)) (by decide) (by decide) (bu hns) (cv rfl)) λσ H Q ⟨O,ρ,E,hF⟩=>⟨O,ρ,E,(dJ.bind hF).imp λa hF v H1 s1 d1=>by
  obtain⟨d,e,q⟩:=dJ.rO hF;unfold oK at e;split at e
  ·rename_i c fs vs;obtain⟨a,ws,rfl,_,_,D,dx,hcl,ha⟩:=Jg.mp d1;by_cases h1:yes.contains c=true
   ·rw[if_pos h1]at e;cases e;exact⟨a,D,dx,_,rfl,ax _ _ _ _ ha,.inl ⟨hy c (by simpa using h1) D hcl,q _ H1 s1 (gF.mpr rfl)⟩⟩
   ·rw[if_neg h1]at e;obtain⟨h2,h3⟩:=bb e;subst h3;obtain⟨cl,n⟩:=hn c (by simpa using h2) D hcl;exact⟨a,D,dx,_,rfl,ax _ _ _ _ ha,.inr ⟨cl,n,q _ H1 s1 (gF.mpr rfl)⟩⟩
  ·cases e⟩
end
section
variable[aw]{X:Cx}{pos:Pos}
theorem yd{x:Str}{e:QP}{es:aR}{f:aQ}{np cpos:Pos}(hc:X.calm=true)(hx:ExcAt X.K X.mg x)(hg:Gl X x)(ha:XA X (e::es) f)(hdb:(x==("__debug__":Str))=false:=by decide)(hns:(e::es).all noStar=true:=by rfl):XS X (.Raise (some (.Call (.Name x np) (e::es) [] cpos)) none pos) (dF x f):=⟨λHb Ob pins s σ H E I ⟨O,ρ,k,r,S,hF,hk⟩=>by
 obtain⟨C,cl,hm,hi⟩:=hx;obtain⟨tl,N,nm,q,bs,hdct,sn,sub,ab,col,dd,k0,k1,k2,k3,k5,mN,hC,hN,hni,T⟩:=(BM I.mod.kin hi x).obj;have st:Rf (e::es) X.env=_:=bu (NU _ _ ▸ hns).1;have plain:(backTo cpos (Rf (e::es) X.env)).any (·.1)=false:=cv hns;refine wpAny_Raise_call_subT (k5:=k5) (k3:=k3) (k2:=k2) (k1:=k1) (k0:=k0) (dd:=dd) (col:=col) (ab:=ab) (sub:=sub) (sn:=sn) (hdct:=hdct) (bs:=bs) (N:=N) (q:=q) (nm:=nm) QL (mN:=mN) (T.hasType PySem.F.excBase_ValueError.hasBase) (I.ok.hd hc) plain hni (g9 I hg hm ⟨rfl,?_⟩ hdb);have A1:=ha.h cpos pins s σ H (λvs H1=>vs.length<=QW/\aP H H1/\k.ex ⟨x,[],[]⟩ ρ=r) I ⟨O,ρ,S.env,dJ.on hF hk S λds e vs H' s' d'=>by
  have z:small ds.length=true:=by
   cases z:small ds.length with
   |true=>rfl
   |false=>rw[z]at e;exact absurd e.symm hk.ne
  rw[z]at e;exact⟨by rw[<-d'.length];exact b8 z,s',e⟩⟩
 rw[st]at A1 ⊢;refine Calls.evalArgs_plain (bU A1 λus s2 ⟨vs,H1,I1,rv,q1,q2,q3⟩=>⟨rfl,by rw[<-rv.length];exact q1,I1.bk _ _ hC,hN.keeps I1.bk,T.keeps I1.bk,λh' a m=>?_⟩);exact hk.ex O ρ σ H1 _ (S.same q2) q3 pins _ _ H1 (I1.kept (t':=s2.toks) m.keeps) (aP.refl H1) ⟨a,C,none,rfl,⟨cl,[],bB.mpr rfl,rfl,.inl rfl⟩,Av I1 m⟩⟩
end
section
variable[aw]{X:Cx}{p pos:Pos}{e:QP}
theorem zr{f:FX}{x:Str}{p2:Pos}{tbl:jl}(h:cm X.K X.mg x tbl)(hg:Gl X "isinstance")(hm:X.mg "isinstance"=none)(hgx:Gl X x)(he:XE X e f)(hd2:(x==("__debug__":Str))=false:=by decide)(hns:noStar e=true:=by rfl):XE X (.Call (.Name "isinstance" p) [e,.Name x p2] [] pos) (f1 (gh tbl) f):=by
 refine⟨?_⟩;obtain⟨C,hC,h⟩:=h;exact PE.weak (fZ (pN (tv:=.ref C) (T:=.ref C) λu r=>r) hg hm iF (dm he.h (dm (me (v:=.ref C) hgx hC rfl hd2) jw (bu rfl)) (bu hns)) (by decide) (by decide) (bu hns) (cv rfl)) (D3 h)
theorem wK{f:FX}{x:Str}{T:String}{p2:Pos}{tbl:jl}(h:rV X.K (.type T) tbl)(hg:Gl X "isinstance")(hm:X.mg "isinstance"=none)(hgx:Gl X x)(hmx:X.mg x=none)(hv:QY x=some (.type T))(he:XE X e f)(hn2:x≠"__name__":=by decide)(hd2:(x==("__debug__":Str))=false:=by decide)(hns:noStar e=true:=by rfl):XE X (.Call (.Name "isinstance" p) [e,.Name x p2] [] pos) (f1 (gh tbl) f):=⟨PE.weak (fZ (pN (tv:=.ty T) (T:=.type T) λu r=>r) hg hm iF (dm he.h (dm (vC (v:=.ty T) hgx hmx hv rfl hn2 hd2) jw (bu rfl)) (bu hns)) (by decide) (by decide) (bu hns) (cv rfl)) (D3 h)⟩
theorem Aa{f:FX}{k:_}{p2:Pos}{es:aR}{tbl:jl}{tbls:List jl}(hl:Aw X es (tbl::tbls))(hs:es.length<=1000)(hg:Gl X "isinstance")(hm:X.mg "isinstance"=none)(he:XE X e f)(hns:noStar e=true:=by rfl):XE X (.Call (.Name "isinstance" p) [e,.Tuple es k p2] [] pos) (f1 (vt (tbl::tbls)) f):=by
 refine⟨?_⟩;obtain⟨cs,hlen,hp,ha⟩:=Dt hl;refine PE.weak (fZ (wG (cs:=cs)) hg hm iF (dm he.h (dm (yU hp) jw (bu rfl)) (bu hns)) (by decide) (by decide) (bu hns) (cv rfl)) λσ H Q ⟨O,ρ,E,hF⟩=>⟨O,ρ,E,(dJ.bind hF).imp λa hF v H1 s1 d1=>?_⟩
 obtain⟨d,e,q⟩:=dJ.rO hF;unfold vt at e;split at e
 ·rename_i c fs0 vs0;cases e2:xQ c (tbl::tbls)with
  |none=>rw[e2]at e;cases e
  |some b=>
   rw[e2]at e;cases e;obtain⟨a,ws,rfl,_,_,D,dx,hcl,hx,_⟩:=IY.mp d1;have F:jv X.K D:=by
    cases hl with
    |cons h _ _ _=>
     obtain⟨C,_,hk⟩:=h;unfold xQ at e2;split at e2
     ·rename_i z;exact(hk c _ z D hcl).1
     ·rename_i z;exact(hk c _ z D hcl).1
     ·cases e2
   have hx':H1 a=some (.ext (mY D a dx)):=ax _ _ _ _ hx;refine⟨by rw[Ny,hlen];exact b8 (eA ‹0›),λt ht=>⟨a,t,D,dx,b,rfl,?_,aq,F,ha c b e2 D hcl,q _ _ (s1.trans (bV ht _)) (gF.mpr rfl)⟩⟩;rw[ak (aK hx' ht)];exact hx'
 ·cases e
theorem wJ{a e : QP}{fa : FX}{fs : aQ}{apos cpos : Pos}(hu : X.A.units + 64 < RG)(ha : XE X a fa)(hs : XA X [e] fs)(hbase : RC a "index" X.env (eval a X.env) = eval a X.env := by rfl)(hfew : ((backTo cpos (Rf [e] X.env)).all (fun x => !x.1) && (backToKw cpos (RF [] X.env)).all (fun x => x.1.isSome)
      && decide (([e]:aR).length+([]:List RZ).length+(if([]:List RZ).isEmpty then 0 else 1)<30))=true:=by rfl)(hline:(apos.endLine==cpos.line)=true:=by rfl)(hst:Rf [e] X.env=(false,eval e X.env)::Rf [] X.env:=by rfl)(hplain:(backTo cpos (Rf [] X.env)).any (·.1)=false:=by rfl):XE X (.Call (.Attribute a "index" apos) [e] [] cpos) (uy fa fs):=⟨PE.weak (zP PySem.F.plainAttrs_list QK PySem.F.type_list_index (A8 hu) ha.h hs.h hbase hfew hline hst hplain) λσ H Q ⟨O,ρ,E,hF⟩=>⟨O,ρ,E,(dJ.bind hF).imp λx hF v H1 s1 d1=>by
    cases x with
    |lst ys=>
      obtain⟨p,vs,rfl,g1,g2⟩:=bP.mp d1;have g1':=(ax H1 O).seq g1;refine⟨.inl ⟨rfl,vs,g1'⟩,O,ρ,E.same s1,((dJ.bind hF).mono s1).imp λds hF ws H2 s2 d2=>?_⟩
      match ds,hF,d2 with
      |[b],hF,d2=>
        obtain⟨w,rfl,db⟩:=d2.one;obtain⟨d,e,q⟩:=dJ.rO hF;refine⟨H1,p,ys,vs,b,w,d,s2,rfl,rfl,g1',(g2.mono (ax H1 O)).mono s2,db.mono (ax H2 O),e,λw' dw=>q w' H2 (s1.trans s2) ?_⟩;have hg':(if(pl b&&lh ys)&&dD 8 b then(rP b ys).map (λ(j:Nat)=>D.int (j:Int))else none)=some d:=e;split at hg'
        · obtain⟨j,_,ed⟩:=Option.map_eq_some_iff.mp hg'
          subst ed;exact eQ.mpr (eQ.mp dw)
        ·cases hg'
      |[],hF,_=>exact hF.elim
      |_::_::_,hF,_=>exact hF.elim
    |_=>exact hF.elim⟩⟩
end
section
variable[aw]{X:Cx}{o e f:QP}{apos cpos:Pos}
theorem wH{fo fk fx : FX}(hu : X.A.units + 64 < RG)(ho : XE X o fo)(he : XE X e fk)(hf : XE X f fx)(hbase : RC o "get" X.env (eval o X.env) = eval o X.env := by rfl)(hfew : ((backTo cpos (Rf [e, f] X.env)).all (fun x => !x.1) && (backToKw cpos (RF [] X.env)).all (fun x => x.1.isSome)
      && decide (([e,f]:aR).length+([]:List RZ).length+(if([]:List RZ).isEmpty then 0 else 1)<30))=true:=by rfl)(hline:(apos.endLine==cpos.line)=true:=by rfl)(htr:backTo cpos (Rf [e,f] X.env)=[(false,eval e X.env),(false,eval f X.env)]:=by rfl):XE X (.Call (.Attribute o "get" apos) [e,f] [] cpos) (n0 fo fk fx):=⟨PE.weak (xO ‹0› ho.h he.h hf.h ⟨hbase,hfew,hline,htr⟩) λσ H Q ⟨O,ρ,E,hF⟩=>⟨O,ρ,E,(dJ.bind hF).imp λdd hF v H1 s1 d1=>by
    cases dd with
    |dct ks ds=>
      obtain⟨a,vs,rfl,_,hd⟩:=id (IJ.mp d1);refine⟨a,rfl,?_,O,ρ,E.same s1,((dJ.bind hF).mono s1).imp λk hF y H2 s2 d2=>⟨O,ρ,(E.same s1).same s2,((dJ.bind hF).mono (s1.trans s2)).imp λx hF z H3 s3 d3=>?_⟩⟩
      · rcases hd with⟨kvs,e1,_⟩|⟨kvs,e1,_⟩|⟨kvs,o,e1,_⟩
        ·exact .inl ⟨kvs,.inl ((ax H1 O) _ _ e1)⟩
        ·exact .inr ⟨kvs,.inl ((ax H1 O) _ _ e1)⟩
        ·exact .inr ⟨kvs,.inr ⟨o,(ax H1 O) _ _ e1⟩⟩
      · obtain⟨d,hg,q⟩:=dJ.rO hF
        obtain⟨al,qk,f1,f2,f3,f4⟩:=ux hg;subst f1 f2 f3 f4;have s23:=s2.trans s3;have d1':bJ X.K (hid H3 O) (wQ al) (.ref a):=d1.mono (bn s23);have d2':=d2.mono (bn s3);obtain⟨b,ws,eb,g1,g2⟩:=bQ.mp d2';rw[kN g2]at g1;have g1':=(ax H3 O) _ _ g1;obtain⟨a',ea,hh⟩:=zS d1';cases ea;subst eb;rcases hh with⟨kvs,k1,k2,k3⟩|⟨k1,rfl⟩
        · refine⟨gr kvs qk,.inl (qR.t ((ax H3 O) _ _ k1) g1'),q _ H3 (s1.trans s23) ?_⟩
          rcases sJ qk k2 k3 with⟨z1,z2⟩|⟨w,d,z1,z2,z3⟩
          ·rw[z1,z2];exact d3
          ·rw[z1,z2];exact z3
        ·exact⟨none,.inr ⟨(ax H3 O) _ _ k1,rfl,b,qk,rfl,g1'⟩,q _ H3 (s1.trans s23) d3⟩
    |_=>exact hF.elim⟩⟩
end
section
variable[aw]
theorem uc{X:Cx}{pos:Pos}{x:Str}{e:QP}{es:aR}{f:aQ}{np cpos:Pos}{k k':Nat}{ps fs:av}(hc:X.calm=true)(hx:X.ex=[])(RA:mD X.prog X.w X.K X.mg X.base k x ps fs)(hr:dY k' X.A)(hk':k+1<=k')(hg:Gl X x)(ha:XA X (e::es) f)(hdb:(x==("__debug__":Str))=false:=by decide)(hns:(e::es).all noStar=true:=by rfl):XS X (.Raise (some (.Call (.Name x np) (e::es) [] cpos)) none pos) (qJ x fs f):=⟨λHb Ob pins s σ H D I h=>by
 obtain⟨O,ρ,k1,r,S,hF,hk⟩:=h;obtain⟨C,fI,fd,cl,EI,F,hb,hm⟩:=RA;obtain⟨nm,q,N,bs,bm,hdct,sn,sub,ab,col,dd,l0,l1,l2,l3,l5,hcls⟩:=EI.cls;have st:Rf (e::es) X.env=_:=bu (NU _ _ ▸ hns).1;rw[arm_exec_Raise];have hT:=(hcls _ I.kIn).2.2;refine Rq (R1 (uT (C:=C) (nm:=nm) (q:=q) (N:=N) (bs:=bs) (bm:=bm) (hdct:=hdct) (sn:=sn) (sub:=sub) (ab:=ab) (col:=col) (dd:=dd) (k0:=l0) (k1:=l1) (k2:=l2) (k3:=l3) (k5:=l5) (newId:="ValueError.__new__") (hT.hasType PySem.F.excBase_ValueError.hasBase) (I.ok.hd hc) ?_));refine Rq (Rg ?_ (λv s' z=>Rq (R1 (Rp z))) λ_ _ z=>z);refine RM (g9 I hg hm ?_ hdb);have A1:=ha.h cpos pins s σ H (λvs H1=>∃ds,vs.length=fs.length/\vs.length<=QW/\aP H H1/\aG X.K (hid H1 O) ds vs/\k1.ex ⟨x,fs,ds⟩ ρ=r) I ⟨O,ρ,S.env,dJ.on hF hk S λds e vs H' s' d'=>by
  cases z:(small ds.length&&ds.length==fs.length)with
  |false=>rw[z]at e;exact absurd e.symm hk.ne
  |true=>
   rw[z]at e;rw[NU,beq_iff_eq]at z;exact⟨ds,by rw[<-d'.length];exact z.2,by rw[<-d'.length];exact b8 z.1,s',d',e⟩⟩
 refine PR (h₀:=X.base) I.ok.mod.kin EI.kp (bU A1 λus s1 h1=>?_) st (cv (NU _ _ ▸ hns).2);obtain⟨vs,H1,I1,rv,ds,hl,hz,sm,dn,hex⟩:=h1;refine⟨I1.kIn,?_⟩;obtain⟨hC,⟨mN,hN,hi⟩,T⟩:=hcls _ I1.kIn;obtain⟨oI,hoI,hcI⟩:∃o,s1.heap.get? fI=some o/\o.cls=.type "function":=by
  have z:(X.K.lookup fI).map (·.cls)=some (.type "function"):=EI.fn;cases y:X.K.lookup fI with
  |none=>rw[y]at z;cases z
  |some o=>rw[y]at z;exact⟨o,I1.kIn _ _ y,Option.some.inj z⟩
 refine oz (h:=s1.heap) (g:=s1.gens) (d:=s1.drawn) (t:=s1.toks) (os:=s1.os) QL (by decide +kernel) QL T hC hN hi hoI hcI (λh' ee m=>?_) (show us.length<=QW by rw[<-rv.length];exact hz);obtain⟨t,m1,m2,m3⟩:=m.there;have nf:=ph I1 hx m.new;have I2:=adopt (ob:=.ext (oE C ee t)) (I1.kept (t':=s1.toks) m.keeps) nf.1 nf.2.1 nf.2.2.1 nf.2.2.2.1 nf.2.2.2.2 (CZ ⟨_,m1,rfl,rfl,rfl⟩);have r2:Vals (V.ref ee::vs) (Value.ref ee::us):=.cons rfl rv;have dne:∀d,upd H1 ee (.ext (oE C ee t)) d=none->d≠ee:=λd z w=>by rw[w,aq]at z;cases z
 have spec:Lq C fs (V.ref ee::vs) (upd H1 ee (.ext (oE C ee t))) (λv H3=>v=.non/\∃d,H1 d=none/\d≠ee/\H3=upd (upd H1 d (.own ee)) ee (.ext (fQ C ee t d (fs.zip vs)))) E0:=⟨ee,t,vs,rfl,hl,aq,λd hd ne=>⟨rfl,d,by rw[ak ne]at hd;exact hd,ne,by
  funext b;by_cases z:b=ee
  ·rw[z,aq,aq]
  ·rw[ak z,ak z];by_cases y:b=d
   ·rw[y,aq,aq]
   ·rw[ak y,ak z,ak y]⟩⟩
 have hlen:(Value.ref ee::us++[]).length=ps.length:=by
  have:=r2.length
  rw[F.len _ _ _ _ spec]at this;rw[ND];exact this.symm
 have hb':=hb {s1 with heap:=h'} (Value.ref ee::us) I2.kIn hlen;rw[ND]at hb';refine RK (RL (F.run _ X.stack _ _ ⟨Value.ref ee::us,[]⟩ (Value.ref ee::us) _ _ E0 ((hr.mono hk').make C us []) (I2.env0.make C us []) hb' r2 spec) λr s' hq'=>?_);cases r with
 |error e=>exact Ea pins σ _ _ e s' I2 hq'
 |ok fl=>
  cases fl with
  |ret u=>
   obtain⟨v,H',I3,rv',⟨ev,d,hd,ne,eH⟩⟩:=I2.after hq';subst ev eH;refine⟨rv',?_⟩;obtain⟨I4,fl,sl,he⟩:=Ce I1 hx m.new hd I3;have s14:aP H1 (upd H1 d (.xd (fs.zip vs))):=λb o z=>by rw[ak (aK z hd)];exact z
   have dO:d∉O:=(S.env.all.same sm).not hd;exact⟨ee,t,some d,sl,rfl,(hcls _ I4.kIn).1,he,hk.ex O ρ σ _ _ (S.same (sm.trans s14)) hex pins s' _ _ I4 (aP.refl _) ⟨ee,C,some d,rfl,⟨cl,vs,dn.mono (bn s14),hl.symm,.inr ⟨d,rfl,by rw[fT dO];exact aq⟩⟩,fl⟩⟩
  |next=>exact False.elim hq'
  |brk=>exact False.elim hq'
  |cont=>exact False.elim hq'⟩
end
section
variable[aw]{X:Cx}
theorem A2{o e:QP}{fo fk:FX}{pos:Pos}(hu:X.A.units+64<RG)(ho:XE X o fo)(hi:XE X e fk)(hs:Ew e):XE X (.Subscript o e pos) (f2 pz fo fk):=⟨PE.weak (CO ‹0› ho.h hi.h hs) λσ H Q ⟨O,ρ,E,hF⟩=>⟨O,ρ,E,(dJ.bind hF).imp λdd hF v H1 s1 d1=>⟨O,ρ,E.same s1,((dJ.bind hF).mono s1).imp λk hF y H2 s2 d2=>by
  obtain⟨d,hg,q⟩:=dJ.rO hF;unfold pz at hg;cases e:Ek dd k with
  |none=>rw[e]at hg;cases hg
  |some o=>
   rw[e]at hg;have hg:o=some d:=hg;subst hg;obtain⟨al,qk,rfl,rfl,z0⟩:=tu e;obtain⟨a,ea,hh⟩:=tU (d1.mono (bn s2));have ey:=iS d2;subst ey;rcases hh with⟨kvs,k1,k2,k3⟩|⟨_,rfl⟩
   ·rcases mZ qk k2 k3 with⟨_,z2⟩|⟨w,d',z1,z2,z3⟩
    ·rw[z2]at z0;cases z0
    ·rw[z2]at z0;cases z0;exact⟨a,w,ea,by rw[<-z1];exact qR.k ((ax H2 O) _ _ k1),q w H2 (s1.trans s2) z3⟩
   ·cases z0⟩⟩⟩
theorem wy{k v:QP}{fk fv:FX}{pos:Pos}(hk:XE X k fk)(hv:XE X v fv):XE X (.Dict [some k] [v] pos) (eJ [(fk,fv)]):=⟨mQ (fs:=[(fk,fv)]) (eZ hk.h hv.h mJ) rfl rfl (by simp) (by simp)⟩
theorem xX{k v k' v':QP}{fk fv fk' fv':FX}{pos:Pos}(hk:XE X k fk)(hv:XE X v fv)(hk':XE X k' fk')(hv':XE X v' fv'):XE X (.Dict [some k,some k'] [v,v'] pos) (eJ [(fk,fv),(fk',fv')]):=⟨mQ (fs:=[(fk,fv),(fk',fv')]) (eZ hk.h hv.h (eZ hk'.h hv'.h mJ)) rfl rfl (by simp) (by simp)⟩
theorem xH{k v k' v' k2 v2:QP}{fk fv fk' fv' fk2 fv2:FX}{pos:Pos}(hk:XE X k fk)(hv:XE X v fv)(hk':XE X k' fk')(hv':XE X v' fv')(hk2:XE X k2 fk2)(hv2:XE X v2 fv2):XE X (.Dict [some k,some k',some k2] [v,v',v2] pos) (eJ [(fk,fv),(fk',fv'),(fk2,fv2)]):=⟨mQ (fs:=[(fk,fv),(fk',fv'),(fk2,fv2)]) (eZ hk.h hv.h (eZ hk'.h hv'.h (eZ hk2.h hv2.h mJ))) rfl rfl (by simp) (by simp)⟩
end
section
variable[aw]{X:Cx}{pos:Pos}
theorem yc{k v:QP}{fk fv:FX}{pos:Pos}(hk:XE X k fk)(hv:XE X v fv):XN X (.Dict [some k] [v] pos) (eJ [(fk,fv)]):=⟨xI (fs:=[(fk,fv)]) (eZ hk.h hv.h mJ) rfl rfl (by simp) (by simp)⟩
end
theorem Ck{X:Cx}{pos:Pos}{body suite:cF}{b₀:QQ}{g n:Str}{gp hpos:Pos}{F Fh:bw}{cs:av}{i:Nat}(hx:X.ex=[])(hst:X.stack=X.env::X.outer)(hf:X.env.frame=some X.env.locals)(hfn:∀x,X.fn x=true)
  (hT:tW X.K X.mg g cs) (hg:Gl X g) (hN:X.N.Nodup) (hi:X.N[i]?=some n) (hl:X.env.scope.names.lookup n=some .local)
  (hb:∀E pn,Rn (model X.prog X.w) X.A X.env E->oi (rX X E pn) body F) (hs:∀A pn,A.depth=X.A.depth->A.units=X.A.units->oi (nX X A pn) (b₀::suite) Fh) (hdb:(g==("__debug__":Str))=false:=by decide):
  XS X (.Try body [.ExceptHandler (some (.Name g gp)) (some n) (b₀::suite) hpos] [] [] pos) (xf cs i F Fh):=⟨TG.K4 hx hst hf hfn hT hg hN hi hl (λE pn hp=>(hb E pn hp).h) (λA pn h1 h2=>(hs A pn h1 h2).h) hdb⟩
noncomputable abbrev Lk(K:Pn)(f:QO)(nm qual:Str)(st:QQ)(oc:QM)(od:Option QO)(kV dc pm:QM)(an:Option QO)(cd ct:QM)(sl:Array gZ):Prop:=K.lookup f=some ⟨oc,od,.func (PX nm qual (gO st) (cU st) (aF st) .none kV dc pm an cd ct),sl⟩
structure vZ(P:QT)(w:QS)(K:Pn)(mg:bF)(base:QV)(k:Nat)(N:av)(qual:Str)(st:QQ)(f:QO)(B:bw):Prop where
 h:∀(cdv:QM)(A:QZ)(outer:List Env)(s:QR)(H:Hp)(E:XK),dY k (A.deeper (Qz qual (aF st) s.heap.objs.size f cdv))->Rn (model P w) (A.deeper (Qz qual (aF st) s.heap.objs.size f cdv)) (Qz qual (aF st) s.heap.objs.size f cdv) (ir (jM P w) P w K mg base N qual (aF st) f cdv A outer s H E).xe->
  oi (ir (jM P w) P w K mg base N qual (aF st) f cdv A outer s H E) (cU st) B
theorem vZ.ok{P:QT}{w:QS}{K:Pn}{mg:bF}{base:QV}{k:Nat}{N:av}{qual:Str}{st:QQ}{f:QO}{B:bw}(h:vZ P w K mg base k N qual st f B):BodyOk P w K mg base k N qual st f B:=⟨λcdv A outer s H E hr hp=>(h.h cdv A outer s H E hr hp).h⟩
section
variable{X:Cx}{x:Str}{pos:Pos}
theorem xw(i:Nat)(hN:X.N[i]?=some x:=by rfl)(hv:Fq X.env.scope x:=by first|exact Or.inl rfl|exact Or.inr (Or.inl rfl)|exact Or.inr (Or.inr rfl))(hd:(x==("__debug__":Str))=false:=by decide)(hcd:(x==("__classdict__":Str))=false:=by decide):XE X (.Name x pos) (af i):=C4 (xv i hN hv hd hcd)
theorem xi{a b:QP}{fa fb:FX}(ha:XE X a fa)(hb:XE X b fb)(hs:qo b:=by exact λ_ _=>rfl):XE X (.Subscript a b pos) (f2 ap fa fb):=GP ha hb hs
theorem xa1{e:QP}{f:FX}(he:XE X e f)(h:noStar e=true:=by rfl):XA X [e] (aa f ai):=nK he vB h
theorem xa2{e e':QP}{f f':FX}(he:XE X e f)(he':XE X e' f')(h:noStar e=true:=by rfl)(h':noStar e'=true:=by rfl):XA X [e,e'] (aa f (aa f' ai)):=nK he (xa1 he' h') h
theorem xs(i:Nat){e:QP}{f:FX}{pos':Pos}(hN:X.N.Nodup)(he:XE X e f)(hi:X.N[i]?=some x:=by rfl)(hx:Loc X.env.scope x:=by first|exact Or.inl rfl|exact Or.inr rfl)(hs:swapsWith e (some (.Name x pos')) pos.line X.env=pure false:=by rfl)(hf:X.fn x=true\/X.env.scope.names.lookup x=some .local:=by first|exact .inl rfl|exact .inr rfl|assumption):XS X (.Assign [.Name x pos'] e pos) (aO i f):=Cy hN hi hx he hs hf
end
noncomputable def Jr:av->Bool
 |[]=>true
 |x::r=>!(r.contains x)&&Jr r
theorem pZ{l:av}(h:Jr l=true):l.Nodup:=by
 induction l with
 |nil=>exact O2
 |cons x r ih=>
  simp only[Jr,NU,OX]at h;exact List.nodup_cons.mpr ⟨λm=>by rw[List.contains_iff_mem.mpr m]at h;exact absurd h.1 (by decide),ih h.2⟩
noncomputable def Eg:QP->av
 |.Name x _=>[x]
 |.Tuple es _ _=>es.filterMap λe=>match e with
  |.Name x _=>some x
  |_=>none
 |_=>[]
noncomputable def Ac(N:av):eD->av->av
 |[],_=>[]
 |some j::r,t=>N.getD j ""::Ac N r t
 |none::r,x::t=>x::Ac N r t
 |none::r,[]=>""::Ac N r []
section
variable{X:Cx}{elt tg iter:QP}{ifs:aR}{scope:Ra}{ix:eD}{G:aQ}{g:GF}{C:bx}{Fe:FX}{i:Nat}{y:Str}{lpos py pos:Pos}
theorem xl(hc:X.calm=true)(tk:lP ix g)(hi:XI X tg iter G)(hb:oC X scope (Ac X.N ix (Eg tg)) tg elt ifs g C Fe)(ok:ja X.env.scope.names X.N scope (Ac X.N ix (Eg tg)) ix=true:=by rfl)(hs:∀x,Rt iter X.env x=pure x:=by intro _;rfl):XE X (.ListComp elt [⟨tg,iter,ifs,0⟩] scope pos) (eE ix G g C Fe):=EK hc (.of ok) tk hi hb hs
theorem MU(hc:X.calm=true)(tk:lP ix g)(hi:XI X tg iter G)(hb:oC X scope (Ac X.N ix (Eg tg)) tg elt ifs g C Fe)(ok:ja X.env.scope.names X.N scope (Ac X.N ix (Eg tg)) ix=true:=by rfl)(hs:∀x,Rt iter X.env x=pure x:=by intro _;rfl):XN X (.ListComp elt [⟨tg,iter,ifs,0⟩] scope pos) (eE ix G g C Fe):=Gw hc (.of ok) tk hi hb hs
theorem MM(hN:X.N.Nodup)(hc:X.calm=true)(tk:lP ix g)(hi:XI X tg iter G)(hb:oC X scope (Ac X.N ix (Eg tg)) tg elt ifs g C Fe)(hi':X.N[i]?=some y:=by rfl)(hx:Loc X.env.scope y:=by first|exact Or.inl rfl|exact Or.inr rfl)(ok:ja X.env.scope.names X.N scope (Ac X.N ix (Eg tg)) ix=true:=by rfl)(hsw:swapsWith (.ListComp elt [⟨tg,iter,ifs,0⟩] scope lpos) (some (.Name y py)) pos.line X.env=pure true:=by rfl)(hs:∀x,Rt iter X.env x=pure x:=by intro _;rfl)(hf:X.fn y=true\/X.env.scope.names.lookup y=some .local:=by first|exact .inl rfl|exact .inr rfl|assumption):XS X (.Assign [.Name y py] (.ListComp elt [⟨tg,iter,ifs,0⟩] scope lpos) pos) (aO i (eE ix G g C Fe)):=GN hN hi' hx hc (.of ok) tk hi hb hsw hs hf
theorem MP(hN:X.N.Nodup)(hc:X.calm=true)(tk:lP ix g)(hi:XI X tg iter G)(hb:oC X scope (Ac X.N ix (Eg tg)) tg elt ifs g C Fe)(hi':X.N[i]?=some y:=by rfl)(hx:Loc X.env.scope y:=by first|exact Or.inl rfl|exact Or.inr rfl)(ok:ja X.env.scope.names X.N scope (Ac X.N ix (Eg tg)) ix=true:=by rfl)(hsw:swapsWith (.ListComp elt [⟨tg,iter,ifs,0⟩] scope lpos) (some (.Name y py)) pos.line X.env=pure true:=by rfl)(hs:∀x,Rt iter X.env x=pure x:=by intro _;rfl)(hf:X.fn y=true\/X.env.scope.names.lookup y=some .local:=by first|exact .inl rfl|exact .inr rfl|assumption):XS X (.Assign [.Name y py] (.ListComp elt [⟨tg,iter,ifs,0⟩] scope lpos) pos) (sL i (eE ix G g C Fe)):=wD hN hi' hx hc (.of ok) tk hi hb hsw hs hf
end
structure U where
 P:QT
 w:QS
 K:Pn
 mg:bF
 base:QV
 cL:QO
 T:QO
noncomputable abbrev Ca(u:U)(k:Nat)(x:Str)(ps:av)(g:bE):Prop:=Callee u.P u.w u.K u.mg u.base k x ps g
noncomputable abbrev Ma(u:U)(k:Nat)(c m:Str)(ps:av)(g:bE):Prop:=MethAt u.P u.w u.K u.mg u.base k c m ps g
noncomputable abbrev Ta(u:U)(k:Nat)(m:Str)(ps:av)(t:List (Str×(bE))):Prop:=nF u.P u.w u.K u.mg u.base k m ps t
noncomputable def Df(u:U)(x:Str)(st:QQ):Prop:=∃f fd,ow u.K x x st f fd/\u.mg x=some (.ref f)
noncomputable def Dm(u:U)(c m qual:Str)(st:QQ):Prop:=∃C f fd,clsAt u.K c C/\lm u.K C/\Meth u.K C m f/\ow u.K m qual st f fd
noncomputable def Bd(x qual:Str)(st:QQ)(ps:av):Prop:=∀us:aS,us.length=ps.length->∀(kV doc pm:QM)(an:Option QO)(cdv ct:QM),bindArgs (PX x qual (gO st) (cU st) (aF st) .none kV doc pm an cdv ct) ⟨us,[]⟩=pure (ps.zip us)
theorem ow.bd{K:Pn}{x qual:Str}{st:QQ}{f:QO}{fd:RH}{ps:av}(F:ow K x qual st f fd)(h:Bd x qual st ps):Binds K fd ps []:=F.binds λkV doc pm an cdv ct us e=>h us e kV doc pm an cdv ct
section
variable{u:U}{x c m qual:Str}{st:QQ}{ps:av}{k:Nat}{B:bw}
theorem GX(M:av)(d:Df u x st)(b:Bd x x st ps)(sc:bX (ps++M) ps (aF st))(h:(ps++M).Nodup->∀f,vZ u.P u.w u.K u.mg u.base k (ps++M) x st f B):Ca u (k+1) x ps (au B ps.length (ps++M).length):=by
 obtain⟨f,fd,F,e⟩:=d;exact yA F (ow.bd F b) e sc (h sc.nd f).ok
theorem Hc(d:Df u x st)(b:Bd x x st ps):Ca u k x ps λ_=>un:=by
 obtain⟨f,fd,F,e⟩:=d;exact sP k F (ow.bd F b) e
theorem BR(d:Dm u c m qual st)(b:Bd m qual st ps):Ma u k c m ps λ_=>un:=by
 obtain⟨C,f,fd,h1,h2,h3,F⟩:=d;have no:∀vs H Q E,¬yg u.K ps.length (λ_=>un) vs H Q E:=λvs H Q E ⟨O,ds,_,_,_,e⟩=>e;exact⟨C,f,fd,h1,h2,h3,⟨λvs H Q E h=>absurd h (no vs H Q E),λA outer s H args us vs Q E _ _ _ _ h=>absurd h (no vs H Q E)⟩,ow.bd F b⟩
theorem G4(M:av)(d:Dm u c m qual st)(b:Bd m qual st ps)(sc:bX (ps++M) ps (aF st))(h:(ps++M).Nodup->∀f,vZ u.P u.w u.K u.mg u.base k (ps++M) qual st f B):Ma u (k+1) c m ps (au B ps.length (ps++M).length):=by
 obtain⟨C,f,fd,h1,h2,h3,F⟩:=d;exact yi h1 h2 h3 F (ow.bd F b) sc (h sc.nd f).ok
theorem MJ(M:av){f:QO}{fd:RH}(F:ow u.K x x st f fd)(sc:bX (ps++M) ps (aF st))(h:(ps++M).Nodup->vZ u.P u.w u.K u.mg u.base k (ps++M) x st f B):eW u.P u.w u.K u.mg u.base (jM u.P u.w) (k+1) f fd ps (yg u.K ps.length (au B ps.length (ps++M).length)):=qZ F sc (h sc.nd).ok
end
noncomputable def KD(K:Pn)(x:Str)(st:QQ):Prop:=∃f oc od kV dc pm an cd ct sl,P0 K QX x=some (some (.ref f))/\Lk K f x x st oc od kV dc pm an cd ct sl/\PY K cd x=true/\PQ K (.ref f)=true
theorem KD.mk{K:Pn}{x:Str}{st:QQ}{f:QO}{oc:QM}{od:Option QO}{kV dc pm:QM}{an:Option QO}{cd ct:QM}{sl:Array gZ}(a:P0 K QX x=some (some (.ref f)))(l:Lk K f x x st oc od kV dc pm an cd ct sl)(c:PY K cd x=true)(k:PQ K (.ref f)=true):KD K x st:=⟨f,oc,od,kV,dc,pm,an,cd,ct,sl,a,l,c,k⟩
noncomputable def KDs(K:Pn):List (Str×QQ)->Prop
 |[]=>True
 |p::r=>KD K p.1 p.2/\KDs K r
theorem KDs.mk{K:Pn}{x:Str}{st:QQ}{r:List (Str×QQ)}(h:KD K x st)(t:KDs K r):KDs K ((x,st)::r):=⟨h,t⟩
noncomputable def I0(u:U)(Z:Prop):List (Str×QQ)->Prop
 |[]=>Z
 |p::r=>I0 u Z r/\Df u p.1 p.2
noncomputable def KZs(K:Pn):av->Prop
 |[]=>True
 |x::r=>P0 K QX x=some none/\KZs K r
theorem KZs.mk{K:Pn}{x:Str}{r:av}(h:P0 K QX x=some none)(t:KZs K r):KZs K (x::r):=⟨h,t⟩
noncomputable def Zs(u:U):av->Prop
 |[]=>True
 |x::r=>Zs u r/\u.mg x=none
section
variable{u:U}{h:QV}
theorem I0.of{Z:Prop}(X:u.K.In h)(G:h.Ns QX u.mg)(z:Z):∀{l:List (Str×QQ)},KDs u.K l->I0 u Z l
 |[],_=>z
 |_::_,h=>by
  obtain⟨⟨_,_,_,_,_,_,_,_,_,_,a,l,c,k⟩,r⟩:=h;exact⟨I0.of X G z r,_,_,bO l c k,Ql X G a⟩
theorem Zs.of(X:u.K.In h)(G:h.Ns QX u.mg):∀{l:av},KZs u.K l->Zs u l
 |[],_=>trivial
 |_::_,⟨a,r⟩=>⟨Zs.of X G r,PySem.W.mg_none_of X G a⟩
end
theorem FR{us:aS}{n:Nat}(h:us.length=n+1):∃a r,us=a::r/\r.length=n:=by
 cases us with
 |nil=>cases h
 |cons a r=>exact⟨a,r,rfl,Nat.succ.inj h⟩
theorem Hs{us:aS}(h:us.length=1):∃a,us=[a]:=List.length_eq_one_iff.mp h
theorem Fa{us:aS}(h:us.length=2):∃a b,us=[a,b]:=by
 obtain⟨a,r,rfl,k⟩:=FR h;obtain⟨b,rfl⟩:=Hs k;exact⟨a,b,rfl⟩
theorem A3{us:aS}(h:us.length=3):∃a b c,us=[a,b,c]:=by
 obtain⟨a,r,rfl,k⟩:=FR h;obtain⟨b,c,rfl⟩:=Fa k;exact⟨a,b,c,rfl⟩
theorem Gr{us:aS}(h:us.length=4):∃a b c d,us=[a,b,c,d]:=by
 obtain⟨a,r,rfl,k⟩:=FR h;obtain⟨b,c,d,rfl⟩:=A3 k;exact⟨a,b,c,d,rfl⟩
end TX
namespace TG
open L2
instance(priority:=low) noTabs:aw:=⟨λ_=>True,λ_ _=>trivial,λ_ _ _=>trivial⟩
open PySem PySem.Spec L2
theorem nr{α:Sort _}{a b:α}(h:a=b):a=b:=h
theorem fh{α β:Type}(a:α)(f:α->R β):Except.bind (Except.ok a:R α) f=f a:=nr rfl
theorem vE{α β:Type}(x:Option Ex)(f:α->R β):Except.bind (Except.error x:R α) f=.error x:=nr rfl
theorem vd{α:Type}(a:α)(k:Ks)(ρ:ao)(f:α->R D):kZ (.ok a) k ρ f=f a:=nr rfl
theorem vq{α:Type}(x:Ex)(k:Ks)(ρ:ao)(f:α->R D):kZ (.error (some x)) k ρ f=k.ex x ρ:=nr rfl
theorem lF{α:Type}(a:α):Bt (.ok a:R α)=.ok a:=nr rfl
theorem eM{α:Type}(a:α):rO (some a)=.ok a:=nr rfl
theorem ge_0(d:D)(ρ:ao):oq (some (.val d)::ρ) 0=.ok d:=rfl
theorem BX(x:Option S)(ρ:ao)(i:Nat):oq (x::ρ) (i+1)=oq ρ i:=rfl
theorem qt(i:Nat)(ρ:ao):af i ρ=oq ρ i:=rfl
theorem DM(d:D)(ρ:ao):fC d ρ=.ok d:=rfl
theorem qT(ρ:ao):ai ρ=.ok []:=rfl
theorem lU(f:FX)(g:aQ)(ρ:ao):aa f g ρ=(f ρ).bind λx=>(g ρ).bind λxs=>.ok (x::xs):=rfl
theorem qm(g:aQ)(ρ:ao):aN g ρ=(g ρ).bind λxs=>rO (nQ xs):=rfl
theorem qF(g:aQ)(ρ:ao):jN g ρ=(g ρ).bind λxs=>rO (nD xs):=rfl
theorem CG(g:D->aY)(f:FX)(ρ:ao):f1 g f ρ=(f ρ).bind λa=>rO (g a):=rfl
theorem BU(g:D->D->aY)(f h:FX)(ρ:ao):f2 g f h ρ=(f ρ).bind λa=>(h ρ).bind λb=>rO (g a b):=rfl
theorem Dx(f:FX)(ρ:ao):fB f ρ=(f ρ).bind λd=>rO (KH d):=rfl
theorem CC(g:List D->aY)(f:aQ)(ρ:ao):fL g f ρ=(f ρ).bind λds=>rO (g ds):=rfl
theorem CB(g:bE)(f:aQ)(ρ:ao):fR g f ρ=(f ρ).bind g:=nr rfl
theorem qf(f:bx)(ρ:ao):kY f ρ=(f ρ).bind λb=>.ok (!b):=rfl
theorem qi(f g:bx)(ρ:ao):ul f g ρ=(f ρ).bind λb=>if b then g ρ else .ok false:=rfl
theorem vR(f g:bx)(ρ:ao):D8 f g ρ=(f ρ).bind λb=>if b then .ok true else g ρ:=rfl
theorem jP(f:FX)(ρ:ao):bZ f ρ=(f ρ).bind λd=>rO (truth d):=rfl
theorem mH(f g:FX)(ρ:ao):ig f g ρ=(f ρ).bind λd=>uM d (g ρ):=rfl
theorem qg(f g:FX)(ρ:ao):Cq f g ρ=(f ρ).bind λd=>HQ d (g ρ):=rfl
theorem mr(f:FX)(ρ:ao):rQ f ρ=(f ρ).bind λa=>rO (Eu a):=rfl
theorem vk(t:bx)(f g:FX)(ρ:ao):G1 t f g ρ=(t ρ).bind λc=>if c then f ρ else g ρ:=rfl
theorem rC(T:String)(f:FX)(ρ:ao):nU T f ρ=(f ρ).bind λa=>rO (BD T a):=rfl
theorem qV(f:FX)(ρ:ao):oO f ρ=(f ρ).bind λa=>.ok (.bl (isNon a)):=rfl
theorem mx(f:FX)(ρ:ao):lI f ρ=(f ρ).bind λa=>.ok (.bl (!isNon a)):=rfl
theorem qW(f:FX)(ρ:ao):uS f ρ=(f ρ).bind λa=>rO (E5 a):=rfl
theorem j7(f:FX)(ρ:ao):Fw f ρ=(f ρ).bind λa=>rO (zk a):=rfl
theorem qd(f:FX)(ρ:ao):K5 f ρ=(f ρ).bind λa=>rO (Gm a):=rfl
theorem ku(g g':D->D->aY)(fa fb fc:FX)(ρ:ao):js g g' fa fb fc ρ=(fa ρ).bind λx=>(fb ρ).bind λy=>(rO (g x y)).bind λz=>uM z ((fc ρ).bind λw=>rO (g' y w)):=rfl
theorem ka(f:FX)(ρ:ao):bj f ρ=(f ρ).bind λd=>rO (m9 d):=rfl
theorem jg(f:aQ)(ρ:ao):dq f ρ=(f ρ).bind λds=>rO (iZ ds):=rfl
theorem ji(f:aQ)(ρ:ao):CN f ρ=(f ρ).bind λds=>rO (vY ds):=rfl
theorem qI(f:aQ)(ρ:ao):yf f ρ=(f ρ).bind λds=>rO (Ax ds):=rfl
theorem mi(f:aQ)(ρ:ao):hV f ρ=(f ρ).bind λds=>rO (pC ds):=rfl
theorem wt(f:FX)(g:aQ)(ρ:ao):ki f g ρ=(f ρ).bind λa=>(rO (Jd a)).bind λz=>(g ρ).bind λds=>rO (nI z ds):=rfl
theorem qQ(z:Str):Jd (.str z)=some z:=rfl
theorem jb(ρ:ao):bR ρ=.ok none:=rfl
theorem mh(f:FX)(ρ:ao):cO f ρ=(f ρ).bind λd=>rO (uF d):=rfl
theorem jT(f:FX)(l h:ao->R cA)(ρ:ao):cj f l h ρ=(f ρ).bind λa=>(l ρ).bind λlo=>(h ρ).bind λhi=>rO (nB a lo hi):=rfl
theorem my(ρ:ao):bz ρ=.ok true:=rfl
theorem mw(k:Ks)(ρ:ao):bD k ρ=k.nx ρ:=nr rfl
theorem fM(A B:bw)(k:Ks)(ρ:ao):az A B k ρ=A {k with nx:=B k} ρ:=nr rfl
theorem lY(f:FX)(k:Ks)(ρ:ao):aU f k ρ=kZ (f ρ) k ρ .ok:=nr rfl
theorem kB(k:Ks)(ρ:ao):HR k ρ=.ok .non:=nr rfl
theorem qC(c:bx)(A B:bw)(k:Ks)(ρ:ao):fD c A B k ρ=kZ (c ρ) k ρ λb=>if b then A k ρ else B k ρ:=nr rfl
theorem kA(i:Nat)(f:FX)(k:Ks)(ρ:ao):aO i f k ρ=kZ (f ρ) k ρ λd=>k.nx (setV i d ρ):=nr rfl
theorem jR(is:List Nat)(F:bw)(k:Ks)(ρ:ao):h7 is F k ρ=F k (kill is ρ):=nr rfl
theorem gH(G:aQ)(g:GF)(B:bw)(k:Ks)(ρ:ao):sv G g B k ρ=kZ (G ρ) k ρ λds=>dS g B k ds ρ:=nr rfl
theorem DA(d:D)(x:Option S)(ρ:ao):setV 0 d (x::ρ)=some (.val d)::ρ:=rfl
theorem Cz(i:Nat)(d:D)(x:Option S)(ρ:ao):setV (i+1) d (x::ρ)=x::setV i d ρ:=rfl
theorem rp(ρ:ao):kill [] ρ=ρ:=rfl
theorem mK(i:Nat)(is:List Nat)(ρ:ao):kill (i::is) ρ=kill is (ρ.set i none):=rfl
theorem eT(B:bw)(n:Nat)(a:D):au B 1 n [a]=B K0 (env0 n [a]):=nr rfl
theorem bq(B:bw)(n:Nat)(a b:D):au B 2 n [a,b]=B K0 (env0 n [a,b]):=nr rfl
theorem og(B:bw)(n:Nat)(a b c:D):au B 3 n [a,b,c]=B K0 (env0 n [a,b,c]):=nr rfl
theorem zb(B:bw)(n:Nat)(a b c d:D):au B 4 n [a,b,c,d]=B K0 (env0 n [a,b,c,d]):=nr rfl
theorem qY(ρ:ao):inB [] ρ=[]:=rfl
theorem lW(ix:eD)(ρ:ao):inB (none::ix) ρ=none::inB ix ρ:=rfl
noncomputable def pick(ρ:ao)(i:Nat):Option S:=match ρ[i]? with
 |some (some (.val d))=>some (.val d)
 |_=>none
theorem mE(i:Nat)(ix:eD)(ρ:ao):inB (some i::ix) ρ=pick ρ i::inB ix ρ:=rfl
theorem Bx(d:D)(ρ:ao):pick (some (.val d)::ρ) 0=some (.val d):=rfl
theorem BL(x:Option S)(ρ:ao)(i:Nat):pick (x::ρ) (i+1)=pick ρ i:=rfl
theorem lX(i:Nat)(f:FX)(k:Ks)(ρ:ao):sL i f k ρ=kZ (f ρ) k ρ λd=>k.nx (ρ.set i (some (.own d))):=nr rfl
theorem mG(i:Nat)(F:bw)(k:Ks)(ρ:ao):Ad i F k ρ=F k (frz i ρ):=nr rfl
theorem Dg(d:D)(ρ:ao):frz 0 (some (.own d)::ρ)=some (.val d)::ρ:=rfl
theorem vK(d:D)(ρ:ao):frz 0 (some (.val d)::ρ)=some (.val d)::ρ:=rfl
theorem Ds(i:Nat)(x:Option S)(ρ:ao):frz (i+1) (x::ρ)=x::frz i ρ:=by
 unfold frz;rw[OC];split<;>rename_i h
 ·rw[h];rfl
 ·rfl
theorem GJ(i:Nat)(u:List D->List D->Option (List D))(f:aQ)(k:Ks)(ρ:ao){xs:List D}(h:ρ[i]?=some (some (.own (.lst xs)))):ED i u f k ρ=kZ (f ρ) k ρ λds=>(rO (u xs ds)).bind λys=>k.nx (ρ.set i (some (.own (.lst ys)))):=by
 unfold ED;rw[h]
theorem EE{xs:List D}{y:D}(h:xs.length<100000):xx xs [y]=some (xs++[y]):=by
 show(if small (xs.length+1)then some (xs++[y])else none)=_;rw[eA ‹0›];rfl
theorem qv(i j:Int):bN (.int i) (.int j)=some (.int (i+j)):=nr rfl
theorem ra(i j:Int):TG.DB (.int i) (.int j)=some (.int (i-j)):=nr rfl
theorem vg(i j:Int):M1 (.int i) (.int j)=some (.bl (decide (i<j))):=nr rfl
theorem qu(i j:Int):lN (.int i) (.int j)=some (.bl (decide (i<j))):=nr rfl
theorem rm(x y:Str):lN (.str x) (.str y)=some (.bl (decide (x.cps.toList<y.cps.toList))):=nr rfl
theorem qE(c d:Bool):K7 (.bl c) (.bl d)=some (.bl (c==d)):=nr rfl
theorem je(c d:Bool):Di (.bl c) (.bl d)=some (.bl (!(c==d))):=nr rfl
theorem vG(i j:Int):Bq (.int i) (.int j)=some (.bl (decide (i<=j))):=nr rfl
theorem vw(i j:Int):HM (.int i) (.int j)=some (.bl (decide (j<i))):=nr rfl
theorem v6(i j:Int):M8 (.int i) (.int j)=some (.bl (decide (j<=i))):=nr rfl
theorem qK(i:Int):E5 (.int i)=some (.int (-i)):=nr rfl
theorem fi{i j:Int}(h:0<j):gB (.int i) (.int j)=some (.int (i%j)):=by
 show(if decide (0<j)then some (D.int (i%j))else none)=_;rw[decide_eq_true h];rfl
theorem mL{i j:Int}(h:0<j)(h':j<10^200):rq (.int i) (.int j)=some (.int (i/j)):=by
 show(if decide (0<j/\j<10^200)then some (D.int (i/j))else none)=_;rw[decide_eq_true ⟨h,h'⟩];rfl
theorem mq{i j:Int}(h:-(2^64)<i)(h':i<2^64):kJ (.int i) (.int j)=some (.int (i*j)):=by
 show(if decide ((-(2^64)<i/\i<2^64)\/(-(2^64)<j/\j<2^64))then some (D.int (i*j))else none)=_;rw[decide_eq_true (.inl ⟨h,h'⟩)];rfl
theorem lR{i j:Int}(h:-(2^64)<j)(h':j<2^64):kJ (.int i) (.int j)=some (.int (i*j)):=by
 show(if decide ((-(2^64)<i/\i<2^64)\/(-(2^64)<j/\j<2^64))then some (D.int (i*j))else none)=_;rw[decide_eq_true (.inr ⟨h,h'⟩)];rfl
theorem zJ(i:Int)(n:Nat)(h:n<=1000000)(h':i.natAbs<2^64):uk (.int i) (.int n)=some (.int (i^n)):=by
 show(if decide (0<=(n:Int)/\(n:Int)<=1000000/\i.natAbs<2^64)then some (D.int (i^(n:Int).toNat))else none)=_;rw[decide_eq_true ⟨by omega,by omega,h'⟩];rfl
noncomputable def Fj:Int:=10^60
theorem jC(i j:Int):lL (.int i) (.int j)=some (.bl (i==j)):=by unfold lL pyEq;rfl
theorem kj(i j:Str):lL (.str i) (.str j)=some (.bl (i==j)):=by unfold lL pyEq;rfl
theorem j9(i j:Bool):lL (.bl i) (.bl j)=some (.bl (i==j)):=by unfold lL pyEq;rfl
theorem kz(i j:Int):qa (.int i) (.int j)=some (.bl (!(i==j))):=by unfold qa pyEq;rfl
theorem j6(i j:Str):qa (.str i) (.str j)=some (.bl (!(i==j))):=by unfold qa pyEq;rfl
theorem jH(i j:Bool):qa (.bl i) (.bl j)=some (.bl (!(i==j))):=by unfold qa pyEq;rfl
theorem zH{α:Type}(xs:List α)(n:Nat):kD xs (n:Int)=xs[n]?:=by
 unfold kD Gk;rw[if_pos ‹0›];by_cases h:n<xs.length
 ·rw[if_pos ‹0›];rfl
 ·rw[if_neg ‹0›,O6 ‹0›];rfl
theorem wN{α:Type}(a:α)(xs:List α):kD (a::xs) 0=some a:=zH (a::xs) 0
theorem yr{α:Type}(a:α)(xs:List α)(n:Nat):kD (a::xs) ((n+1:Nat):Int)=kD xs (n:Int):=by
 rw[zH,zH,OC]
theorem JR(xs:List D)(i:Int):ap (.tup xs) (.int i)=kD xs i:=nr rfl
theorem JX(xs:List D)(i:Int):ap (.lst xs) (.int i)=kD xs i:=nr rfl
theorem vn(a:D)(xs:List D):ap (.tup (a::xs)) (.int 0)=some a:=wN a xs
theorem ve(a b:D)(xs:List D):ap (.tup (a::b::xs)) (.int 1)=some b:=(yr a _ 0).trans (wN b xs)
theorem vj(a b c:D)(xs:List D):ap (.tup (a::b::c::xs)) (.int 2)=some c:=(yr a _ 1).trans ((yr b _ 0).trans (wN c xs))
theorem vD(a:D)(xs:List D):ap (.lst (a::xs)) (.int 0)=some a:=wN a xs
theorem vO(a b:D)(xs:List D):ap (.lst (a::b::xs)) (.int 1)=some b:=(yr a _ 0).trans (wN b xs)
theorem wl(a b c:D)(xs:List D):ap (.lst (a::b::c::xs)) (.int 2)=some c:=(yr a _ 1).trans ((yr b _ 0).trans (wN c xs))
theorem ky(xs:List D):fg [.lst xs]=some (.int xs.length):=nr rfl
theorem jJ(xs:List D):fg [.tup xs]=some (.int xs.length):=nr rfl
theorem hJ(xs:List D):eG [.lst xs]=some (.tup xs):=nr rfl
theorem gU(xs:List D):eG [.tup xs]=some (.tup xs):=nr rfl
theorem qB(b:Bool):KH (.bl b)=some b:=nr rfl
theorem jc(i:Int):uF (.int i)=some (some i):=nr rfl
theorem hW(b:Bool):truth (.bl b)=some b:=nr rfl
theorem gR(xs:List D):truth (.tup xs)=some (!xs.isEmpty):=nr rfl
theorem gL(xs:List D):truth (.lst xs)=some (!xs.isEmpty):=nr rfl
theorem qe(i j:Int):tH [.int i,.int j]=some (.int (if j>i then j else i)):=nr rfl
theorem qN(i j:Int):sM [.int i,.int j]=some (.int (if j<i then j else i)):=nr rfl
theorem gI(xs:List D):m9 (.lst xs)=some xs:=nr rfl
theorem hX(xs:List D):m9 (.tup xs)=some xs:=nr rfl
theorem j4(k:R D):uM (.bl true) k=k:=nr rfl
theorem jZ(k:R D):uM (.bl false) k=.ok (.bl false):=nr rfl
theorem mC(k:R D):HQ (.bl true) k=.ok (.bl true):=nr rfl
theorem mj(k:R D):HQ (.bl false) k=k:=nr rfl
theorem jE(a b:Bool):uM (.bl a) (.ok (.bl b))=.ok (.bl (a&&b)):=by cases a<;>rfl
theorem lZ(a b:Bool):HQ (.bl a) (.ok (.bl b))=.ok (.bl (a||b)):=by cases a<;>rfl
theorem qS(b:Bool):Eu (.bl b)=some (.bl (!b)):=nr rfl
theorem rh(xs:List D):Gm (.lst xs)=some (.lst xs.reverse):=nr rfl
theorem kH(n:Nat)(h:n<2^62):iZ [.int n]=some (cD 0 n):=by
 show(if okR (n:Int)then some (cD 0 ((n:Int).toNat))else none)=_
 have:okR (n:Int)=true:=decide_eq_true ⟨by omega,by omega⟩
 rw[this];rfl
theorem vH{α:Type}(f:α->D)(h:∀a,pl (f a)=true):∀xs:List α,lh (xs.map f)=true
 |[]=>rfl
 |x::xs=>by
  show(pl (f x)&&lh (xs.map f))=true;rw[h,vH f h xs];rfl
theorem B3(f:Str->D)(hf:f=D.str)(w:Str)(ws:av):inD (.str w) (ws.map f)=ws.any λy=>y==w:=by
 subst hf;unfold inD;rw[OT];congr 1
theorem v9(w:Str)(ws:av):tX (.str w) (.tup (ws.map .str))=some (.bl (ws.contains w)):=by
 show(if(pl (.str w)&&lh (ws.map .str))&&dD 8 (.str w)then some (D.bl (inD (.str w) (ws.map .str)))else none)=_;rw[B3 _ rfl,vH _ λ_=>rfl];show some (D.bl _)=_;congr 2
 induction ws with
 |nil=>rfl
 |cons x xs ih=>rw[NZ,OL,ih,Bool.beq_comm]
theorem fj(xs ys:List D)(h:xs.length+ys.length<=100000):bN (.tup xs) (.tup ys)=some (.tup (xs++ys)):=by
 show(if small (xs.length+ys.length)then some (D.tup (xs++ys))else none)=_;rw[eA h];rfl
theorem md(xs:List D)(lo hi:cA):nB (.lst xs) lo hi=some (.lst (cutD xs lo hi)):=nr rfl
theorem mm(xs:List D)(lo hi:cA):nB (.tup xs) lo hi=some (.tup (cutD xs lo hi)):=nr rfl
theorem dH{ix:eD}{G:aQ}{g:GF}{C:bx}{Fe:FX}{ρ:ao}{ds r:List D}(h1:G ρ=.ok ds)(h2:ds.length<=100000)(h3:wj (inB ix ρ) g C Fe ds=.ok r):eE ix G g C Fe ρ=.ok (.lst r):=by
 unfold eE;rw[h1,fh,eA h2,h3];rfl
theorem mM{α:Type}{ρ:ao}{g:GF}{C:bx}{Fe:FX}(mk:α->D)(p:α->Bool)(v:α->D):∀xs:List α,(∀a∈xs,∃ρ1,g (mk a) ρ=some ρ1/\C ρ1=.ok (p a)/\Fe ρ1=.ok (v a))->
  wj ρ g C Fe (xs.map mk)=.ok ((xs.filter p).map v)
 |[],_=>rfl
 |a::xs,h=>by
  obtain⟨ρ1,h1,h2,h3⟩:=h a Ni;rw[Nx,mV,h1,eM,fh,h2,lF,fh,h3,lF,fh,mM mk p v xs λb hb=>h b (Nj _ hb)];cases e:p a with
  |true=>rw[if_pos rfl,List.filter_cons_of_pos e];rfl
  |false=>rw[if_neg Nq,List.filter_cons_of_neg (by simp[e])]
theorem fA{α:Type}{ρ:ao}{g:GF}{C:bx}{Fe:FX}(mk:α->D)(v:α->D)(xs:List α)(h:∀a∈xs,∃ρ1,g (mk a) ρ=some ρ1/\C ρ1=.ok true/\Fe ρ1=.ok (v a)):wj ρ g C Fe (xs.map mk)=.ok (xs.map v):=by
 rw[mM mk (λ_=>true) v xs h,List.filter_eq_self.mpr λ_ _=>rfl]
theorem nN{ρ:ao}{g:GF}{C:bx}{Fe:FX}(P:D->Prop):∀ds:List D,(∀d∈ds,∃ρ1 v,g d ρ=some ρ1/\C ρ1=.ok true/\Fe ρ1=.ok v/\P v)->∃vs:List D,vs.length=ds.length/\(∀v∈vs,P v)/\wj ρ g C Fe ds=.ok vs
 |[],_=>⟨[],rfl,(λ_ h=>nomatch h),rfl⟩
 |d::ds,h=>by
  obtain⟨ρ1,w,h1,h2,h3,h4⟩:=h d Ni;obtain⟨ws,e1,e2,e3⟩:=nN P ds λd' hd=>h d' (Nj _ hd);refine⟨w::ws,by rw[Nw,Nw,e1],λw' hw=>?_,?_⟩
  ·rcases List.mem_cons.mp hw with z|z
   ·rw[z];exact h4
   ·exact e2 w' z
  ·rw[mV,h1,eM,fh,h2,lF,fh,h3,lF,fh,e3];rfl
theorem v8{g:GF}{B:bw}{k:Ks}(Iv:Nat->ao->Prop):∀(ds:List D)(i:Nat)(ρ:ao),(∀j d ρ (k':Ks),i<=j->ds[j-i]?=some d->Iv j ρ->∃ρ1 ρ2,g d ρ=some ρ1/\Iv (j+1) ρ2/\B k' ρ1=k'.nx ρ2)->Iv i ρ->∃ρ',Iv (i+ds.length) ρ'/\dS g B k ds ρ=k.nx ρ'
 |[],i,ρ,_,h=>⟨ρ,h,rfl⟩
 |d::ds,i,ρ,st,h=>by
  obtain⟨ρ1,ρ2,e1,h2,e2⟩:=st i d ρ ⟨dS g B k ds,k.nx,dS g B k ds,k.ex⟩ (Nt _) (by rw[OQ];rfl) h;obtain⟨ρ',h3,e3⟩:=v8 (g:=g) (B:=B) (k:=k) Iv ds (i+1) ρ2 (λj d' ρ k' hj hd=>st j d' ρ k' ‹0› (by rw[show j-i=(j-(i+1))+1 by omega,OC];exact hd)) h2;refine⟨ρ',?_,?_⟩
  ·rw[Nw]
   have:i+(ds.length+1)=i+1+ds.length:=(by omega);rw[this];exact h3
  ·show((rO (g d ρ)).bind λρ1=>B ⟨dS g B k ds,k.nx,dS g B k ds,k.ex⟩ ρ1)=_;rw[e1,eM,fh,e2];exact e3
theorem p9{g:GF}{B:bw}{k:Ks}{ds:List D}{ρ:ao}{Q:R D->Prop}(Iv:Nat->ao->Prop)(st:∀i d ρ (k':Ks),ds[i]?=some d->Iv i ρ->∃ρ1 ρ2,g d ρ=some ρ1/\Iv (i+1) ρ2/\B k' ρ1=k'.nx ρ2)(h:Iv 0 ρ)(q:∀ρ',Iv ds.length ρ'->Q (k.nx ρ')):Q (dS g B k ds ρ):=by
 obtain⟨ρ',h1,e⟩:=v8 (k:=k) Iv ds 0 ρ (λj d ρ k' _ hd=>st j d ρ k' hd) h;rw[e];rw[OI]at h1;exact q ρ' h1
theorem kM{α:Type}{xs:List α}{i:Nat}{a:α}(h:xs[i]?=some a):i<xs.length:=by
 rcases O7 i xs.length with z|z
 ·exact z
 ·rw[O6 z]at h;cases h
theorem Ct{α β:Type}(f:α->β)(xs:List α)(i:Int):kD (xs.map f) i=(kD xs i).map f:=by
 unfold kD;rw[Ny];cases Gk xs.length i with
 |none=>rfl
 |some j=>simp
theorem sN{α:Type}{xs:List α}{k:Nat}(h:k<xs.length):kD xs (k:Int)=some xs[k]:=by
 unfold kD Gk;rw[if_pos ‹0›,if_pos ‹0›];simp[h]
theorem wd{α:Type}{xs:List α}{i:Int}(h0:0<=i)(h:i<xs.length):kD xs i=some (xs[i.toNat]'‹0›):=by
 have e:i=((i.toNat:Nat):Int):=by omega
 conv=>lhs;rw[e]
 exact sN ‹0›
noncomputable def DX:bw:=az (fD (fB (f2 lN (af 1) (fL fg (aa (af 0) ai)))) (aU (f2 ap (af 0) (af 1))) bD) (aU (fC (.int 0)))
theorem DG(ns:List Int)(k:Nat):au DX 2 2 [.lst (ns.map .int),.int k]=.ok (.int (ns.getD k 0)):=by
 show(if decide ((k:Int)<((ns.map D.int).length:Int))then kZ (rO (kD (ns.map D.int) (k:Int))) _ _ .ok else .ok (.int 0))=_;rw[Ny];by_cases h:k<ns.length
 ·rw[if_pos (by simpa using h),Ct,sN h,Option.map_some,O8,Oe h];rfl
 ·rw[if_neg (by simpa using h),O8,O6 ‹0›];rfl
theorem yN(ns:List Int)(i:Int)(h:0<=i):∃c:Int,au DX 2 2 [.lst (ns.map .int),.int i]=.ok (.int c):=by
 have e:i=((i.toNat:Nat):Int):=by omega
 exact⟨ns.getD i.toNat 0,by rw[e];exact DG ns i.toNat⟩
theorem qM(x y:Str):(x++y).length=x.length+y.length:=by
 show(x.cps++y.cps).size=_;rw[Array.size_append];rfl
theorem sI(x y:Str)(h:x.length<=1000)(h':y.length<=1000):bN (.str x) (.str y)=some (.str (x++y)):=by
 show(if small (x.length+y.length)then some (D.str (x++y))else none)=_;rw[eA ‹0›];rfl
theorem Cp(x:Str)(h:x.length<=1000)(i:Int)(h0:0<=i)(h1:i<x.length):∃y:Str,y.length=1/\ap (.str x) (.int i)=some (.str y):=by
 have hl:x.cps.toList.length=x.length:=by simp[Str.length]
 have hi:i<x.cps.toList.length:=by omega
 refine⟨⟨#[x.cps.toList[i.toNat]'‹0›]⟩,rfl,?_⟩;show(if small x.length then(kD x.cps.toList i).bind λc=>some (D.str ⟨#[c]⟩)else none)=_;rw[eA ‹0›,if_pos rfl,wd h0 hi];rfl
theorem ny{lo:Int}{n:Nat}{d:D}(h:d∈cD lo n):∃k:Nat,k<n/\d=.int (lo+k):=by
 unfold cD at h;obtain⟨k,h1,h2⟩:=List.mem_map.mp h;exact⟨k,List.mem_range.mp h1,h2.symm⟩
theorem xc(lo:Int)(n:Nat):cD lo n=(List.range n).map λ(k:Nat)=>D.int (lo+(k:Int)):=nr rfl
theorem dR(lo:Int)(n:Nat):(cD lo n).length=n:=by unfold cD;rw[Ny,Oq]
theorem yH{α:Type}{xs:List α}{lo hi:cA}{a:α}(h:a∈cutD xs lo hi):a∈xs:=List.mem_of_mem_drop (List.mem_of_mem_take h)
theorem BI{α β:Type}(f:α->β)(xs:List α)(lo hi:cA):cutD (xs.map f) lo hi=(cutD xs lo hi).map f:=by
 unfold cutD;rw[Ny,<-List.map_drop,<-List.map_take]
theorem pj(g:Array Nat):∀(ps:av)(a:Array Nat),(ps.foldl (λacc p=>acc++g++p.cps) a).size=a.size+ps.length*g.size+(ps.map (λy=>y.length)).sum
 |[],a=>by simp
 |p::ps,a=>by
  rw[O0,pj g ps,Array.size_append,Array.size_append,Nw,Nx,List.sum_cons,Nat.succ_mul];show _=a.size+(ps.length*g.size+g.size)+(p.cps.size+_);omega
theorem zZ(ys:av):(Txt.join "" ys).length=(ys.map (λy=>y.length)).sum:=by
 have e0:(("":Str)).cps.size=0:=by decide +kernel
 cases ys with
 |nil=>show(List.foldl _ _ _:Array Nat).size=_;simp[Str.empty]
 |cons y ys=>
  show(List.foldl (λacc p=>acc++(("":Str)).cps++p.cps) y.cps ys).size=_;rw[pj,e0];simp[Str.length]
theorem nA:∀ys:av,kc (ys.map .str)=some ys
 |[]=>rfl
 |y::ys=>by
  show(kc (ys.map .str)).bind (λzs=>some (y::zs))=_;rw[nA ys];rfl
theorem CQ(ys:av)(h:(ys.map (λy=>y.length)).sum<=1000):∃x:Str,x.length=(ys.map (λy=>y.length)).sum/\nI "" [.lst (ys.map .str)]=some (.str x):=by
 refine⟨Txt.join "" ys,zZ ys,?_⟩;have e0:(("":Str)).length=0:=by decide +kernel
 have e:nI "" [.lst (ys.map .str)]=(kc (ys.map .str)).bind λys=>if small ((ys.map (λy=>y.length)).sum+ys.length*(("":Str)).length)then some (.str (Txt.join "" ys))else none:=rfl
 rw[e,nA];show(if small _ then _ else _)=_;rw[e0,eA ‹0›];rfl
theorem rg(n:Nat):∀vs:List D,(∀v∈vs,∃w:Str,v=.str w/\w.length<=n)->∃ws:av,vs=ws.map .str/\∀w∈ws,w.length<=n
 |[],_=>⟨[],rfl,λ_ h=>nomatch h⟩
 |v::vs,h=>by
  obtain⟨w,rfl,hw⟩:=h v Ni;obtain⟨ws,rfl,h2⟩:=rg n vs λv' hv=>h v' (Nj _ hv);refine⟨w::ws,rfl,λw' hw'=>?_⟩;rcases List.mem_cons.mp hw' with z|z
  ·rw[z];exact hw
  ·exact h2 w' z
theorem AB(n:Nat):∀ws:av,(∀w∈ws,w.length<=n)->(ws.map (λy=>y.length)).sum<=ws.length*n
 |[],_=>by simp
 |w::ws,h=>by
  have:=AB n ws λw' h'=>h w' (Nj _ h')
  have h1:=h w Ni;rw[Nx,List.sum_cons,Nw,Nat.succ_mul];omega
theorem GU{α:Type}(xs:List α)(m:Nat):cutD xs none (some (m:Int))=xs.take m:=by
 unfold cutD;rw[HT.IB,HT.IU,N9,Ot];rcases Nat.le_total m xs.length with h|h
 ·rw[Nat.min_eq_left h]
 ·rw[Nat.min_eq_right h,O9 h,O9 (Nt _)]
theorem zY{α:Type}(xs:List α)(m:Nat):cutD xs (some (m:Int)) none=xs.drop m:=by
 unfold cutD;rw[HT.IB,HT.IU];rcases Nat.le_total m xs.length with h|h
 ·rw[Nat.min_eq_left h];exact O9 (by rw[NT];exact Nt _)
 ·rw[Nat.min_eq_right h,OQ,N7,List.drop_eq_nil_of_le h]
theorem GY(n:Nat)(c:bx)(B:bw)(k:Ks)(ρ:ao):nh n c B k ρ=dU c B k n ρ:=nr rfl
theorem Hh(c:bx)(B:bw)(k:Ks)(n:Nat)(ρ:ao):dU c B k (n+1) ρ=kZ (c ρ) k ρ λb=>if b then B ⟨dU c B k n,k.nx,dU c B k n,k.ex⟩ ρ else k.nx ρ:=nr rfl
local macro_rules
 |`(tactic| simp! only[$xs,*])=>`(tactic| simp only[fh,vE,vd,vq,lF,eM,ge_0,BX,qt,DM,qT,lU,qm,qF,CG,BU,Dx,CC,CB,qf,qi,vR,jP,mH,qg,mr,vk,rC,qV,mx,qW,j7,qd,ku,ka,jg,ji,qI,mi,jb,mh,jT,my,mw,fM,lY,kB,qC,kA,jR,gH,lX,mG,Dg,vK,Ds,DA,Cz,rp,mK,qY,lW,mE,Bx,BL,Pa,Pb,Nx,NX,N6,Ol,K0,env0,List.replicate,OS,ND,OI,Nat.reduceAdd,Nat.reduceSub,Nw,N0,qv,ra,vg,qu,rm,qE,je,qQ,vG,vw,v6,qK,jC,kj,j9,kz,j6,jH,vn,ve,vj,vD,vO,wl,ky,jJ,hJ,gU,qB,jc,hW,gR,gL,qe,qN,gI,hX,j4,jZ,mC,mj,jE,lZ,qS,rh,md,mm,gN,if_true,if_false,OV,Pg,N5,$xs,*])
theorem IH(a b c:D):nQ [a,b,c]=some (.tup [a,b,c]):=nr rfl
theorem B1(a b:D):nQ [a,b]=some (.tup [a,b]):=nr rfl
theorem Bs(a:D):nQ [a]=some (.tup [a]):=nr rfl
theorem Hg:nQ []=some (.tup []):=nr rfl
theorem Ln:nD []=some (.lst []):=nr rfl
noncomputable def zX:bw:=aU (fL eG (aa (eE [none] (bj (f2 bN (f2 ap (af 0) (fC (.int 0))) (f2 ap (af 0) (fC (.int 1))))) (gN 0) bz (f2 ap (af 0) (fC (.int 1)))) ai))
theorem kinds_ok(kf rf:List D)(ps:List (Str×D))(hl:kf.length+rf.length<=100)(e:kf++rf=ps.map (λp=>.tup [.str p.1,p.2])):au zX 1 1 [.tup [.tup kf,.tup rf]]=.ok (.tup (ps.map (·.2))):=by
 have hl':ps.length<=100:=by have:=congrArg List.length e;rw[NR,Ny]at this;omega
 have f0:eE [none] (bj (f2 bN (f2 ap (af 0) (fC (.int 0))) (f2 ap (af 0) (fC (.int 1))))) (gN 0) bz (f2 ap (af 0) (fC (.int 1))) [some (.val (.tup [.tup kf,.tup rf]))]=.ok (.lst (ps.map (·.2))):=by
  refine dH (ds:=ps.map (λp=>.tup [.str p.1,p.2])) ?_ (by rw[Ny];omega) ?_
  ·simp! only[];rw[fj _ _ ‹0›,e];simp! only[]
  ·refine fA _ _ ps λp _=>⟨_,rfl,rfl,?_⟩
   simp! only[]
 rw[eT];unfold zX;simp! only[f0]
end TG
namespace TD
open PySem PySem.Spec L2 TG TX
noncomputable def cT:bw:=az (aO 2 (f2 gB (f2 bN (f2 bN (f2 bN (f2 kJ (f2 gB (af 0) (fC (.int 2147483647))) (fC (.int 48271))) (f2 kJ (f2 kJ (fC (.int 7919)) (af 1)) (af 1))) (f2 kJ (fC (.int 101)) (af 1))) (fC (.int 11))) (fC (.int 2147483629)))) (az (aO 2 (f2 gB (f2 bN (f2 kJ (af 2) (fC (.int 69621))) (f2 kJ (fC (.int 7)) (af 1))) (fC (.int 2147483587)))) (aU (f2 bN (af 2) (f2 kJ (fC (.int 2147483587)) (f2 gB (f2 rq (af 0) (f2 bN (af 1) (fC (.int 2)))) (f2 uk (fC (.int 10)) (fC (.int 61))))))))
noncomputable def bG:bw:=az (aO 2 (fC (.str "abcdefghijklmnopqrstuvwxyz"))) (az (aO 3 (eE [none,some 2,some 0] (dq (aa (fC (.int 8)) ai)) (gN 0) bz (f2 ap (af 1) (f2 gB (fR (au cT 2 3) (aa (af 2) (aa (af 0) ai))) (fC (.int 26)))))) (az (fD (ul (fB (f2 lL (f2 gB (f2 rq (af 0) (fC (.int 5))) (fC (.int 4))) (fC (.int 1)))) (fB (f2 lN (af 1) (fC (.int 9))))) (aU (eE [none,some 3] (dq (aa (af 1) ai)) (gN 0) bz (ki (fC (.str "")) (aa (cj (af 1) bR (cO (f2 bN (af 0) (fC (.int 1))))) ai)))) bD) (az (aO 4 (f2 bN (fC (.int 1)) (f2 gB (af 0) (fC (.int 8))))) (az (aO 5 (f2 gB (f2 rq (af 0) (fC (.int 8))) (af 4))) (az (aO 6 (f2 ap (jN (aa (fC (.int 1)) (aa (fC (.int 5)) (aa (fC (.int 7)) (aa (fC (.int 11)) (aa (fC (.int 17)) (aa (fC (.int 25)) ai))))))) (f2 gB (fR (au cT 2 3) (aa (af 0) (aa (fC (.int 9)) ai))) (fC (.int 6))))) (az (sL 7 (jN ai)) (az (sv (dq (aa (af 1) ai)) (gN 8) (az (aO 9 (f2 ap (af 2) (f2 gB (f2 bN (f2 rq (af 0) (fC (.int 64))) (f2 kJ (af 8) (af 6))) (fC (.int 26))))) (az (ED 7 xx (aa (f2 bN (f2 bN (ki (fC (.str "")) (aa (cj (af 3) bR (cO (af 5))) ai)) (af 9)) (ki (fC (.str "")) (aa (cj (af 3) (cO (f2 bN (af 5) (fC (.int 1)))) (cO (af 4))) ai))) ai)) (h7 [8,9] bD)))) (Ad 7 (aU (af 7))))))))))
noncomputable def aZ:bw:=az (fD (fB (f2 lN (af 1) (fL fg (aa (af 0) ai)))) (aU (f2 ap (af 0) (af 1))) bD) (aU (fC (.int 0)))
noncomputable def cQ:bw:=aU (fL eG (aa (eE [none] (bj (f2 bN (f2 ap (af 0) (fC (.int 0))) (f2 ap (af 0) (fC (.int 1))))) (gN 0) bz (f2 ap (af 0) (fC (.int 0)))) ai))
noncomputable def cE:bw:=aU (f2 bN (f2 bN (cj (af 0) bR (cO (af 1))) (af 2)) (cj (af 0) (cO (f2 bN (af 1) (fC (.int 1)))) bR))
noncomputable def eh:bw:=aU (f2 lN (af 1) (fL fg (aa (f2 ap (af 0) (fC (.int 0))) ai)))
noncomputable def bH:bw:=az (fD (bZ (fR (au eh 2 2) (aa (af 0) (aa (af 1) ai)))) (aU (aN (aa (fR (au cE 3 3) (aa (f2 ap (af 0) (fC (.int 0))) (aa (af 1) (aa (af 2) ai)))) (aa (f2 ap (af 0) (fC (.int 1))) ai)))) bD) (aU (aN (aa (f2 ap (af 0) (fC (.int 0))) (aa (fR (au cE 3 3) (aa (f2 ap (af 0) (fC (.int 1))) (aa (f2 DB (af 1) (fL fg (aa (f2 ap (af 0) (fC (.int 0))) ai))) (aa (af 2) ai)))) ai))))
noncomputable def dy:bw:=aU (fL eG (aa (eE [none] (bj (f2 bN (f2 ap (af 0) (fC (.int 0))) (f2 ap (af 0) (fC (.int 1))))) (gN 0) bz (f2 ap (af 0) (fC (.int 1)))) ai))
noncomputable def jG(b7:bE):bw:=az (fD (fB (f2 lL (f2 ap (af 0) (fC (.int 0))) (fC (.str "number")))) (aU (f2 ap (af 0) (fC (.int 1)))) bD) (az (fD (fB (f2 lL (f2 ap (af 0) (fC (.int 0))) (fC (.str "word")))) (aU (f2 ap (f2 ap (af 0) (fC (.int 1))) (fC (.int 0)))) bD) (az (fD (kY (bZ (f2 ap (af 0) (fC (.int 2))))) (aU (aN ai)) bD) (aU (aN (aa (fL eG (aa (eE [none] (bj (fR (au dy 1 1) (aa (f2 ap (af 0) (fC (.int 1))) ai))) (gN 0) bz (fR b7 (aa (af 0) ai))) ai)) ai)))))
noncomputable def b7:Nat->bE
 |0=>λ_=>un
 |n+1=>au (jG (b7 n)) 1 1
theorem eL(n:Nat):b7 (n+1)=au (jG (b7 n)) 1 1:=by rw[b7]
theorem nZ:∀n:Nat,Ar 1 (b7 n)
 |0=>λ_ h=>absurd (by rw[b7]) h
 |n+1=>by rw[eL];exact eS
noncomputable def bi:bw:=aU (f2 ap (fR (b7 12) (aa (aN (aa (fC (.str "rows")) (aa (af 0) (aa (fC (.bl true)) ai)))) ai)) (fC (.int 0)))
noncomputable def dz:bw:=aU (f2 ap (f2 ap (f2 bN (f2 ap (af 0) (fC (.int 0))) (f2 ap (af 0) (fC (.int 1)))) (af 1)) (fC (.int 1)))
end TD
namespace TD
open PySem PySem.Spec L2 TG
local macro_rules
 |`(tactic| simp! only[$xs,*])=>`(tactic| simp only[fh,vE,vd,vq,lF,eM,ge_0,BX,qt,DM,qT,lU,qm,qF,CG,BU,Dx,CC,CB,qf,qi,vR,jP,mH,qg,mr,vk,rC,qV,mx,qW,j7,qd,ku,ka,jg,ji,qI,mi,jb,mh,jT,my,mw,fM,lY,kB,qC,kA,jR,gH,lX,mG,Dg,vK,Ds,DA,Cz,rp,mK,qY,lW,mE,Bx,BL,Pa,Pb,Nx,NX,N6,Ol,K0,env0,List.replicate,OS,ND,OI,Nat.reduceAdd,Nat.reduceSub,Nw,N0,qv,ra,vg,qu,rm,qE,je,qQ,vG,vw,v6,qK,jC,kj,j9,kz,j6,jH,vn,ve,vj,vD,vO,wl,ky,jJ,hJ,gU,qB,jc,hW,gR,gL,qe,qN,gI,hX,j4,jZ,mC,mj,jE,lZ,qS,rh,md,mm,gN,if_true,if_false,OV,Pg,N5,$xs,*])
theorem IW(ns:List Int)(i:Int)(h:0<=i):∃c:Int,au aZ 2 2 [.lst (ns.map .int),.int i]=.ok (.int c):=yN ns i h
noncomputable def IT:Int:=10^61
theorem GC:uk (.int 10) (.int 61)=some (.int IT):=zJ 10 61 (by decide) (by decide)
theorem HX:1000000<IT:=by decide +kernel
theorem wm(c j:Int)(h0:0<=j)(h1:j<=1000):∃r:Int,0<=r/\au cT 2 3 [.int c,.int j]=.ok (.int r):=by
 have p:=HX;have m1:=λi=>lR (i:=i) (j:=48271) (by decide) (by decide);have m2:=λi=>mq (i:=7919) (j:=i) (by decide) (by decide);have m3:=λi=>lR (i:=i) (j:=j) ‹0› ‹0›;have m4:=λi=>mq (i:=101) (j:=i) (by decide) (by decide);have m5:=λi=>lR (i:=i) (j:=69621) (by decide) (by decide);have m6:=λi=>mq (i:=7) (j:=i) (by decide) (by decide);have m7:=λi=>mq (i:=2147483587) (j:=i) (by decide) (by decide);have g1:=λi=>fi (i:=i) (show(0:Int)<2147483647 by decide);have g2:=λi=>fi (i:=i) (show(0:Int)<2147483629 by decide);have g3:=λi=>fi (i:=i) (show(0:Int)<2147483587 by decide);have g4:=λi=>fi (i:=i) (show(0:Int)<IT by omega);have d1:=λi=>mL (i:=i) (j:=j+2) ‹0› (by
  have:(10:Int)^200>1000000:=by decide +kernel
  omega)
 rw[bq];unfold cT;simp! only[m1,m2,m3,m4,m5,m6,m7,g1,g2,g3,g4,d1,GC];refine⟨_,?_,rfl⟩;have q1:=Ph (((c%2147483647*48271+7919*j*j+101*j+11)%2147483629)*69621+7*j) (show(2147483587:Int)≠0 by decide);have q2:=Ph (c/(j+2)) (show IT≠0 by omega);omega
theorem Af(x:Str)(h:x.length<=1000)(i:Int)(h0:0<=i)(h1:i<x.length):ap (.str x) (.int i)=some (.str ⟨#[x.cps.toList.getD i.toNat 0]⟩):=by
 have hl:x.cps.toList.length=x.length:=by simp[Str.length]
 have hi:i<x.cps.toList.length:=by omega
 show(if small x.length then(kD x.cps.toList i).bind λc=>some (D.str ⟨#[c]⟩)else none)=_;have e:x.cps.toList.getD i.toNat 0=x.cps.toList[i.toNat]'‹0›:=by
  rw[O8,Oe ‹0›];rfl
 rw[eA ‹0›,if_pos rfl,wd h0 hi,e];rfl
theorem BA{a b x y:Str}(h:a++x++b=a++y++b):x=y:=by
 have h1:(a.cps++x.cps)++b.cps=(a.cps++y.cps)++b.cps:=congrArg Str.cps h;have h2:=congrArg Array.toList h1;rw[Array.toList_append,Array.toList_append,Array.toList_append,Array.toList_append]at h2;have h3:=List.append_cancel_left (List.append_cancel_right h2);exact yS h3
theorem Bj(c:Int)(n:Nat)(hn:n<=20):∃ws:av,ws.length=n/\(∀w∈ws,w.length<=20)/\(9<=n->ws.Nodup)/\au bG 2 10 [.int c,.int n]=.ok (.lst (ws.map .str)):=by
 have LL:(("abcdefghijklmnopqrstuvwxyz":Str)).length=26:=by decide +kernel
 have LN:(("abcdefghijklmnopqrstuvwxyz":Str)).cps.toList.Nodup:=by decide +kernel
 generalize hL:("abcdefghijklmnopqrstuvwxyz":Str)=L at LL LN;have r8:iZ [.int 8]=some (cD 0 8):=kH 8 (by decide);have rn:=kH n ‹0›;have g4:=λi=>fi (i:=i) (show(0:Int)<4 by decide);have g6:=λi=>fi (i:=i) (show(0:Int)<6 by decide);have g8:=λi=>fi (i:=i) (show(0:Int)<8 by decide);have g26:=λi=>fi (i:=i) (show(0:Int)<26 by decide);have d5:=λi=>mL (i:=i) (show(0:Int)<5 by decide) (show(5:Int)<10^200 by decide);have d8:=λi=>mL (i:=i) (show(0:Int)<8 by decide) (show(8:Int)<10^200 by decide);have d64:=λi=>mL (i:=i) (show(0:Int)<64 by decide) (show(64:Int)<10^200 by decide);obtain⟨vs,v1,v2,v3⟩:∃vs:List D,vs.length=(cD 0 8).length/\(∀v∈vs,∃w:Str,v=.str w/\w.length<=1)/\wj (inB [none,some 2,some 0] [some (.val (.int c)),some (.val (.int n)),some (.val (.str L)),none,none,none,none,none,none,none]) (gN 0) bz (f2 ap (af 1) (f2 gB (fR (au cT 2 3) (aa (af 2) (aa (af 0) ai))) (fC (.int 26)))) (cD 0 8)=.ok vs:=by
  refine nN (λv=>∃w:Str,v=.str w/\w.length<=1) _ λd hd=>?_;obtain⟨k,hk,rfl⟩:=ny hd;obtain⟨q,hq,eq⟩:=wm c (0+(k:Int)) ‹0› ‹0›;obtain⟨y,hy,e1⟩:=Cp L ‹0› (q%26) ‹0› ‹0›;refine⟨_,_,rfl,rfl,?_,y,rfl,by omega⟩;simp! only[eq,g26,e1]
 obtain⟨bs,rfl,hb⟩:=rg 1 vs v2;rw[Ny,dR]at v1;have f0:=dH (ix:=[none,some 2,some 0]) (G:=dq (aa (fC (.int 8)) ai)) (ρ:=[some (.val (.int c)),some (.val (.int n)),some (.val (.str L)),none,none,none,none,none,none,none]) (by simp! only[r8]) (by rw[dR];decide) v3;have part:∀lo hi:cA,∃x:Str,x.length<=8/\nI "" [.lst (cutD (bs.map D.str) lo hi)]=some (.str x):=λlo hi=>by
  have l:=tM bs lo hi;have s1:=AB 1 (cutD bs lo hi) λw hw=>hb w (yH hw);obtain⟨x,hx,ex⟩:=CQ (cutD bs lo hi) ‹0›;exact⟨x,by omega,by rw[BI];exact ex⟩
 rw[bq];unfold bG;by_cases hc:(c/5%4==1&&decide ((n:Int)<9))=true
 ·obtain⟨us,u1,u2,u3⟩:∃vs:List D,vs.length=(cD 0 n).length/\(∀v∈vs,∃w:Str,v=.str w/\w.length<=20)/\wj (inB [none,some 3] [some (.val (.int c)),some (.val (.int n)),some (.val (.str L)),some (.val (.lst (bs.map .str))),none,none,none,none,none,none]) (gN 0) bz (ki (fC (.str "")) (aa (cj (af 1) bR (cO (f2 bN (af 0) (fC (.int 1))))) ai)) (cD 0 n)=.ok vs:=by
   refine nN (λv=>∃w:Str,v=.str w/\w.length<=20) _ λd hd=>?_;obtain⟨k,hk,rfl⟩:=ny hd;obtain⟨x,hx,ex⟩:=part none (some (0+(k:Int)+1));refine⟨_,_,rfl,rfl,?_,x,rfl,by omega⟩;simp! only[wt,ex]
  obtain⟨ws,rfl,hw⟩:=rg 20 us u2;rw[Ny,dR]at u1;have f1:=dH (ix:=[none,some 3]) (G:=dq (aa (af 1) ai)) (ρ:=[some (.val (.int c)),some (.val (.int n)),some (.val (.str L)),some (.val (.lst (bs.map .str))),none,none,none,none,none,none]) (by simp! only[rn]) (by rw[dR];omega) u3;rw[NU]at hc;refine⟨ws,u1,hw,(λh9=>by have:=of_decide_eq_true hc.2;omega),?_⟩;simp! only[hL,f0,d5,g4,hc.1,hc.2,f1]
 ·have hc':(c/5%4==1&&decide ((n:Int)<9))=false:=by simpa using hc
  have lg:0<1+c%8:=by omega
  have gl:=λi=>fi (i:=i) lg;obtain⟨q,hq,eq⟩:=wm c 9 (by decide) (by decide);obtain⟨st,hst,est⟩:∃st:Int,(st=1\/st=5\/st=7\/st=11\/st=17\/st=25)/\ap (.lst [.int 1,.int 5,.int 7,.int 11,.int 17,.int 25]) (.int (q%6))=some (.int st):=by
   rcases(show q%6=0\/q%6=1\/q%6=2\/q%6=3\/q%6=4\/q%6=5 by omega)with z|z|z|z|z|z<;>rw[z]
   ·exact⟨1,by simp,rfl⟩
   ·exact⟨5,by simp,rfl⟩
   ·exact⟨7,by simp,rfl⟩
   ·exact⟨11,by simp,rfl⟩
   ·exact⟨17,by simp,rfl⟩
   ·exact⟨25,by simp,rfl⟩
  have l6:∀a b c d e f:D,nD [a,b,c,d,e,f]=some (.lst [a,b,c,d,e,f]):=λ_ _ _ _ _ _=>rfl;have ms:=λi=>lR (i:=i) (j:=st) ‹0› ‹0›;generalize hat:c/8%(1+c%8)=at';obtain⟨y1,hy1,e1⟩:=part none (some at');obtain⟨y3,hy3,e3⟩:=part (some (at'+1)) (some (1+c%8));obtain⟨T,hT⟩:∃T:bw,T=(az (sv (dq (aa (af 1) ai)) (gN 8) (az (aO 9 (f2 ap (af 2) (f2 gB (f2 bN (f2 rq (af 0) (fC (.int 64))) (f2 kJ (af 8) (af 6))) (fC (.int 26))))) (az (ED 7 xx (aa (f2 bN (f2 bN (ki (fC (.str "")) (aa (cj (af 3) bR (cO (af 5))) ai)) (af 9)) (ki (fC (.str "")) (aa (cj (af 3) (cO (f2 bN (af 5) (fC (.int 1)))) (cO (af 4))) ai))) ai)) (h7 [8,9] bD)))) (Ad 7 (aU (af 7)))):=⟨_,rfl⟩
  obtain⟨sgn,hsgn⟩:∃sgn:Nat->Str,sgn=λ(j:Nat)=>(⟨#[L.cps.toList.getD ((c/64+(0+(j:Int))*st)%26).toNat 0]⟩:Str):=⟨_,rfl⟩
  have sgn_len:∀j,(sgn j).length=1:=λj=>by rw[hsgn];rfl
  have sgn_ne:∀i j:Nat,i<j->j<20->sgn i≠sgn j:=λi j hij hj e=>by
   rw[hsgn]at e;have hl:L.cps.toList.length=26:=(by rw[Array.length_toList];exact LL);have e1:L.cps.toList.getD ((c/64+(0+(i:Int))*st)%26).toNat 0=L.cps.toList.getD ((c/64+(0+(j:Int))*st)%26).toNat 0:=by
    have:=congrArg (λz:Str=>z.cps.toList) e
    simpa using this
   have ha:((c/64+(0+(i:Int))*st)%26).toNat<L.cps.toList.length:=(by omega);have hb:((c/64+(0+(j:Int))*st)%26).toNat<L.cps.toList.length:=(by omega);rw[O8,O8,Oe ha,Oe hb,Oy,Oy]at e1;have ne:((c/64+(0+(i:Int))*st)%26).toNat≠((c/64+(0+(j:Int))*st)%26).toNat:=by
    rcases hst with rfl|rfl|rfl|rfl|rfl|rfl<;>omega
   have pw:=List.pairwise_iff_getElem.mp LN;rcases Nat.lt_or_gt_of_ne ne with q|q
   ·exact pw _ _ ha hb q e1
   ·exact pw _ _ hb ha q e1.symm
  have key:∃ws:av,ws.length=n/\(∀w∈ws,w.length<=20)/\ws.Nodup/\(T K0 [some (.val (.int c)),some (.val (.int n)),some (.val (.str L)),some (.val (.lst (bs.map .str))),some (.val (.int (1+c%8))),some (.val (.int at')),some (.val (.int st)),some (.own (.lst [])),none,none])=.ok (.lst (ws.map .str)):=by
   rw[hT,fM,gH];simp! only[rn];refine p9 (Q:=λr=>∃ws:av,ws.length=n/\(∀w∈ws,w.length<=20)/\ws.Nodup/\r=.ok (.lst (ws.map .str))) (λi ρ=>∃us:av,us.length=i/\(∀w∈us,w.length<=20)/\(∀(j:Nat)(w:Str),us[j]?=some w->w=y1++sgn j++y3)/\ρ=[some (.val (.int c)),some (.val (.int n)),some (.val (.str L)),some (.val (.lst (bs.map .str))),some (.val (.int (1+c%8))),some (.val (.int at')),some (.val (.int st)),some (.own (.lst (us.map .str))),none,none]) ?_ ?_ ?_
   ·rintro i d ρ k' hd ⟨us,u1,u2,u3,rfl⟩;have hi:=kM hd;rw[dR]at hi;have hdi:d=.int (0+(i:Int)):=by
     rw[xc,NP,Ou hi]at hd;cases hd;rfl
    subst hdi;have e2:ap (.str L) (.int ((c/64+(0+(i:Int))*st)%26))=some (.str (sgn i)):=(by rw[hsgn];exact Af L ‹0› _ ‹0› ‹0›);have hy2:=sgn_len i;generalize hsg:sgn i=y2 at e2 hy2;have a1:=sI y1 y2 ‹0› ‹0›;have a2:=sI (y1++y2) y3 (by rw[qM];omega) ‹0›;refine⟨_,_,rfl,⟨us++[y1++y2++y3],by simp;omega,?_,?_,rfl⟩,?_⟩
    ·intro w hw;rcases List.mem_append.mp hw with z|z
     ·exact u2 w z
     ·rw[List.mem_singleton.mp z,qM,qM];omega
    ·intro j w hw;rcases O7 j us.length with z|z
     ·rw[NN z]at hw;exact u3 j w hw
     ·have ej:j=i:=by
       have:=kM hw
       simp at this;omega
      rw[NK z,ej,u1,OQ]at hw;cases hw;rw[ej,hsg]
    ·simp only[fM,kA];simp! only[d64,ms,g26,e2];rw[GJ _ _ _ _ _ (xs:=us.map .str) rfl];simp! only[wt,e1,e3,a1,a2,EE (xs:=us.map D.str) (y:=.str (y1++y2++y3)) (by rw[Ny];omega),Oo]
   ·exact⟨[],rfl,(λ_ h=>nomatch h),(λ_ _ h=>nomatch h),rfl⟩
   ·rintro ρ' ⟨us,u1,u2,u3,rfl⟩;rw[dR]at u1;refine⟨us,u1,u2,?_,by simp! only[]⟩;refine List.pairwise_iff_getElem.mpr λi j hi hj hij e=>?_;have ei:=u3 i _ (Oe hi);have ej:=u3 j _ (Oe hj);rw[e,ej]at ei;exact sgn_ne i j hij ‹0› (BA ei.symm)
  obtain⟨ws,w1,w2,wn,w3⟩:=key;refine⟨ws,w1,w2,(λ_=>wn),?_⟩;rw[<-hT];simp only[K0]at w3;cases hx1:(c/5%4==1)with
  |false=>simp! only[hL,f0,d5,g4,hx1,g8,d8,gl,hat,l6,eq,g6,est,Ln,w3]
  |true=>
   rw[hx1,Bool.true_and]at hc';simp! only[hL,f0,d5,g4,hx1,hc',g8,d8,gl,hat,l6,eq,g6,est,Ln,w3]
local macro_rules
 |`(tactic| simp! only[$xs,*])=>`(tactic| simp only[fh,vE,vd,vq,lF,eM,ge_0,BX,qt,DM,qT,lU,qm,qF,CG,BU,Dx,CC,CB,qf,qi,vR,jP,mH,qg,mr,vk,rC,qV,mx,qW,j7,qd,ku,ka,jg,ji,qI,mi,jb,mh,jT,my,mw,fM,lY,kB,qC,kA,jR,gH,lX,mG,Dg,vK,Ds,DA,Cz,rp,mK,qY,lW,mE,Bx,BL,Pa,Pb,Nx,NX,N6,Ol,K0,env0,List.replicate,OS,ND,OI,Nat.reduceAdd,Nat.reduceSub,Nw,N0,qv,ra,vg,qu,rm,qE,je,qQ,vG,vw,v6,qK,jC,kj,j9,kz,j6,jH,vn,ve,vj,vD,vO,wl,ky,jJ,hJ,gU,qB,jc,hW,gR,gL,qe,qN,gI,hX,j4,jZ,mC,mj,jE,lZ,qS,rh,md,mm,gN,if_true,if_false,OV,Pg,N5,$xs,*])
theorem kW{g:GF}{B:bw}{k:Ks}{Q:R D->Prop}(Iv:Nat->ao->Prop):∀(ds:List D)(o i:Nat)(ρ:ao)(d:D),ds[i]?=some d->(∀j d ρ (k':Ks),j<i->ds[j]?=some d->Iv (o+j) ρ->∃ρ1 ρ2,g d ρ=some ρ1/\Iv (o+j+1) ρ2/\B k' ρ1=k'.nx ρ2)->Iv o ρ->
  (∀ρ (k':Ks),Iv (o+i) ρ->∃ρ1,g d ρ=some ρ1/\Q (B k' ρ1))->Q (dS g B k ds ρ)
 |[],_,_,_,_,h,_,_,_=>nomatch h
 |x::ds,o,0,ρ,d,h,_,hI,q=>by
  cases h;obtain⟨ρ1,e1,q1⟩:=q ρ ⟨dS g B k ds,k.nx,dS g B k ds,k.ex⟩ hI;show Q ((rO (g x ρ)).bind λρ1=>B ⟨dS g B k ds,k.nx,dS g B k ds,k.ex⟩ ρ1);rw[e1,eM,fh];exact q1
 |x::ds,o,i+1,ρ,d,h,st,hI,q=>by
  obtain⟨ρ1,ρ2,e1,h2,e2⟩:=st 0 x ρ ⟨dS g B k ds,k.nx,dS g B k ds,k.ex⟩ ‹0› rfl hI;show Q ((rO (g x ρ)).bind λρ1=>B ⟨dS g B k ds,k.nx,dS g B k ds,k.ex⟩ ρ1);rw[e1,eM,fh,e2];refine kW Iv ds (o+1) i ρ2 d (by rw[OC]at h;exact h) (λj d' ρ' k' hj hd hI'=>?_) h2 (λρ' k' hI'=>q ρ' k' (by rw[show o+(i+1)=o+1+i by omega];exact hI'));obtain⟨a,b,c1,c2,c3⟩:=st (j+1) d' ρ' k' ‹0› (by rw[OC];exact hd) (by rw[show o+(j+1)=o+1+j by omega];exact hI');exact⟨a,b,c1,by rw[show o+1+j+1=o+(j+1)+1 by omega];exact c2,c3⟩
noncomputable abbrev fld(p:Str×D):D:=.tup [.str p.1,p.2]
theorem gA(kf rf:List D)(ps:List (Str×D))(hl:ps.length<=100)(e:kf++rf=ps.map fld):au cQ 1 1 [.tup [.tup kf,.tup rf]]=.ok (.tup (ps.map λp=>.str p.1)):=by
 have hl':kf.length+rf.length<=100:=by have:=congrArg List.length e;rw[NR,Ny]at this;omega
 have f0:eE [none] (bj (f2 bN (f2 ap (af 0) (fC (.int 0))) (f2 ap (af 0) (fC (.int 1))))) (gN 0) bz (f2 ap (af 0) (fC (.int 0))) [some (.val (.tup [.tup kf,.tup rf]))]=.ok (.lst (ps.map λp=>.str p.1)):=by
  refine dH (ds:=ps.map fld) ?_ (by rw[Ny];omega) ?_
  ·simp! only[];rw[fj _ _ ‹0›,e];simp! only[]
  ·refine fA _ _ ps λp _=>⟨_,rfl,rfl,?_⟩
   simp! only[]
 rw[eT];unfold cQ;simp! only[f0]
theorem o8(xs:List D):pC [.tup xs]=some (eY 0 xs):=nr rfl
theorem j0:∀(xs:List D)(k i:Nat),(eY k xs)[i]?=(xs[i]?).map λx=>.tup [.int ((k+i:Nat):Int),x]
 |[],k,i=>by simp[eY]
 |x::xs,k,0=>by simp[eY]
 |x::xs,k,i+1=>by
  rw[eY,OC,j0 xs (k+1) i,OC];congr 1;funext y;rw[show k+1+i=k+(i+1)by omega]
theorem fX(kf rf:List D)(ps:List (Str×D))(hl:ps.length<=100)(e:kf++rf=ps.map fld)(i:Nat)(nm:Str)(k:D)(hi:ps[i]?=some (nm,k)):au dz 2 2 [.tup [.tup kf,.tup rf],.int i]=.ok k:=by
 have hl':kf.length+rf.length<=100:=by have:=congrArg List.length e;rw[NR,Ny]at this;omega
 have g:ap (.tup (ps.map fld)) (.int (i:Int))=some (.tup [.str nm,k]):=by
  rw[JR,zH,NP,hi];rfl
 rw[bq];unfold dz;simp! only[fj kf rf ‹0›,e,g]
theorem gK(kf rf:List D)(i:Nat):au eh 2 2 [.tup [.tup kf,.tup rf],.int i]=.ok (.bl (decide (i<kf.length))):=by
 rw[bq];unfold eh
 have:decide ((i:Int)<(kf.length:Int))=decide (i<kf.length):=by
  by_cases h:i<kf.length
  ·rw[decide_eq_true h,decide_eq_true ‹0›]
  ·rw[decide_eq_false h,decide_eq_false ‹0›]
 simp! only[this]
theorem pJ(vs os:List D)(i:Nat)(h:vs.length+os.length<=10000):au cE 3 3 [.tup vs,.int i,.tup os]=.ok (.tup (vs.take i++os++vs.drop (i+1))):=by
 have l1:(vs.take i).length<=vs.length:=by rw[NI];omega
 have l2:(vs.drop (i+1)).length<=vs.length:=by rw[NT];omega
 have c:((i:Int)+1)=((i+1:Nat):Int):=by omega
 have a1:=fj (vs.take i) os ‹0›;have a2:=fj (vs.take i++os) (vs.drop (i+1)) (by rw[NR];omega);rw[og];unfold cE;simp! only[c,GU,zY,a1,a2]
theorem kT(kf rf os:List D)(i:Nat)(h:kf.length+rf.length+os.length<=10000):au bH 3 3 [.tup [.tup kf,.tup rf],.int i,.tup os]=.ok (if i<kf.length then .tup [.tup (kf.take i++os++kf.drop (i+1)),.tup rf]else .tup [.tup kf,.tup (rf.take (i-kf.length)++os++rf.drop (i-kf.length+1))]):=by
 rw[og];unfold bH;by_cases hi:i<kf.length
 ·rw[if_pos hi];simp! only[gK,decide_eq_true hi,pJ kf os i ‹0›,B1]
 ·rw[if_neg hi];have c:((i:Int)-(kf.length:Int))=((i-kf.length:Nat):Int):=by omega
  simp! only[gK,decide_eq_false hi,c,pJ rf os (i-kf.length) ‹0›,B1]
end TD
namespace Tk84
open PySem PySem.Spec L2 TG TX TD
noncomputable def top(i:Nat):QQ:=PySem.Challenge.pw_twoglass_k84_refused_as_the_glass_is.main.body.getD i (.Pass ⟨0,0,0,0⟩)
noncomputable abbrev ii:QQ:=inClass (top 61) 0
theorem kP:bX ["self","name"] ["self","name"] (aF ii):=‹2›
noncomputable abbrev fG:QQ:=inClass (top 74) 0
theorem jz:bX ["self","old","new"] ["self","old","new"] (aF fG):=‹2›
noncomputable abbrev ic:QQ:=inClass (top 63) 0
theorem kQ:bX ["self","one","other","pair"] ["self","one","other","pair"] (aF ic):=‹2›
noncomputable abbrev ip:QQ:=inClass (top 62) 0
theorem kF:bX ["self","glass","step"] ["self","glass","step"] (aF ip):=‹2›
noncomputable abbrev iq:QQ:=inClass (top 49) 0
theorem kS:bX ["self","name","value"] ["self","name","value"] (aF iq):=‹2›
noncomputable abbrev gk:QQ:=inClass (top 10) 0
theorem jD:bX ["self","one","other","change"] ["self","one","other","change"] (aF gk):=‹2›
noncomputable def cG:bw:=jo
noncomputable def cH:bw:=jo
noncomputable def cC:bw:=jo
noncomputable def dj:bw:=jo
noncomputable def aV:bw:=az (fD (fB (f2 eN (f1 (aX "name" ["Leaf"]) (af 0)) (af 1))) (dF "NoTable" (aa (fC (.str "no table has this name")) ai)) bD) (aU (f2 pz (af 1) (f1 (aX "name" ["Leaf"]) (af 0))))
noncomputable def gG:bw:=az (aO 2 (fL eG (aa (eE [none,some 1] (bj (f2 ap (af 0) (fC (.int 1)))) (gN 0) (fB (f2 tX (af 0) (f2 ap (af 1) (fC (.int 1))))) (af 0)) ai))) (aU (G1 (bZ (af 2)) (aN (aa (fC (.str "word")) (aa (af 2) ai))) (fC .non)))
noncomputable def eU:bw:=az (aO 2 (fL tH (aa (f2 ap (af 0) (fC (.int 1))) (aa (f2 ap (af 1) (fC (.int 1))) ai)))) (az (aO 3 (fL sM (aa (f2 ap (af 0) (fC (.int 2))) (aa (f2 ap (af 1) (fC (.int 2))) ai)))) (aU (G1 (fB (f2 Bq (af 2) (af 3))) (aN (aa (fC (.str "number")) (aa (af 2) (aa (af 3) ai)))) (fC .non))))
noncomputable def uP:bw:=az (fD (fB (f2 qa (f2 ap (af 0) (fC (.int 0))) (f2 ap (af 1) (fC (.int 0))))) (aU (fC .non)) bD) (az (fD (fB (f2 lL (f2 ap (af 0) (fC (.int 0))) (fC (.str "number")))) (aU (fR (au eU 2 4) (aa (af 0) (aa (af 1) ai)))) bD) (az (fD (fB (f2 lL (f2 ap (af 0) (fC (.int 0))) (fC (.str "word")))) (aU (fR (au gG 2 3) (aa (af 0) (aa (af 1) ai)))) bD) (aU (fC .non))))
noncomputable def dE:bw:=az (fD (fB (f2 qa (eE [none] (bj (af 0)) (gN 0) bz (f2 ap (af 0) (fC (.int 0)))) (eE [none] (bj (af 1)) (gN 0) bz (f2 ap (af 0) (fC (.int 0)))))) (dF "NoKind" (aa (fC (.str "the keys have not the same names in the same order")) ai)) bD) (az (fD (fB (f2 qa (eE [none] (bj (af 0)) (gN 0) bz (f2 ap (f2 ap (af 0) (fC (.int 1))) (fC (.int 0)))) (eE [none] (bj (af 1)) (gN 0) bz (f2 ap (f2 ap (af 0) (fC (.int 1))) (fC (.int 0)))))) (dF "NoKind" (aa (fC (.str "two kinds of one name are not of the same sort")) ai)) bD) (az (aO 2 (eE [none,none] (yf (aa (af 0) (aa (af 1) ai))) (gT 2 (tY [0,1])) bz (fR (au uP 2 2) (aa (f2 ap (af 0) (fC (.int 1))) (aa (f2 ap (af 1) (fC (.int 1))) ai))))) (az (fD (fB (f2 tX (fC .non) (af 2))) (dF "Nothing" (aa (fC (.str "of some field no value is in both")) ai)) bD) (aU (fL eG (aa (eE [none,none] (yf (aa (af 0) (aa (af 2) ai))) (gT 2 (tY [0,1])) bz (aN (aa (f2 ap (af 0) (fC (.int 0))) (aa (af 1) ai)))) ai))))))
noncomputable def bg:bw:=az (aO 3 (fR (au dE 2 3) (aa (f2 ap (af 1) (fC (.int 0))) (aa (f2 ap (af 2) (fC (.int 0))) ai)))) (az (aO 4 (eE [none] (bj (f2 ap (af 1) (fC (.int 1)))) (gN 0) bz (f2 ap (af 0) (fC (.int 0))))) (az (fD (bZ (fL xq (aa (eE [none,some 4] (bj (f2 ap (af 2) (fC (.int 1)))) (gN 0) bz (f2 tX (f2 ap (af 0) (fC (.int 0))) (af 1))) ai))) (dF "Twice" (aa (fC (.str "a name is in both rests")) ai)) bD) (az (fD (fB (f2 HM (f2 bN (fL fg (aa (f2 ap (af 1) (fC (.int 1))) ai)) (fL fg (aa (f2 ap (af 2) (fC (.int 1))) ai))) (fC (.int 8)))) (dF "TooMany" (aa (fC (.str "the rest would have more than 8 fields")) ai)) bD) (aU (aN (aa (af 3) (aa (f2 bN (f2 ap (af 1) (fC (.int 1))) (f2 ap (af 2) (fC (.int 1)))) ai)))))))
noncomputable def aL:bw:=aU (aN (aa (f1 (aX "name" ["Leaf"]) (af 0)) ai))
noncomputable def eK(ay aE:bE):bw:=aU (bf "names" [("Leaf",(au aL 1 1)),("Over",ay),("Both",aE)] (f1 (aX "glass" ["Over"]) (af 0)) ai)
noncomputable def gS(ay aE:bE):bw:=aU (f2 bN (bf "names" [("Leaf",(au aL 1 1)),("Over",ay),("Both",aE)] (f1 (aX "one" ["Both"]) (af 0)) ai) (bf "names" [("Leaf",(au aL 1 1)),("Over",ay),("Both",aE)] (f1 (aX "other" ["Both"]) (af 0)) ai))
mutual
noncomputable def ay:Nat->bE
 |0=>λ_=>un
 |n+1=>au (eK (ay n) (aE n)) 1 1
noncomputable def aE:Nat->bE
 |0=>λ_=>un
 |n+1=>au (gS (ay n) (aE n)) 1 1
end
theorem dG(n:Nat):ay (n+1)=au (eK (ay n) (aE n)) 1 1:=by rw[ay]
theorem il:∀n:Nat,Ar 1 (ay n)
 |0=>λ_ h=>absurd (by rw[ay]) h
 |n+1=>by rw[dG];exact eS
theorem fF(n:Nat):aE (n+1)=au (gS (ay n) (aE n)) 1 1:=by rw[aE]
theorem hZ:∀n:Nat,Ar 1 (aE n)
 |0=>λ_ h=>absurd (by rw[aE]) h
 |n+1=>by rw[fF];exact eS
noncomputable def fu:bw:=aU (G1 (fB (f2 lL (f2 ap (af 0) (fC (.int 0))) (fC (.str "number")))) (f2 bN (f2 ap (af 0) (fC (.int 1))) (fC (.int 1))) (f2 ap (f2 ap (af 0) (fC (.int 1))) (fC (.int 1))))
noncomputable def j8(bW:bE):bw:=az (fD (fB (f2 lL (f2 ap (af 0) (fC (.int 0))) (fC (.str "number")))) (aU (f2 lL (f2 ap (af 0) (fC (.int 1))) (f2 ap (af 0) (fC (.int 2))))) bD) (az (fD (fB (f2 lL (f2 ap (af 0) (fC (.int 0))) (fC (.str "word")))) (aU (f2 lL (fL fg (aa (f2 ap (af 0) (fC (.int 1))) ai)) (fC (.int 1)))) bD) (aU (ig (f2 ap (af 0) (fC (.int 2))) (fL uR (aa (eE [none] (bj (fR (au dy 1 1) (aa (f2 ap (af 0) (fC (.int 1))) ai))) (gN 0) bz (fR bW (aa (af 0) ai))) ai)))))
noncomputable def bW:Nat->bE
 |0=>λ_=>un
 |n+1=>au (j8 (bW n)) 1 1
theorem fP(n:Nat):bW (n+1)=au (j8 (bW n)) 1 1:=by rw[bW]
theorem lC:∀n:Nat,Ar 1 (bW n)
 |0=>λ_ h=>absurd (by rw[bW]) h
 |n+1=>by rw[fP];exact eS
noncomputable def cR:bw:=az (aO 2 (fL fg (aa (f2 ap (af 0) (fC (.int 0))) ai))) (az (fD (fB (f2 lL (af 2) (fC (.int 1)))) (dF "NoKey" (aa (fC (.str "no key would be left")) ai)) bD) (az (aO 3 (fR (au dz 2 2) (aa (af 0) (aa (af 1) ai)))) (fD (kY (bZ (fR (bW 12) (aa (af 3) ai)))) (az (aO 4 (fR (au bi 1 1) (aa (af 0) ai))) (az (aO 5 (fR (au cE 3 3) (aa (af 4) (aa (af 1) (aa (aN (aa (fR (au fu 1 1) (aa (af 3) ai)) ai)) ai))))) (qJ "Blind" ["one","other","change"] (aa (aN (aa (af 4) (aa (af 5) ai))) (aa (aN (aa (af 4) ai)) (aa (aN (aa (aN (aa (cj (af 4) bR (cO (af 2))) (aa (af 4) (aa (fC .non) ai)))) ai)) ai)))))) bD)))
noncomputable def eV:bw:=aU (ig (nU "int" (af 0)) (rQ (nU "bool" (af 0))))
noncomputable def iE:bw:=aU (ig (nU "tuple" (af 0)) (f2 lL (fL fg (aa (af 0) ai)) (af 1)))
noncomputable def iQ:bw:=az (aO 2 (eE [none,some 0] (bj (af 1)) (gN 0) bz (cj (af 0) bR (cO (af 1))))) (aU (fL uR (aa (eE [none,some 2] (dq (aa (f2 DB (fL fg (aa (af 2) ai)) (fC (.int 1))) ai)) (gN 0) bz (f2 lN (f2 ap (af 1) (af 0)) (f2 ap (af 1) (f2 bN (af 0) (fC (.int 1)))))) ai)))
noncomputable def qw(cx bY bA:bE):bw:=az (fD (fB (f2 lL (f2 ap (af 0) (fC (.int 0))) (fC (.str "number")))) (aU (ig (fR (au eV 1 1) (aa (af 1) ai)) (js Bq Bq (f2 ap (af 0) (fC (.int 1))) (af 1) (f2 ap (af 0) (fC (.int 2)))))) bD) (az (fD (fB (f2 lL (f2 ap (af 0) (fC (.int 0))) (fC (.str "word")))) (aU (ig (nU "str" (af 1)) (f2 tX (af 1) (f2 ap (af 0) (fC (.int 1)))))) bD) (aU (ig (fR bY (aa (f2 ap (af 0) (fC (.int 1))) (aa (af 1) ai))) (Cq (f2 HM (fL fg (aa (af 1) ai)) (fC (.int 0))) (rQ (f2 ap (af 0) (fC (.int 2))))))))
noncomputable def rK(cx bY bA:bE):bw:=az (fD (kY (bZ (nU "tuple" (af 1)))) (aU (fC (.bl false))) bD) (az (aO 2 (fR (au dy 1 1) (aa (af 0) ai))) (aU (ig (fL uR (aa (eE [none,some 2] (bj (af 1)) (gN 0) bz (fR bA (aa (af 1) (aa (af 0) ai)))) ai)) (fR (au iQ 2 3) (aa (fL fg (aa (f2 ap (af 0) (fC (.int 0))) ai)) (aa (af 1) ai))))))
noncomputable def nq(cx bY bA:bE):bw:=az (fD (kY (bZ (fR (au iE 2 2) (aa (af 1) (aa (fL fg (aa (af 0) ai)) ai))))) (aU (fC (.bl false))) bD) (aU (fL uR (aa (eE [none,none] (yf (aa (af 0) (aa (af 1) ai))) (gT 2 (tY [0,1])) bz (fR cx (aa (af 0) (aa (af 1) ai)))) ai)))
mutual
noncomputable def cx:Nat->bE
 |0=>λ_=>un
 |n+1=>au (qw (cx n) (bY n) (bA n)) 2 2
noncomputable def bY:Nat->bE
 |0=>λ_=>un
 |n+1=>au (rK (cx n) (bY n) (bA n)) 2 3
noncomputable def bA:Nat->bE
 |0=>λ_=>un
 |n+1=>au (nq (cx n) (bY n) (bA n)) 2 2
end
theorem iD(n:Nat):cx (n+1)=au (qw (cx n) (bY n) (bA n)) 2 2:=by rw[cx]
theorem pK:∀n:Nat,Ar 2 (cx n)
 |0=>λ_ h=>absurd (by rw[cx]) h
 |n+1=>by rw[iD];exact eS
theorem jK(n:Nat):bY (n+1)=au (rK (cx n) (bY n) (bA n)) 2 3:=by rw[bY]
theorem nz:∀n:Nat,Ar 2 (bY n)
 |0=>λ_ h=>absurd (by rw[bY]) h
 |n+1=>by rw[jK];exact eS
theorem jp(n:Nat):bA (n+1)=au (nq (cx n) (bY n) (bA n)) 2 2:=by rw[bA]
theorem lD:∀n:Nat,Ar 2 (bA n)
 |0=>λ_ h=>absurd (by rw[bA]) h
 |n+1=>by rw[jp];exact eS
noncomputable def cg:bw:=az (sv (hV (aa (fR (au cQ 1 1) (aa (af 0) ai)) ai)) (gT 2 (tY [2,3])) (az (fD (fB (f2 lL (af 3) (af 1))) (aU (af 2)) bD) (h7 [2,3] bD))) (dF "NoField" (aa (fC (.str "no field has this name")) ai))
noncomputable def aJ:bw:=az (aO 2 (fR (au cg 2 4) (aa (af 1) (aa (f1 (aX "name" ["Drop"]) (af 0)) ai)))) (az (aO 3 (fR (au dz 2 2) (aa (af 1) (aa (af 2) ai)))) (az (fD (D8 (fB (f2 lL (f2 ap (af 3) (fC (.int 0))) (fC (.str "rows")))) (kY (bZ (fR (cx 12) (aa (af 3) (aa (f1 (aX "value" ["Drop"]) (af 0)) ai)))))) (dF "NoKind" (aa (fC (.str "it is a field of rows, or the value is not of its kind")) ai)) bD) (az (fD (bZ (fR (au eh 2 2) (aa (af 1) (aa (af 2) ai)))) (pI (fR (au cR 2 6) (aa (af 1) (aa (af 2) ai)))) bD) (aU (fR (au bH 3 3) (aa (af 1) (aa (af 2) (aa (aN ai) ai))))))))
noncomputable def aC:bw:=az (aO 2 (fR (au cg 2 4) (aa (af 1) (aa (f1 (aX "old" ["Rename"]) (af 0)) ai)))) (az (fD (fB (f2 tX (f1 (aX "new" ["Rename"]) (af 0)) (fR (au cQ 1 1) (aa (af 1) ai)))) (dF "Twice" (aa (fC (.str "there is a field of the new name")) ai)) bD) (aU (fR (au bH 3 3) (aa (af 1) (aa (af 2) (aa (aN (aa (aN (aa (f1 (aX "new" ["Rename"]) (af 0)) (aa (fR (au dz 2 2) (aa (af 1) (aa (af 2) ai))) ai))) ai)) ai))))))
noncomputable def fH(aA aB:bE):bw:=aU (bf "view_form" [("Drop",(au aJ 2 4)),("Rename",(au aC 2 3))] (f1 (aX "step" ["Over"]) (af 0)) (aa (bf "form" [("Leaf",(au aV 2 2)),("Over",aA),("Both",aB)] (f1 (aX "glass" ["Over"]) (af 0)) (aa (af 1) ai)) ai))
noncomputable def dC(aA aB:bE):bw:=az (aO 2 (bf "form" [("Leaf",(au aV 2 2)),("Over",aA),("Both",aB)] (f1 (aX "one" ["Both"]) (af 0)) (aa (af 1) ai))) (az (aO 3 (bf "form" [("Leaf",(au aV 2 2)),("Over",aA),("Both",aB)] (f1 (aX "other" ["Both"]) (af 0)) (aa (af 1) ai))) (az (aO 4 (bf "names" [("Leaf",(au aL 1 1)),("Over",(ay 12)),("Both",(aE 12))] (f1 (aX "one" ["Both"]) (af 0)) ai)) (az (fD (bZ (fL xq (aa (eE [none,some 4] (bj (bf "names" [("Leaf",(au aL 1 1)),("Over",(ay 12)),("Both",(aE 12))] (f1 (aX "other" ["Both"]) (af 0)) ai)) (gN 0) bz (f2 tX (af 0) (af 1))) ai))) (dF "Twice" (aa (fC (.str "a table is named by both glasses")) ai)) bD) (aU (bf "view_form" [("Join",(au bg 3 5))] (f1 (aX "pair" ["Both"]) (af 0)) (aa (af 2) (aa (af 3) ai)))))))
mutual
noncomputable def aA:Nat->bE
 |0=>λ_=>un
 |n+1=>au (fH (aA n) (aB n)) 2 2
noncomputable def aB:Nat->bE
 |0=>λ_=>un
 |n+1=>au (dC (aA n) (aB n)) 2 5
end
theorem dN(n:Nat):aA (n+1)=au (fH (aA n) (aB n)) 2 2:=by rw[aA]
theorem iO:∀n:Nat,Ar 2 (aA n)
 |0=>λ_ h=>absurd (by rw[aA]) h
 |n+1=>by rw[dN];exact eS
theorem cy(n:Nat):aB (n+1)=au (dC (aA n) (aB n)) 2 5:=by rw[aB]
theorem iP:∀n:Nat,Ar 2 (aB n)
 |0=>λ_ h=>absurd (by rw[aB]) h
 |n+1=>by rw[cy];exact eS
noncomputable def cS:bw:=az (aO 4 (fR (au cg 2 4) (aa (af 1) (aa (f1 (aX "name" ["Drop"]) (af 0)) ai)))) (az (aO 5 (fL fg (aa (f2 ap (bf "view_form" [("Drop",(au aJ 2 4))] (af 0) (aa (af 1) ai)) (fC (.int 0))) ai))) (az (aO 6 (fL nu (aa (eE [none,some 4,some 5] (bj (af 2)) (gN 0) bz (aN (aa (cj (fR (au cE 3 3) (aa (af 0) (aa (af 1) (aa (aN ai) ai)))) bR (cO (af 2))) (aa (f2 ap (af 0) (af 1)) ai)))) ai))) (aU (fL eG (aa (eE [none,some 4,some 6,some 5,some 0] (bj (af 3)) (gN 0) bz (f2 bN (f2 bN (cj (af 0) bR (cO (af 1))) (aN (aa (n0 (af 2) (cj (af 0) bR (cO (af 3))) (f1 (aX "value" ["Drop"]) (af 4))) ai))) (cj (af 0) (cO (af 1)) bR))) ai)))))
noncomputable def cP:bw:=aU (af 3)
noncomputable def fJ:bw:=jo
noncomputable def dX:bw:=jo
noncomputable def ce:bw:=aU (fR (bW 12) (aa (fR (au dz 2 2) (aa (af 1) (aa (fR (au cg 2 4) (aa (af 1) (aa (f1 (aX "name" ["Drop"]) (af 0)) ai))) ai))) ai))
noncomputable def bS:bw:=aU (bf "exact" [("Drop",(au ce 2 2))] (af 0) (aa (af 1) ai))
noncomputable def bT:bw:=aU (fC (.bl true))
noncomputable def cz:bw:=az (aO 2 (aN (aa (fR (au bi 1 1) (aa (bf "form" [("Leaf",(au aV 2 2)),("Over",(aA 12)),("Both",(aB 12))] (af 1) (aa (af 0) ai)) ai)) ai))) (az (aO 3 (fL kK (aa (eE [none] (bj (bf "names" [("Leaf",(au aL 1 1)),("Over",(ay 12)),("Both",(aE 12))] (af 1) ai)) (gN 0) bz (aN (aa (af 0) (aa (aN ai) ai)))) ai))) (az (aO 4 (af 2)) (az (nh 200 (bZ (f1 (oK ["Over"] ["Leaf","Both"]) (af 1))) (az (aO 5 (bf "form" [("Leaf",(au aV 2 2)),("Over",(aA 12)),("Both",(aB 12))] (f1 (aX "glass" ["Over"]) (af 1)) (aa (af 0) ai))) (az (fD (kY (bZ (bf "steady" [("Drop",(au bS 2 2)),("Rename",(au bT 2 2))] (f1 (aX "step" ["Over"]) (af 1)) (aa (af 5) ai)))) (az (aO 3 (bf "put" [("Leaf",(au cG 4 5)),("Over",(au cH 4 5)),("Both",(au cC 4 7))] (f1 (aX "glass" ["Over"]) (af 1)) (aa (af 0) (aa (af 3) (aa (fR (au dX 3 5) (aa (af 5) (aa (f1 (aX "step" ["Over"]) (af 1)) (aa (af 4) ai)))) ai))))) (aU (f2 bN (aN (aa (af 3) ai)) (fR (au fJ 2 2) (aa (f1 (aX "step" ["Over"]) (af 1)) (aa (af 2) ai)))))) bD) (az (aO 4 (bf "put" [("Drop",(au cS 4 7)),("Rename",(au cP 4 4))] (f1 (aX "step" ["Over"]) (af 1)) (aa (af 5) (aa (aN ai) (aa (af 4) ai))))) (az (aO 1 (f1 (aX "glass" ["Over"]) (af 1))) (h7 [5] bD)))))) (az (fD (kY (bZ (f1 (oK ["Both"] ["Leaf","Over"]) (af 1)))) (aU (fC .non)) bD) (az (aO 6 (fR (au dj 3 5) (aa (aN (aa (bf "form" [("Leaf",(au aV 2 2)),("Over",(aA 12)),("Both",(aB 12))] (f1 (aX "one" ["Both"]) (af 1)) (aa (af 0) ai)) (aa (bf "form" [("Leaf",(au aV 2 2)),("Over",(aA 12)),("Both",(aB 12))] (f1 (aX "other" ["Both"]) (af 1)) (aa (af 0) ai)) ai))) (aa (f1 (aX "pair" ["Both"]) (af 1)) (aa (af 4) ai))))) (az (aO 3 (bf "put" [("Leaf",(au cG 4 5)),("Over",(au cH 4 5)),("Both",(au cC 4 7))] (f1 (aX "other" ["Both"]) (af 1)) (aa (af 0) (aa (bf "put" [("Leaf",(au cG 4 5)),("Over",(au cH 4 5)),("Both",(au cC 4 7))] (f1 (aX "one" ["Both"]) (af 1)) (aa (af 0) (aa (af 3) (aa (f2 ap (af 6) (fC (.int 0))) ai)))) (aa (f2 ap (af 6) (fC (.int 1))) ai))))) (aU (aN (aa (af 3) (aa (af 2) (aa (aN ai) ai)))))))))))
noncomputable def bc:bw:=az (aO 2 (fC .non)) (az (xf ["NoTable","NoField","Twice","NoKind","Nothing","NoKey","TooMany","Blind"] 3 (pI (fR (au cz 2 7) (aa (af 0) (aa (af 1) ai)))) (aO 2 (af 3))) (aU (af 2)))
noncomputable def cI:bw:=az (aO 1 (jN (aa (f1 (gh [("NoTable",false),("NoField",true),("Twice",false),("NoKind",false),("Nothing",false),("NoKey",false),("TooMany",false),("Blind",false)]) (af 0)) (aa (f1 (gh [("NoTable",false),("NoField",false),("Twice",false),("NoKind",true),("Nothing",false),("NoKey",false),("TooMany",false),("Blind",false)]) (af 0)) (aa (f1 (gh [("NoTable",false),("NoField",false),("Twice",true),("NoKind",false),("Nothing",false),("NoKey",false),("TooMany",false),("Blind",false)]) (af 0)) ai))))) (az (aO 1 (f2 bN (af 1) (jN (aa (f1 (gh [("NoTable",true),("NoField",false),("Twice",false),("NoKind",false),("Nothing",false),("NoKey",false),("TooMany",false),("Blind",false)]) (af 0)) (aa (f1 (gh [("NoTable",false),("NoField",false),("Twice",false),("NoKind",false),("Nothing",false),("NoKey",true),("TooMany",false),("Blind",false)]) (af 0)) ai))))) (az (fD (bZ (f1 (vt [[("NoTable",false),("NoField",false),("Twice",false),("NoKind",false),("Nothing",false),("NoKey",false),("TooMany",false),("Blind",false)],[("NoTable",false),("NoField",false),("Twice",false),("NoKind",false),("Nothing",false),("NoKey",false),("TooMany",true),("Blind",false)],[("NoTable",false),("NoField",false),("Twice",false),("NoKind",false),("Nothing",true),("NoKey",false),("TooMany",false),("Blind",false)],[("NoTable",false),("NoField",false),("Twice",false),("NoKind",false),("Nothing",false),("NoKey",false),("TooMany",false),("Blind",true)],[("NoTable",false),("NoField",false),("Twice",false),("NoKind",false),("Nothing",false),("NoKey",false),("TooMany",false),("Blind",false)],[("NoTable",false),("NoField",false),("Twice",false),("NoKind",false),("Nothing",false),("NoKey",false),("TooMany",false),("Blind",false)],[("NoTable",false),("NoField",false),("Twice",false),("NoKind",false),("Nothing",false),("NoKey",false),("TooMany",false),("Blind",false)],[("NoTable",false),("NoField",false),("Twice",false),("NoKind",false),("Nothing",false),("NoKey",false),("TooMany",false),("Blind",false)]]) (af 0))) (aU (uS (fC (.int 1)))) bD) (az (fD (D8 (kY (bZ (f1 (gh [("NoTable",true),("NoField",true),("Twice",true),("NoKind",true),("Nothing",true),("NoKey",true),("TooMany",true),("Blind",true)]) (af 0)))) (fB (f2 qa (fL fg (aa (eE [none] (bj (af 1)) (gN 0) (bZ (af 0)) (af 0)) ai)) (fC (.int 1))))) (aU (uS (fC (.int 1)))) bD) (aU (uy (af 1) (aa (fC (.bl true)) ai))))))
noncomputable def bp:bw:=az (aO 2 (fC .non)) (az (xf ["NoTable","NoField","Twice","NoKind","Nothing","NoKey","TooMany","Blind"] 3 (pI (bf "form" [("Leaf",(au aV 2 2)),("Over",(aA 12)),("Both",(aB 12))] (af 1) (aa (af 0) ai))) (aO 2 (af 3))) (aU (af 2)))
noncomputable def cX:bw:=az (aO 3 (f2 gB (af 2) (f2 uk (fC (.int 10)) (fC (.int 60))))) (az (aO 4 (aN (aa (aN (aa (aN (aa (f2 ap (af 1) (fC (.int 0))) (aa (aN (aa (fC (.str "number")) (aa (fC (.int 0)) (aa (af 3) ai)))) ai))) ai)) (aa (aN (aa (aN (aa (f2 ap (af 1) (fC (.int 1))) (aa (aN (aa (fC (.str "number")) (aa (uS (af 3)) (aa (fC (.int 0)) ai)))) ai))) ai)) ai)))) (az (aO 5 (aN (aa (aN (aa (aN (aa (f2 ap (af 1) (fC (.int 2))) (aa (aN (aa (fC (.str "number")) (aa (fC (.int 0)) (aa (af 3) ai)))) ai))) ai)) (aa (aN (aa (aN (aa (f2 ap (af 1) (fC (.int 3))) (aa (aN (aa (fC (.str "word")) (aa (aN (aa (fC (.str "")) (aa (fC (.str "z")) ai))) ai))) ai))) ai)) ai)))) (aU (eJ [(f2 ap (af 0) (fC (.int 0)),af 4),(f2 ap (af 0) (fC (.int 1)),af 5)]))))
noncomputable def cV:bw:=az (aO 3 (fNew "Leaf" ["name"] (aa (f2 ap (af 1) (fC (.int 0))) ai))) (az (aO 4 (fNew "Leaf" ["name"] (aa (f2 ap (af 1) (fC (.int 1))) ai))) (az (aO 5 (fNew "Leaf" ["name"] (aa (f2 ap (af 1) (fC (.int 2))) ai))) (az (aO 6 (fNew "Rename" ["old","new"] (aa (f2 ap (af 2) (fC (.int 4))) (aa (f2 ap (af 2) (fC (.int 5))) ai)))) (az (aO 7 (jN (aa (aN (aa (af 5) (aa (fC (.int 3)) ai))) (aa (aN (aa (fNew "Over" ["glass","step"] (aa (af 5) (aa (af 6) ai))) (aa (fC (.int 3)) ai))) (aa (aN (aa (fNew "Over" ["glass","step"] (aa (af 3) (aa (af 6) ai))) (aa (fC (.int 0)) ai))) (aa (aN (aa (fNew "Both" ["one","other","pair"] (aa (af 3) (aa (fNew "Leaf" ["name"] (aa (f2 ap (af 1) (fC (.int 0))) ai)) (aa (fC (.obj "Join" [] [])) ai)))) (aa (fC (.int 2)) ai))) ai)))))) (az (aO 7 (f2 bN (af 7) (jN (aa (aN (aa (fNew "Both" ["one","other","pair"] (aa (af 3) (aa (fNew "Over" ["glass","step"] (aa (af 4) (aa (af 6) ai))) (aa (fC (.obj "Join" [] [])) ai)))) (aa (fC (.int 0)) ai))) (aa (aN (aa (fNew "Both" ["one","other","pair"] (aa (fNew "Over" ["glass","step"] (aa (af 3) (aa (af 6) ai))) (aa (af 5) (aa (fC (.obj "Join" [] [])) ai)))) (aa (fC (.int 0)) ai))) ai))))) (az (aO 7 (f2 bN (af 7) (jN (aa (aN (aa (fNew "Both" ["one","other","pair"] (aa (af 5) (aa (fNew "Over" ["glass","step"] (aa (af 3) (aa (af 6) ai))) (aa (fC (.obj "Join" [] [])) ai)))) (aa (fC (.int 3)) ai))) (aa (aN (aa (fNew "Over" ["glass","step"] (aa (af 3) (aa (fNew "Drop" ["name","value"] (aa (f2 ap (af 2) (fC (.int 0))) (aa (fC (.int 0)) ai))) ai))) (aa (fC (.int 4)) ai))) ai))))) (az (aO 7 (f2 bN (af 7) (jN (aa (aN (aa (fNew "Both" ["one","other","pair"] (aa (af 3) (aa (af 4) (aa (fC (.obj "Join" [] [])) ai)))) (aa (fC (.int 1)) ai))) (aa (aN (aa (fNew "Both" ["one","other","pair"] (aa (af 3) (aa (fNew "Over" ["glass","step"] (aa (af 5) (aa (af 6) ai))) (aa (fC (.obj "Join" [] [])) ai)))) (aa (fC (.int 3)) ai))) ai))))) (aU (f2 ap (f2 bN (af 7) (jN (aa (aN (aa (fNew "Over" ["glass","step"] (aa (af 3) (aa (fNew "Rename" ["old","new"] (aa (f2 ap (af 2) (fC (.int 1))) (aa (f2 ap (af 2) (fC (.int 5))) ai))) ai))) (aa (uS (fC (.int 1))) ai))) ai))) (af 0))))))))))
noncomputable def kn:bw:=az (aO 1 (fR (au bG 2 10) (aa (fR (au aZ 2 2) (aa (af 0) (aa (fC (.int 0)) ai))) (aa (fC (.int 9)) ai)))) (az (aO 2 (fR (au bG 2 10) (aa (fR (au aZ 2 2) (aa (af 0) (aa (fC (.int 1)) ai))) (aa (fC (.int 9)) ai)))) (az (aO 3 (f2 gB (fR (au aZ 2 2) (aa (af 0) (aa (fC (.int 2)) ai))) (fC (.int 11)))) (az (zC (fR (au cV 3 8) (aa (af 3) (aa (af 2) (aa (af 1) ai)))) (gT 2 (tY [4,5]))) (az (aO 6 (fR (au cX 3 6) (aa (af 2) (aa (af 1) (aa (fR (au aZ 2 2) (aa (af 0) (aa (fC (.int 3)) ai))) ai))))) (h7 [0] (az (sv (dq (aa (fC (.int 2)) ai)) (gN 7) (az (aO 8 (fR (au bc 2 4) (aa (af 6) (aa (af 4) ai)))) (az (fD (fB (f2 lN (af 5) (fC (.int 0)))) (aU (ig (oO (af 8)) (oO (fR (au bp 2 4) (aa (af 6) (aa (af 4) ai)))))) bD) (az (fD (D8 (fB (f2 qa (fR (au cI 1 2) (aa (af 8) ai)) (af 5))) (fB (f2 qa (fR (au cI 1 2) (aa (fR (au bp 2 4) (aa (af 6) (aa (af 4) ai))) ai)) (af 5)))) (aU (fC (.bl false))) bD) (az (aO 9 (aN (aa (aN (aa (aN (aa (f2 ap (af 1) (fC (.int 4))) (aa (aN (aa (fC (.str "number")) (aa (fC (.int 0)) (aa (fC (.int 1)) ai)))) ai))) (aa (aN (aa (f2 ap (af 1) (fC (.int 0))) (aa (aN (aa (fC (.str "number")) (aa (fC (.int 0)) (aa (fC (.int 0)) ai)))) ai))) ai))) (aa (aN ai) ai)))) (az (aO 10 (eJ [(f2 ap (af 2) (fC (.int 0)),af 9),(f2 ap (af 2) (fC (.int 1)),af 9),(f2 ap (af 2) (fC (.int 2)),af 9)])) (az (fD (ul (fB (f2 tX (af 3) (aN (aa (fC (.int 0)) (aa (fC (.int 1)) (aa (fC (.int 2)) (aa (fC (.int 7)) ai))))))) (fB (lI (fR (au bc 2 4) (aa (af 10) (aa (af 4) ai)))))) (aU (fC (.bl false))) bD) (h7 [7,8,9,10] bD)))))))) (aU (fC (.bl true)))))))))
set_option hygiene false
local macro_rules|`(tactic|ktr_call $p $e)=>`(tactic|((with_reducible show $p);refine $e))
local macro_rules|`(tactic|walk_at "A")=>`(tactic|first|ktr_call (oi _ _ (az _ _)) (wU ?_ ?_)|ktr_call (oi _ _ (h7 _ _)) (wA _ ?_)|ktr_call (oi _ _ (Ad _ _)) (yI _ ?_)|ktr_call (oi _ _ bD) zn|ktr_call (oi _ _ jo) wV|refine zM ?_)
local macro_rules|`(tactic|walk_at "B")=>`(tactic|first|ktr_call (XS _ _ (aO _ (eE _ _ _ _ _))) (MM (by first|assumption|exact pZ rfl) rfl (by first|exact iT rfl|exact gW rfl) ?_ ?_)|ktr_call (XS _ _ (aO _ _)) (xs _ (by first|assumption|exact pZ rfl) ?_)|ktr_call (XS _ _ (aU _)) (BZ ?_)|ktr_call (XS _ _ (fD _ _ _)) (Fo ?_ ?_ ?_)|ktr_call (XS _ _ bD) Bh|ktr_call (XS _ _ bD) Dp|ktr_call (XS _ _ (dF _ _)) (yd rfl (by walk_at "a") rfl ?_)|ktr_call (XS _ _ (pI _)) (zE ?_)|ktr_call (XS _ _ (sv _ _ _)) (Cj hp rfl ?_ ?_ ?_)|ktr_call (XS _ _ (xf _ _ _ _)) (Ck rfl rfl rfl (fun _=>rfl) (by walk_at "a") rfl (by first|assumption|exact pZ rfl) rfl rfl (fun E' pn hp=>?_) (fun A' pn hA hU=>?_))|ktr_call (XS _ _ (zC _ _)) (DJ ?_ ?_)|ktr_call (XS _ _ (nh _ _ _)) (wO _ hp ?_ ?_)|ktr_call (XS _ _ (qJ _ _ _)) (uc rfl rfl (by walk_at "a") hr ‹0› rfl ?_)|ktr_call (XS _ _ jo) Bc|ktr_call (XS _ _ (sL _ (eE _ _ _ _ _))) (MP (by first|assumption|exact pZ rfl) rfl (by first|exact iT rfl|exact gW rfl) ?_ ?_)|ktr_call (XS _ _ (sL _ _)) (Cd (by first|assumption|exact pZ rfl) rfl (by first|exact Or.inl rfl|exact Or.inr rfl) ?_)|ktr_call (XS _ _ (ED _ xx _)) (Gv PySem.F.slot_list_append PySem.F.type_list_append oP xE (xv _) ?_))
local macro_rules|`(tactic|walk_at "C")=>`(tactic|first|ktr_call (XT _ _ (bZ _)) (xW ?_)|ktr_call (XT _ _ (fB (f2 lL _ _))) (gJ (zj hr.units) b6 ?_ ?_ (fS _))|ktr_call (XT _ _ (kY _)) (BC ?_)|ktr_call (XT _ _ (fB (f2 qa _ _))) (gJ (yM hr.units) b6 ?_ ?_ (fS _))|ktr_call (XT _ _ (fB (f2 tX _ _))) (gJ (AD hr.units) b6 ?_ ?_ rfl)|ktr_call (XT _ _ (D8 _ _)) (Lp ?_)|ktr_call (XT _ _ (fB (f2 lN _ _))) (gJ (zN hr.units) b6 ?_ ?_ (fS _))|ktr_call (XT _ _ (fB (f2 Bq _ _))) (gJ o9 dB ?_ ?_ (fS _))|ktr_call (XT _ _ (fB (f2 HM _ _))) (gJ Es dB ?_ ?_ (fS _))|ktr_call (XT _ _ (fB (f2 eN _ _))) (gJ (pf hr.units) b6 ?_ ?_ rfl)|ktr_call (XT _ _ (fB (lI _))) (A6 ?_)|ktr_call (XT _ _ (ul _ _)) (Lp ?_)|ktr_call (XT _ _ (fB (oO _))) (C9 ?_)|ktr_call (XT _ _ (fB (js Bq Bq _ _ _))) (xK o9 dB o9 dB ?_ ?_ ?_))
local macro_rules|`(tactic|walk_at "D")=>`(tactic|first|ktr_call (XW _ _ (ul _ _)) (Cv ?_ ?_)|ktr_call (XW _ _ (D8 _ _)) (FV ?_ ?_)|refine Ay ?_|refine Dw ?_)
local macro_rules|`(tactic|walk_at "F")=>`(tactic|first|ktr_call (XI _ _ _ (bj _)) (Dn ?_)|ktr_call (XI _ _ _ (yf _)) (BK rfl (by walk_at "a") ?_)|ktr_call (XI _ _ _ (dq _)) (u9 rfl (by walk_at "a") ?_)|ktr_call (XI _ _ _ (hV _)) (ou rfl (by walk_at "a") ?_))
local macro_rules|`(tactic|walk_at "L")=>`(tactic|first|ktr_call (XN _ _ (jN _)) (Cr ?_)|ktr_call (XN _ _ (eE _ _ _ _ _)) (MU rfl (by first|exact iT rfl|exact gW rfl) ?_ ?_)|ktr_call (XN _ _ (eJ [_])) (yc ?_ ?_))
local macro_rules|`(tactic|walk_at "M")=>`(tactic|first|with_reducible refine B7 ?_|ktr_call (XE _ _ (af _)) (xw _)|ktr_call (XE _ _ (fC .non)) BV|ktr_call (XE _ _ (fC (.int _))) Cw|ktr_call (XE _ _ (fC (.int _))) (zm rfl (by walk_at "a"))|ktr_call (XE _ _ (f2 ap _ _)) (xi ?_ ?_)|ktr_call (XE _ _ (aN _)) (Dq ?_)|ktr_call (XE _ _ (fR _ _)) (uH (by walk_at "a") (by first|exact eS|walk_at "a") hr ‹0› ?_)|ktr_call (XE _ _ (f1 (aX _ _) _)) (DF (by walk_at "a") ?_)|ktr_call (XE _ _ (fC (.str _))) BW|ktr_call (XE _ _ (bf _ _ _ (aa _ _))) (zy (by walk_at "a") hr ‹0› ?_ ?_)|ktr_call (XE _ _ (bf _ _ _ ai)) (xD (by walk_at "a") hr ‹0› ?_)|ktr_call (XE _ _ (fNew _ _ _)) (DL (by walk_at "a") hr ‹0› rfl ?_)|ktr_call (XE _ _ (eE _ _ _ _ _)) (xl rfl (by first|exact iT rfl|exact gW rfl) ?_ ?_)|ktr_call (XE _ _ (f2 bN _ _)) (jh DE b6 ?_ ?_)|ktr_call (XE _ _ (f2 lL _ _)) (gE (zj hr.units) b6 ?_ ?_ (fS _))|ktr_call (XE _ _ (fL fg _)) (gj xZ rfl (by walk_at "a") PySem.boot_len ?_)|ktr_call (XE _ _ (ig _ _)) (C8 ?_ ?_)|ktr_call (XE _ _ (fC (.bl _))) GB|ktr_call (XE _ _ (jN _)) (Dj ?_)|ktr_call (XE _ _ (f2 tX _ _)) (gE (AD hr.units) b6 ?_ ?_ rfl)|ktr_call (XE _ _ (fC (.obj _ _ _))) (A0 (by walk_at "a") rfl)|ktr_call (XE _ _ (f2 qa _ _)) (gE (yM hr.units) b6 ?_ ?_ (fS _))|ktr_call (XE _ _ (cj _ _ _)) (yt ?_ ?_ ?_)|ktr_call (XE _ _ (f1 (gh _) _)) (zr (by walk_at "a") rfl (by walk_at "a") rfl ?_)|ktr_call (XE _ _ (f1 (gh _) _)) (wK (by walk_at "a") rfl (by walk_at "a") rfl (by walk_at "a") PyProof.Rows.Boot.«ValueError» ?_)|ktr_call (XE _ _ (nU "int" _)) (mz yX rfl (by walk_at "a") rfl (by walk_at "a") PyProof.Rows.boot_int ?_)|ktr_call (XE _ _ (nU "bool" _)) (mz xS rfl (by walk_at "a") rfl (by walk_at "a") PyProof.Rows.boot_bool ?_)|ktr_call (XE _ _ (nU "str" _)) (mz zh rfl (by walk_at "a") rfl (by walk_at "a") PyProof.Rows.boot_str ?_)|ktr_call (XE _ _ (nU "tuple" _)) (mz uJ rfl (by walk_at "a") rfl (by walk_at "a") QC ?_)|ktr_call (XE _ _ (uS _)) (Dl ?_)|ktr_call (XE _ _ (fL uR _)) (gj (yp rfl) rfl (by walk_at "a") PyProof.Rows.boot_all ?_)|ktr_call (XE _ _ (G1 _ _ _)) (GR ?_ ?_ ?_)|ktr_call (XE _ _ (fL eG _)) (jA tO rfl (by walk_at "a") QC ?_)|ktr_call (XE _ _ (f2 gB _ _)) (jh Fs FD ?_ ?_)|ktr_call (XE _ _ (f2 lN _ _)) (gE (zN hr.units) b6 ?_ ?_ (fS _))|ktr_call (XE _ _ (f2 HM _ _)) (gE Es dB ?_ ?_ (fS _))|ktr_call (XE _ _ (oO _)) (B2 ?_)|ktr_call (XE _ _ (rQ _)) (BH ?_)|ktr_call (XE _ _ (eJ [_])) (wy ?_ ?_)|ktr_call (XE _ _ (eJ [_, _])) (xX ?_ ?_ ?_ ?_)|ktr_call (XE _ _ (eJ [_, _, _])) (xH ?_ ?_ ?_ ?_ ?_ ?_)|ktr_call (XE _ _ (f1 (oK _ _) _)) (Dz (by walk_at "a") rfl (by walk_at "a") rfl ?_)|ktr_call (XE _ _ (fL xq _)) (gj (xG rfl) rfl (by walk_at "a") PyProof.Rows.boot_any ?_)|ktr_call (XE _ _ (f2 DB _ _)) (jh GO Gx ?_ ?_)|ktr_call (XE _ _ (f2 uk _ _)) (jh E9 Ft ?_ ?_)|ktr_call (XE _ _ (f2 Bq _ _)) (gE o9 dB ?_ ?_ (fS _))|ktr_call (XE _ _ (f2 eN _ _)) (gE (pf hr.units) b6 ?_ ?_ rfl)|ktr_call (XE _ _ (lI _)) (A5 ?_)|ktr_call (XE _ _ (js Bq Bq _ _ _)) (xn o9 dB o9 dB ?_ ?_ ?_)|ktr_call (XE _ _ (Cq _ _)) (EC ?_ ?_)|ktr_call (XE _ _ (f2 pz _ _)) (A2 hr.units ?_ ?_ (fun _ _=>rfl))|ktr_call (XE _ _ (f1 (vt _) _)) (Aa (by walk_at "y") (by decide) rfl (by walk_at "a") ?_)|ktr_call (XE _ _ (fL tH _)) (gj (u6 rfl) rfl (by walk_at "a") PyProof.Rows.boot_max ?_)|ktr_call (XE _ _ (fL sM _)) (gj (uE rfl) rfl (by walk_at "a") PyProof.Rows.boot_min ?_)|ktr_call (XE _ _ (fL nu _)) (jA (ui rfl hr.units) rfl (by walk_at "a") QD ?_)|ktr_call (XE _ _ (fL kK _)) (jA (uC rfl) rfl (by walk_at "a") QD ?_)|ktr_call (XE _ _ (n0 _ _ _)) (wH hr.units ?_ ?_ ?_)|ktr_call (XE _ _ (uy _ _)) (wJ hr.units ?_ ?_)|ktr_call (XE _ _ (f2 kJ _ _)) (jh EW Gn ?_ ?_)|ktr_call (XE _ _ (f2 rq _ _)) (jh Az Fl ?_ ?_)|ktr_call (XE _ _ (ki _ _)) (z8 ?_ ?_))
local macro_rules|`(tactic|walk_at "d")=>`(tactic|((first|((with_reducible show XE _ _ _);walk_at "M")|((with_reducible show XA _ _ _);first|ktr_call (XA _ _ (aa _ _)) (nK ?_ ?_)|ktr_call (XA _ _ ai) vB)|((with_reducible show XS _ _ _);walk_at "B")|((with_reducible show oi _ _ _);walk_at "A")|((with_reducible show XT _ _ _);walk_at "C")|((with_reducible show XW _ _ _);walk_at "D")|((with_reducible show XI _ _ _ _);walk_at "F")|((with_reducible show XG _ _ _);first|ktr_call (XG _ _ (gN _)) (zW (by first|assumption|exact pZ rfl) rfl (by first|exact Or.inl rfl|exact Or.inr rfl))|ktr_call (XG _ _ (gT _ _)) (By rfl ?_))|((with_reducible show FZ _ _ _);first|ktr_call (FZ _ _ (tY (_ :: _))) (wz ?_ ?_)|ktr_call (FZ _ _ (tY [])) A9)|((with_reducible show XO _ _ _);first|ktr_call (XO _ _ bR) zo|ktr_call (XO _ _ (cO _)) (AJ ?_))|((with_reducible show HP _ _ _);first|ktr_call (HP _ _ bz) AA|refine AI ?_)|((with_reducible show oC _ _ _ _ _ _ _ _ _);first|refine ⟨fun _ _ _ _ _ _=>⟨?_, ?_, ?_⟩⟩)|((with_reducible show XN _ _ _);walk_at "L"))<;>walk_at "d"))
local macro_rules|`(tactic|walk_at "y")=>`(tactic|first|exact Aw.nil|(refine Aw.cons (by walk_at "a") rfl (by decide) ?_;walk_at "y"))
local macro_rules | `(tactic| walk_at "a") => `(tactic| first | assumption | exact q.2 | exact q.1.2 | exact q.1.1.2 | exact q.1.1.1.2 | exact q.1.1.1.1.2 | exact q.1.1.1.1.1.2 | exact q.1.1.1.1.1.1.2 | exact q.1.1.1.1.1.1.1.2 | (replace q := q.1.1.1.1.1.1.1.1; walk_at "a") | exact q.1 | exact q.1.1 | exact q.1.1.1 | exact q.1.1.1.1 | exact q.1.1.1.1.1 | exact q.1.1.1.1.1.1 | exact q.1.1.1.1.1.1.1)
local macro_rules | `(tactic| walk_at "b") => `(tactic| (intro us hl _ _ _ _ _ _; first | (obtain ⟨a, rfl⟩ := Hs hl; rfl) | (obtain ⟨a, b, rfl⟩ := Fa hl; rfl) | (obtain ⟨a, b, c, rfl⟩ := A3 hl; rfl) | (obtain ⟨a, b, c, d, rfl⟩ := Gr hl; rfl)))
local macro_rules | `(tactic| walk_at "m") => `(tactic| ((· walk_at "a"); (· walk_at "b"); (· exact ‹2›); first | refine fun nd f => ⟨fun cdv A outer s H E hr hp => ?_⟩ | intro nd f A outer s H E hr hp))
local macro_rules | `(tactic| ktn_call $m $b:ident) => `(tactic| ((first | (apply GX $m; walk_at "m") | (apply G4 $m; walk_at "m")); unfold $b; walk_at "d"))
local macro_rules | `(tactic| walk_at "t") => `(tactic| first | exact DC | (refine yK (MethAt.mono (by walk_at "a") (by first | decide | omega)) (by first | exact eS | walk_at "a") ?_; walk_at "t"))
section
variable{u:U}
noncomputable def Q0(u:U):Prop:=((((((((((((((((((((((((((((((((((((((((((((((((((((((((((((I0 u (I0 u (Zs u ["tuple","max","min","zip","any","len","all","isinstance","int","bool","range","str","enumerate","dict","ValueError"]) [("hidden_tables",top 72),("both_words",top 21),("both_numbers",top 20),("both",top 19),("shared_key",top 55),("replaced",top 40),("in_key",top 39),("with_fields",top 41),("second_value",top 51),("kinds_of",top 18),("least",top 23),("least_row",top 36),("single",top 22),("kind_at",top 38),("check_key",top 50),("is_whole",top 16),("has_parts",top 17),("keys_rise",top 34),("fits",top 31),("keeps",top 32),("is_row",top 33),("names_of",top 27),("place_of",top 28),("two_views",top 68),("hidden_rows",top 69),("lasting",top 67),("_law_caught",top 80),("_law_class",top 79),("_law_formed",top 81),("_law_forms",top 83)]) [("_law_cell_at",top 76),("_law_glass",top 82),("_law_draw",top 77),("_law_names",top 78)])/\∃t,u.mg "MOST_FIELDS"=some (.int 8 t))/\dg u.K "name" ["Leaf"])/\dg u.K "glass" ["Over"])/\dg u.K "one" ["Both"])/\dg u.K "other" ["Both"])/\dg u.K "name" ["Drop"])/\dg u.K "value" ["Drop"])/\dg u.K "old" ["Rename"])/\dg u.K "new" ["Rename"])/\dg u.K "step" ["Over"])/\dg u.K "pair" ["Both"])/\eF u.P u.w u.K u.mg u.base 1 "Leaf" ["self","name"] ["name"])/\eF u.P u.w u.K u.mg u.base 1 "Rename" ["self","old","new"] ["old","new"])/\eF u.P u.w u.K u.mg u.base 1 "Both" ["self","one","other","pair"] ["one","other","pair"])/\eF u.P u.w u.K u.mg u.base 1 "Over" ["self","glass","step"] ["glass","step"])/\eF u.P u.w u.K u.mg u.base 1 "Drop" ["self","name","value"] ["name","value"])/\A4 u.K u.mg "Join")/\sr u.K u.mg "Over" ["Over"] ["Leaf","Both"])/\sr u.K u.mg "Both" ["Both"] ["Leaf","Over"])/\mD u.P u.w u.K u.mg u.base 1 "Blind" ["self","one","other","change"] ["one","other","change"])/\ExcAt u.K u.mg "NoTable")/\ExcAt u.K u.mg "NoKind")/\ExcAt u.K u.mg "Nothing")/\ExcAt u.K u.mg "Twice")/\ExcAt u.K u.mg "TooMany")/\ExcAt u.K u.mg "NoKey")/\ExcAt u.K u.mg "NoField")/\tW u.K u.mg "GlassError" ["NoTable","NoField","Twice","NoKind","Nothing","NoKey","TooMany","Blind"])/\cm u.K u.mg "Twice" [("NoTable",false),("NoField",false),("Twice",true),("NoKind",false),("Nothing",false),("NoKey",false),("TooMany",false),("Blind",false)])/\cm u.K u.mg "NoKind" [("NoTable",false),("NoField",false),("Twice",false),("NoKind",true),("Nothing",false),("NoKey",false),("TooMany",false),("Blind",false)])/\cm u.K u.mg "NoField" [("NoTable",false),("NoField",true),("Twice",false),("NoKind",false),("Nothing",false),("NoKey",false),("TooMany",false),("Blind",false)])/\cm u.K u.mg "NoKey" [("NoTable",false),("NoField",false),("Twice",false),("NoKind",false),("Nothing",false),("NoKey",true),("TooMany",false),("Blind",false)])/\cm u.K u.mg "NoTable" [("NoTable",true),("NoField",false),("Twice",false),("NoKind",false),("Nothing",false),("NoKey",false),("TooMany",false),("Blind",false)])/\cm u.K u.mg "NoForm" [("NoTable",false),("NoField",false),("Twice",false),("NoKind",false),("Nothing",false),("NoKey",false),("TooMany",false),("Blind",false)])/\cm u.K u.mg "TooMany" [("NoTable",false),("NoField",false),("Twice",false),("NoKind",false),("Nothing",false),("NoKey",false),("TooMany",true),("Blind",false)])/\cm u.K u.mg "Nothing" [("NoTable",false),("NoField",false),("Twice",false),("NoKind",false),("Nothing",true),("NoKey",false),("TooMany",false),("Blind",false)])/\cm u.K u.mg "Blind" [("NoTable",false),("NoField",false),("Twice",false),("NoKind",false),("Nothing",false),("NoKey",false),("TooMany",false),("Blind",true)])/\cm u.K u.mg "Torn" [("NoTable",false),("NoField",false),("Twice",false),("NoKind",false),("Nothing",false),("NoKey",false),("TooMany",false),("Blind",false)])/\cm u.K u.mg "Stale" [("NoTable",false),("NoField",false),("Twice",false),("NoKind",false),("Nothing",false),("NoKey",false),("TooMany",false),("Blind",false)])/\cm u.K u.mg "NoPane" [("NoTable",false),("NoField",false),("Twice",false),("NoKind",false),("Nothing",false),("NoKey",false),("TooMany",false),("Blind",false)])/\cm u.K u.mg "NoText" [("NoTable",false),("NoField",false),("Twice",false),("NoKind",false),("Nothing",false),("NoKey",false),("TooMany",false),("Blind",false)])/\rV u.K (.type "ValueError") [("NoTable",true),("NoField",true),("Twice",true),("NoKind",true),("Nothing",true),("NoKey",true),("TooMany",true),("Blind",true)])/\Dm u "Leaf" "put" "Leaf.put" (inClass (top 61) 4))/\Dm u "Over" "put" "Over.put" (inClass (top 62) 4))/\Dm u "Both" "put" "Both.put" (inClass (top 63) 4))/\Dm u "Leaf" "form" "Leaf.form" (inClass (top 61) 2))/\Dm u "Join" "view_form" "Join.view_form" (inClass (top 54) 1))/\Dm u "Leaf" "names" "Leaf.names" (inClass (top 61) 1))/\Dm u "Over" "names" "Over.names" (inClass (top 62) 1))/\Dm u "Both" "names" "Both.names" (inClass (top 63) 1))/\Dm u "Drop" "view_form" "Drop.view_form" (inClass (top 49) 2))/\Dm u "Rename" "view_form" "Rename.view_form" (inClass (top 74) 2))/\Dm u "Over" "form" "Over.form" (inClass (top 62) 2))/\Dm u "Both" "form" "Both.form" (inClass (top 63) 2))/\Dm u "Drop" "put" "Drop.put" (inClass (top 49) 4))/\Dm u "Rename" "put" "Step.put" (inClass (top 46) 3))/\Dm u "Drop" "exact" "Drop.exact" (inClass (top 49) 5))/\Dm u "Drop" "steady" "Drop.steady" (inClass (top 49) 6))/\Dm u "Rename" "steady" "Step.steady" (inClass (top 46) 5))
noncomputable def Q1(u:U):Prop:=Q0 u/\Ma u 1 "Leaf" "put" ["self","forms","house","view"] (au cG 4 5)
theorem e1(q:Q0 u):Q1 u:=⟨q,(by ktn_call ["after"] cG)⟩
noncomputable def Q2(u:U):Prop:=Q1 u/\Ma u 1 "Over" "put" ["self","forms","house","view"] (au cH 4 5)
theorem e2(q:Q1 u):Q2 u:=⟨q,(by ktn_call ["beneath"] cH)⟩
noncomputable def Q3(u:U):Prop:=Q2 u/\Ma u 1 "Both" "put" ["self","forms","house","view"] (au cC 4 7)
theorem e3(q:Q2 u):Q3 u:=⟨q,(by ktn_call ["first","second","tables"] cC)⟩
noncomputable def Q4(u:U):Prop:=Q3 u/\Ca u 1 "hidden_tables" ["forms","pair","here"] (au dj 3 5)
theorem e4(q:Q3 u):Q4 u:=⟨q,(by ktn_call ["many","inner"] dj)⟩
noncomputable def Q5(u:U):Prop:=Q4 u/\Ma u 1 "Leaf" "form" ["self","forms"] (au aV 2 2)
theorem e5(q:Q4 u):Q5 u:=⟨q,(by ktn_call [] aV)⟩
noncomputable def Q6(u:U):Prop:=Q5 u/\Ca u 1 "both_words" ["one","other"] (au gG 2 3)
theorem e6(q:Q5 u):Q6 u:=⟨q,(by ktn_call ["words"] gG)⟩
noncomputable def Q7(u:U):Prop:=Q6 u/\Ca u 1 "both_numbers" ["one","other"] (au eU 2 4)
theorem e7(q:Q6 u):Q7 u:=⟨q,(by ktn_call ["low","high"] eU)⟩
noncomputable def Q8(u:U):Prop:=Q7 u/\Ca u 2 "both" ["one","other"] (au uP 2 2)
theorem e8(q:Q7 u):Q8 u:=⟨q,(by ktn_call [] uP)⟩
noncomputable def Q9(u:U):Prop:=Q8 u/\Ca u 3 "shared_key" ["one","other"] (au dE 2 3)
theorem e9(q:Q8 u):Q9 u:=⟨q,(by ktn_call ["kinds"] dE)⟩
noncomputable def La(u:U):Prop:=Q9 u/\Ma u 4 "Join" "view_form" ["self","one","other"] (au bg 3 5)
theorem e10(q:Q9 u):La u:=⟨q,(by ktn_call ["key","names"] bg)⟩
noncomputable def Jc(u:U):Prop:=La u/\Ma u 1 "Leaf" "names" ["self"] (au aL 1 1)
theorem IC(q:La u):Jc u:=⟨q,(by ktn_call [] aL)⟩
theorem eX(q:Jc u):∀n:Nat,Ma u (1+n) "Over" "names" ["self"] (ay n)/\Ma u (1+n) "Both" "names" ["self"] (aE n)
 |0=>by
  rw[ay];rw[aE];exact⟨BR (by walk_at "a") (by walk_at "b"),BR (by walk_at "a") (by walk_at "b")⟩
 |n+1=>by
  have ih:=eX q n;have c0:=ih.1;have c1:=ih.2;have a0:=il n;have a1:=hZ n;have t0:Ta u (1+n) "names" ["self"] [("Leaf",(au aL 1 1)),("Over",ay n),("Both",aE n)]:=by walk_at "t"
  rw[dG];rw[fF];refine⟨?_,?_⟩
  ·apply G4 (k:=1+n) [];walk_at "m";unfold eK;walk_at "d"
  ·apply G4 (k:=1+n) [];walk_at "m";unfold gS;walk_at "d"
noncomputable def Jq(u:U):Prop:=(((Jc u/\Ma u (13) "Over" "names" ["self"] (ay 12))/\Ma u (13) "Both" "names" ["self"] (aE 12))/\Ar 1 (ay 12))/\Ar 1 (aE 12)
theorem Mr(q:Jc u):Jq u:=⟨⟨⟨⟨q,(eX q 12).1⟩,(eX q 12).2⟩,il 12⟩,hZ 12⟩
noncomputable def JA(u:U):Prop:=Jq u/\Ca u 1 "replaced" ["values","place","others"] (au cE 3 3)
theorem MR(q:Jq u):JA u:=⟨q,(by ktn_call [] cE)⟩
noncomputable def KY(u:U):Prop:=JA u/\Ca u 1 "in_key" ["form","place"] (au eh 2 2)
theorem MT(q:JA u):KY u:=⟨q,(by ktn_call [] eh)⟩
noncomputable def Ku(u:U):Prop:=KY u/\Ca u 2 "with_fields" ["form","place","fields"] (au bH 3 3)
theorem Mm(q:KY u):Ku u:=⟨q,(by ktn_call [] bH)⟩
noncomputable def Kh(u:U):Prop:=Ku u/\Ca u 1 "second_value" ["kind"] (au fu 1 1)
theorem LO(q:Ku u):Kh u:=⟨q,(by ktn_call [] fu)⟩
noncomputable def Je(u:U):Prop:=Kh u/\Ca u 1 "kinds_of" ["form"] (au dy 1 1)
theorem L7(q:Kh u):Je u:=⟨q,(by ktn_call [] dy)⟩
theorem pV(q:Je u):∀n:Nat,Ca u (1+n) "least" ["kind"] (b7 n)
 |0=>by
  rw[b7];exact Hc (by walk_at "a") (by walk_at "b")
 |n+1=>by
  have ih:=pV q n;have c0:=ih;have a0:=nZ n;rw[eL];apply GX (k:=1+n) [];walk_at "m";unfold jG;walk_at "d"
noncomputable def JO(u:U):Prop:=(Je u/\Ca u (13) "least" ["kind"] (b7 12))/\Ar 1 (b7 12)
theorem MY(q:Je u):JO u:=⟨⟨q,(pV q 12)⟩,nZ 12⟩
noncomputable def IZ(u:U):Prop:=JO u/\Ca u 14 "least_row" ["form"] (au bi 1 1)
theorem ML(q:JO u):IZ u:=⟨q,(by ktn_call [] bi)⟩
theorem nH(q:IZ u):∀n:Nat,Ca u (1+n) "single" ["kind"] (bW n)
 |0=>by
  rw[bW];exact Hc (by walk_at "a") (by walk_at "b")
 |n+1=>by
  have ih:=nH q n;have c0:=ih;have a0:=lC n;rw[fP];apply GX (k:=1+n) [];walk_at "m";unfold j8;walk_at "d"
noncomputable def Jt(u:U):Prop:=(IZ u/\Ca u (13) "single" ["kind"] (bW 12))/\Ar 1 (bW 12)
theorem e20(q:IZ u):Jt u:=⟨⟨q,(nH q 12)⟩,lC 12⟩
noncomputable def Kj(u:U):Prop:=Jt u/\Ca u 1 "kind_at" ["form","place"] (au dz 2 2)
theorem Jy(q:Jt u):Kj u:=⟨q,(by ktn_call [] dz)⟩
noncomputable def Kf(u:U):Prop:=Kj u/\Ca u 15 "check_key" ["form","place"] (au cR 2 6)
theorem ME(q:Kj u):Kf u:=⟨q,(by ktn_call ["many","kind","row","twin"] cR)⟩
noncomputable def Kk(u:U):Prop:=Kf u/\Ca u 1 "is_whole" ["value"] (au eV 1 1)
theorem M0(q:Kf u):Kk u:=⟨q,(by ktn_call [] eV)⟩
noncomputable def JB(u:U):Prop:=Kk u/\Ca u 1 "has_parts" ["value","many"] (au iE 2 2)
theorem Ms(q:Kk u):JB u:=⟨q,(by ktn_call [] iE)⟩
noncomputable def IV(u:U):Prop:=JB u/\Ca u 1 "keys_rise" ["many","table"] (au iQ 2 3)
theorem LJ(q:JB u):IV u:=⟨q,(by ktn_call ["keys"] iQ)⟩
theorem kd(q:IV u):∀n:Nat,Ca u (1+n) "fits" ["kind","value"] (cx n)/\Ca u (1+n) "keeps" ["form","table"] (bY n)/\Ca u (1+n) "is_row" ["kinds","row"] (bA n)
 |0=>by
  rw[cx];rw[bY];rw[bA];exact⟨Hc (by walk_at "a") (by walk_at "b"),Hc (by walk_at "a") (by walk_at "b"),Hc (by walk_at "a") (by walk_at "b")⟩
 |n+1=>by
  have ih:=kd q n;have c0:=ih.1;have c1:=ih.2.1;have c2:=ih.2.2;have a0:=pK n;have a1:=nz n;have a2:=lD n;rw[iD];rw[jK];rw[jp];refine⟨?_,?_,?_⟩
  ·apply GX (k:=1+n) [];walk_at "m";unfold qw;walk_at "d"
  ·apply GX (k:=1+n) ["kinds"];walk_at "m";unfold rK;walk_at "d"
  ·apply GX (k:=1+n) [];walk_at "m";unfold nq;walk_at "d"
noncomputable def KR(u:U):Prop:=(((((IV u/\Ca u (13) "fits" ["kind","value"] (cx 12))/\Ca u (13) "keeps" ["form","table"] (bY 12))/\Ca u (13) "is_row" ["kinds","row"] (bA 12))/\Ar 2 (cx 12))/\Ar 2 (bY 12))/\Ar 2 (bA 12)
theorem Mg(q:IV u):KR u:=⟨⟨⟨⟨⟨⟨q,(kd q 12).1⟩,(kd q 12).2.1⟩,(kd q 12).2.2⟩,pK 12⟩,nz 12⟩,lD 12⟩
noncomputable def Kx(u:U):Prop:=KR u/\Ca u 1 "names_of" ["form"] (au cQ 1 1)
theorem LZ(q:KR u):Kx u:=⟨q,(by ktn_call [] cQ)⟩
noncomputable def J6(u:U):Prop:=Kx u/\Ca u 2 "place_of" ["form","name"] (au cg 2 4)
theorem MK(q:Kx u):J6 u:=⟨q,(by ktn_call ["place","other"] cg)⟩
noncomputable def J5(u:U):Prop:=J6 u/\Ma u 16 "Drop" "view_form" ["self","form"] (au aJ 2 4)
theorem M6(q:J6 u):J5 u:=⟨q,(by ktn_call ["place","kind"] aJ)⟩
noncomputable def JH(u:U):Prop:=J5 u/\Ma u 3 "Rename" "view_form" ["self","form"] (au aC 2 3)
theorem MX(q:J5 u):JH u:=⟨q,(by ktn_call ["place"] aC)⟩
noncomputable def JZ(u:U):Prop:=JH u/\Ta u 16 "view_form" ["self","form"] [("Drop",(au aJ 2 4)),("Rename",(au aC 2 3))]
theorem Mo(q:JH u):JZ u:=⟨q,(by walk_at "t")⟩
noncomputable def K9(u:U):Prop:=JZ u/\Ta u 13 "names" ["self"] [("Leaf",(au aL 1 1)),("Over",(ay 12)),("Both",(aE 12))]
theorem LV(q:JZ u):K9 u:=⟨q,(by walk_at "t")⟩
noncomputable def Jb(u:U):Prop:=K9 u/\Ta u 4 "view_form" ["self","one","other"] [("Join",(au bg 3 5))]
theorem MG(q:K9 u):Jb u:=⟨q,(by walk_at "t")⟩
theorem fN(q:Jb u):∀n:Nat,Ma u (16+n) "Over" "form" ["self","forms"] (aA n)/\Ma u (16+n) "Both" "form" ["self","forms"] (aB n)
 |0=>by
  rw[aA];rw[aB];exact⟨BR (by walk_at "a") (by walk_at "b"),BR (by walk_at "a") (by walk_at "b")⟩
 |n+1=>by
  have ih:=fN q n;have c0:=ih.1;have c1:=ih.2;have a0:=iO n;have a1:=iP n;have t0:Ta u (16+n) "form" ["self","forms"] [("Leaf",(au aV 2 2)),("Over",aA n),("Both",aB n)]:=by walk_at "t"
  rw[dN];rw[cy];refine⟨?_,?_⟩
  ·apply G4 (k:=16+n) [];walk_at "m";unfold fH;walk_at "d"
  ·apply G4 (k:=16+n) ["first","second","names"];walk_at "m";unfold dC;walk_at "d"
noncomputable def JW(u:U):Prop:=(((Jb u/\Ma u (28) "Over" "form" ["self","forms"] (aA 12))/\Ma u (28) "Both" "form" ["self","forms"] (aB 12))/\Ar 2 (aA 12))/\Ar 2 (aB 12)
theorem Mw(q:Jb u):JW u:=⟨⟨⟨⟨q,(fN q 12).1⟩,(fN q 12).2⟩,iO 12⟩,iP 12⟩
noncomputable def JL(u:U):Prop:=JW u/\Ta u 16 "view_form" ["self","form"] [("Drop",(au aJ 2 4))]
theorem Mi(q:JW u):JL u:=⟨q,(by walk_at "t")⟩
noncomputable def Kq(u:U):Prop:=JL u/\Ma u 17 "Drop" "put" ["self","form","table","view"] (au cS 4 7)
theorem MN(q:JL u):Kq u:=⟨q,(by ktn_call ["place","many","there"] cS)⟩
noncomputable def KU(u:U):Prop:=Kq u/\Ma u 1 "Rename" "put" ["self","form","table","view"] (au cP 4 4)
theorem MQ(q:Kq u):KU u:=⟨q,(by ktn_call [] cP)⟩
noncomputable def Jx(u:U):Prop:=KU u/\Ca u 1 "two_views" ["step","row"] (au fJ 2 2)
theorem LY(q:KU u):Jx u:=⟨q,(by ktn_call [] fJ)⟩
noncomputable def Kv(u:U):Prop:=Jx u/\Ca u 1 "hidden_rows" ["form","step","here"] (au dX 3 5)
theorem Md(q:Jx u):Kv u:=⟨q,(by ktn_call ["place","value"] dX)⟩
noncomputable def Jp(u:U):Prop:=Kv u/\Ma u 14 "Drop" "exact" ["self","form"] (au ce 2 2)
theorem Mj(q:Kv u):Jp u:=⟨q,(by ktn_call [] ce)⟩
noncomputable def Ka(u:U):Prop:=Jp u/\Ta u 14 "exact" ["self","form"] [("Drop",(au ce 2 2))]
theorem MO(q:Jp u):Ka u:=⟨q,(by walk_at "t")⟩
noncomputable def KG(u:U):Prop:=Ka u/\Ma u 15 "Drop" "steady" ["self","form"] (au bS 2 2)
theorem Mp(q:Ka u):KG u:=⟨q,(by ktn_call [] bS)⟩
noncomputable def KP(u:U):Prop:=KG u/\Ma u 1 "Rename" "steady" ["self","form"] (au bT 2 2)
theorem M4(q:KG u):KP u:=⟨q,(by ktn_call [] bT)⟩
noncomputable def JD(u:U):Prop:=KP u/\Ta u 28 "form" ["self","forms"] [("Leaf",(au aV 2 2)),("Over",(aA 12)),("Both",(aB 12))]
theorem Mz(q:KP u):JD u:=⟨q,(by walk_at "t")⟩
noncomputable def Kw(u:U):Prop:=JD u/\Ta u 15 "steady" ["self","form"] [("Drop",(au bS 2 2)),("Rename",(au bT 2 2))]
theorem LK(q:JD u):Kw u:=⟨q,(by walk_at "t")⟩
noncomputable def KS(u:U):Prop:=Kw u/\Ta u 1 "put" ["self","forms","house","view"] [("Leaf",(au cG 4 5)),("Over",(au cH 4 5)),("Both",(au cC 4 7))]
theorem My(q:Kw u):KS u:=⟨q,(by walk_at "t")⟩
noncomputable def JE(u:U):Prop:=KS u/\Ta u 17 "put" ["self","form","table","view"] [("Drop",(au cS 4 7)),("Rename",(au cP 4 4))]
theorem LQ(q:KS u):JE u:=⟨q,(by walk_at "t")⟩
noncomputable def JT(u:U):Prop:=JE u/\Ca u 29 "lasting" ["forms","glass"] (au cz 2 7)
theorem MB(q:JE u):JT u:=⟨q,(by ktn_call ["row","house","here","form","tables"] cz)⟩
noncomputable def J9(u:U):Prop:=JT u/\Ca u 30 "_law_caught" ["_law_forms_here","_law_glass_here"] (au bc 2 4)
theorem LU(q:JT u):J9 u:=⟨q,(by ktn_call ["_law_caught_here","e"] bc)⟩
noncomputable def JQ(u:U):Prop:=J9 u/\Ca u 1 "_law_class" ["_law_error"] (au cI 1 2)
theorem M5(q:J9 u):JQ u:=⟨q,(by ktn_call ["_law_some"] cI)⟩
noncomputable def Ki(u:U):Prop:=JQ u/\Ca u 29 "_law_formed" ["_law_forms_here","_law_glass_here"] (au bp 2 4)
theorem LW(q:JQ u):Ki u:=⟨q,(by ktn_call ["_law_caught_here","e"] bp)⟩
noncomputable def JF(u:U):Prop:=Ki u/\Ca u 1 "_law_forms" ["_law_tables","_law_names_here","_law_cell"] (au cX 3 6)
theorem Ml(q:Ki u):JF u:=⟨q,(by ktn_call ["_law_high","_law_one","_law_two"] cX)⟩
noncomputable def K1(u:U):Prop:=JF u/\Ca u 1 "_law_cell_at" ["_law_script","_law_k"] (au aZ 2 2)
theorem MS(q:JF u):K1 u:=⟨q,(by ktn_call [] aZ)⟩
noncomputable def K3(u:U):Prop:=K1 u/\Ca u 3 "_law_glass" ["_law_way","_law_tables","_law_names_here"] (au cV 3 8)
theorem Mf(q:K1 u):K3 u:=⟨q,(by ktn_call ["_law_one","_law_two","_law_gone","_law_bad","_law_some"] cV)⟩
noncomputable def JV(u:U):Prop:=K3 u/\Ca u 1 "_law_draw" ["_law_cell","_law_j"] (au cT 2 3)
theorem Mx(q:K3 u):JV u:=⟨q,(by ktn_call ["_law_number"] cT)⟩
noncomputable def Lg(u:U):Prop:=JV u/\Ca u 2 "_law_names" ["_law_cell","_law_many"] (au bG 2 10)
theorem MV(q:JV u):Lg u:=⟨q,(by ktn_call ["_law_letters","_law_base","_law_long","_law_at","_law_step","_law_names_here","_law_k","_law_sign"] bG)⟩
theorem Iu{f:QO}{fd:RH}(F:ow u.K "law" "law" (top 84) f fd)(q:Lg u):eW u.P u.w u.K u.mg u.base (jM u.P u.w) 31 f fd ["_law_script"] (yg u.K 1 (au kn 1 11)):=by
 refine MJ ["_law_names_here","_law_tables","_law_way","_law_glass_here","_law_due","_law_forms_here","_law_turn","_law_caught_here","_law_key","_law_more"] F ?_ ?_
 ·exact‹2›
 refine λnd=>⟨λcdv A outer s H E hr hp=>?_⟩
 unfold kn;walk_at "d"
set_option hygiene true
variable{P:QT}{w:QS}{K:Pn}{mg:bF}{base:QV}
theorem xr{C f:QO}{fd:RH}(h1:clsAt K "Leaf" C)(hM:Mk K C f)(cl:lm K C)(na:∀g∈(["name"]:av),cw K C g)(F:ow K "__init__" "Leaf.__init__" ii f fd)(b:Binds K fd ["self","name"] [])(hmg:mg "Leaf"=some (.ref C)):eF P w K mg base 1 "Leaf" ["self","name"] ["name"]:=
 fV (k:=0) h1 hM cl na F b hmg kP rfl (by decide +kernel) (by decide) λcdv A outer s H E=>(gb rfl (pv 0) (pv 1) rfl)
theorem tq{C f:QO}{fd:RH}(h1:clsAt K "Rename" C)(hM:Mk K C f)(cl:lm K C)(na:∀g∈(["old","new"]:av),cw K C g)(F:ow K "__init__" "Rename.__init__" fG f fd)(b:Binds K fd ["self","old","new"] [])(hmg:mg "Rename"=some (.ref C)):eF P w K mg base 1 "Rename" ["self","old","new"] ["old","new"]:=
 fV (k:=0) h1 hM cl na F b hmg jz rfl (by decide +kernel) (by decide) λcdv A outer s H E=>(fq rfl (pv 0) (pv 1) rfl (gb rfl (pv 0) (pv 2) rfl))
theorem x6{C f:QO}{fd:RH}(h1:clsAt K "Both" C)(hM:Mk K C f)(cl:lm K C)(na:∀g∈(["one","other","pair"]:av),cw K C g)(F:ow K "__init__" "Both.__init__" ic f fd)(b:Binds K fd ["self","one","other","pair"] [])(hmg:mg "Both"=some (.ref C)):eF P w K mg base 1 "Both" ["self","one","other","pair"] ["one","other","pair"]:=
 fV (k:=0) h1 hM cl na F b hmg kQ rfl (by decide +kernel) (by decide) λcdv A outer s H E=>(fq rfl (pv 0) (pv 1) rfl (fq rfl (pv 0) (pv 2) rfl (gb rfl (pv 0) (pv 3) rfl)))
theorem wZ{C f:QO}{fd:RH}(h1:clsAt K "Over" C)(hM:Mk K C f)(cl:lm K C)(na:∀g∈(["glass","step"]:av),cw K C g)(F:ow K "__init__" "Over.__init__" ip f fd)(b:Binds K fd ["self","glass","step"] [])(hmg:mg "Over"=some (.ref C)):eF P w K mg base 1 "Over" ["self","glass","step"] ["glass","step"]:=
 fV (k:=0) h1 hM cl na F b hmg kF rfl (by decide +kernel) (by decide) λcdv A outer s H E=>(fq rfl (pv 0) (pv 1) rfl (gb rfl (pv 0) (pv 2) rfl))
theorem yy{C f:QO}{fd:RH}(h1:clsAt K "Drop" C)(hM:Mk K C f)(cl:lm K C)(na:∀g∈(["name","value"]:av),cw K C g)(F:ow K "__init__" "Drop.__init__" iq f fd)(b:Binds K fd ["self","name","value"] [])(hmg:mg "Drop"=some (.ref C)):eF P w K mg base 1 "Drop" ["self","name","value"] ["name","value"]:=
 fV (k:=0) h1 hM cl na F b hmg kS rfl (by decide +kernel) (by decide) λcdv A outer s H E=>(fq rfl (pv 0) (pv 1) rfl (gb rfl (pv 0) (pv 2) rfl))
theorem sF{C f:QO}{fd:RH}(h1:clsAt K "Blind" C)(hM:Jf K C f)(na:∀g∈(["one","other","change"]:av),cw K C g)(F:ow K "__init__" "Blind.__init__" gk f fd)(b:Binds K fd ["self","one","other","change"] [])(hmg:mg "Blind"=some (.ref C)):mD P w K mg base 1 "Blind" ["self","one","other","change"] ["one","other","change"]:=
 uw (k:=0) h1 hM na F b hmg jD rfl (by decide +kernel) (by decide) λcdv A outer s H E=>(mR rfl (pv 0) (pv 1) rfl (mR rfl (pv 0) (pv 2) rfl (xM rfl (pv 0) (pv 3) rfl)))
end
theorem all_mk{l:PZ}{w:QS}{K:Pn}{h:QV}{mg:bF}{fa:QO}(X:K.In h)(G:h.Ns QX mg)(hfa:mg "law"=some (.ref fa)){f1 f2:QO}
  (ac0:P0 K QX "Leaf"=some (some (.ref Cl0)))
  (ac1:P0 K QX "Over"=some (some (.ref Cl1)))
  (ac2:P0 K QX "Both"=some (some (.ref Cl2)))
  (ac3:P0 K QX "Drop"=some (some (.ref Cl3)))
  (ac4:P0 K QX "Rename"=some (some (.ref Cl4)))
  (ac5:P0 K QX "Join"=some (some (.ref Cl5)))
  (a0:Pt K (.ref Cl0) "put"=some (some (.ref f0)))
  (i0:Px K (.ref f0)=true)
  (l0:Lk K f0 "put" "Leaf.put" (inClass (top 61) 4) oc0 od0 kV0 dc0 pm0 an0 cd0 ct0 sl0)
  (c0:PY K cd0 "Leaf.put"=true)
  (k0:PQ K (.ref f0)=true)
  (a1:Pt K (.ref Cl1) "put"=some (some (.ref f1)))
  (i1:Px K (.ref f1)=true)
  (l1:Lk K f1 "put" "Over.put" (inClass (top 62) 4) oc1 od1 kV1 dc1 pm1 an1 cd1 ct1 sl1)
  (c1:PY K cd1 "Over.put"=true)
  (k1:PQ K (.ref f1)=true)
  (a2:Pt K (.ref Cl2) "put"=some (some (.ref f2)))
  (i2:Px K (.ref f2)=true)
  (l2:Lk K f2 "put" "Both.put" (inClass (top 63) 4) oc2 od2 kV2 dc2 pm2 an2 cd2 ct2 sl2)
  (c2:PY K cd2 "Both.put"=true)
  (k2:PQ K (.ref f2)=true)
  (a3:Pt K (.ref Cl0) "form"=some (some (.ref f3)))
  (i3:Px K (.ref f3)=true)
  (l3:Lk K f3 "form" "Leaf.form" (inClass (top 61) 2) oc3 od3 kV3 dc3 pm3 an3 cd3 ct3 sl3)
  (c3:PY K cd3 "Leaf.form"=true)
  (k3:PQ K (.ref f3)=true)
  (a4:Pt K (.ref Cl5) "view_form"=some (some (.ref f4)))
  (i4:Px K (.ref f4)=true)
  (l4:Lk K f4 "view_form" "Join.view_form" (inClass (top 54) 1) oc4 od4 kV4 dc4 pm4 an4 cd4 ct4 sl4)
  (c4:PY K cd4 "Join.view_form"=true)
  (k4:PQ K (.ref f4)=true)
  (a5:Pt K (.ref Cl0) "names"=some (some (.ref f5)))
  (i5:Px K (.ref f5)=true)
  (l5:Lk K f5 "names" "Leaf.names" (inClass (top 61) 1) oc5 od5 kV5 dc5 pm5 an5 cd5 ct5 sl5)
  (c5:PY K cd5 "Leaf.names"=true)
  (k5:PQ K (.ref f5)=true)
  (a6:Pt K (.ref Cl1) "names"=some (some (.ref f6)))
  (i6:Px K (.ref f6)=true)
  (l6:Lk K f6 "names" "Over.names" (inClass (top 62) 1) oc6 od6 kV6 dc6 pm6 an6 cd6 ct6 sl6)
  (c6:PY K cd6 "Over.names"=true)
  (k6:PQ K (.ref f6)=true)
  (a7:Pt K (.ref Cl2) "names"=some (some (.ref f7)))
  (i7:Px K (.ref f7)=true)
  (l7:Lk K f7 "names" "Both.names" (inClass (top 63) 1) oc7 od7 kV7 dc7 pm7 an7 cd7 ct7 sl7)
  (c7:PY K cd7 "Both.names"=true)
  (k7:PQ K (.ref f7)=true)
  (a8:Pt K (.ref Cl3) "view_form"=some (some (.ref f8)))
  (i8:Px K (.ref f8)=true)
  (l8:Lk K f8 "view_form" "Drop.view_form" (inClass (top 49) 2) oc8 od8 kV8 dc8 pm8 an8 cd8 ct8 sl8)
  (c8:PY K cd8 "Drop.view_form"=true)
  (k8:PQ K (.ref f8)=true)
  (a9:Pt K (.ref Cl4) "view_form"=some (some (.ref f9)))
  (i9:Px K (.ref f9)=true)
  (l9:Lk K f9 "view_form" "Rename.view_form" (inClass (top 74) 2) oc9 od9 kV9 dc9 pm9 an9 cd9 ct9 sl9)
  (c9:PY K cd9 "Rename.view_form"=true)
  (k9:PQ K (.ref f9)=true)
  (a10:Pt K (.ref Cl1) "form"=some (some (.ref f10)))
  (i10:Px K (.ref f10)=true)
  (l10:Lk K f10 "form" "Over.form" (inClass (top 62) 2) oc10 od10 kV10 dc10 pm10 an10 cd10 ct10 sl10)
  (c10:PY K cd10 "Over.form"=true)
  (k10:PQ K (.ref f10)=true)
  (a11:Pt K (.ref Cl2) "form"=some (some (.ref f11)))
  (i11:Px K (.ref f11)=true)
  (l11:Lk K f11 "form" "Both.form" (inClass (top 63) 2) oc11 od11 kV11 dc11 pm11 an11 cd11 ct11 sl11)
  (c11:PY K cd11 "Both.form"=true)
  (k11:PQ K (.ref f11)=true)
  (a12:Pt K (.ref Cl3) "put"=some (some (.ref f12)))
  (i12:Px K (.ref f12)=true)
  (l12:Lk K f12 "put" "Drop.put" (inClass (top 49) 4) oc12 od12 kV12 dc12 pm12 an12 cd12 ct12 sl12)
  (c12:PY K cd12 "Drop.put"=true)
  (k12:PQ K (.ref f12)=true)
  (a13:Pt K (.ref Cl4) "put"=some (some (.ref f13)))
  (i13:Px K (.ref f13)=true)
  (l13:Lk K f13 "put" "Step.put" (inClass (top 46) 3) oc13 od13 kV13 dc13 pm13 an13 cd13 ct13 sl13)
  (c13:PY K cd13 "Step.put"=true)
  (k13:PQ K (.ref f13)=true)
  (a14:Pt K (.ref Cl3) "exact"=some (some (.ref f14)))
  (i14:Px K (.ref f14)=true)
  (l14:Lk K f14 "exact" "Drop.exact" (inClass (top 49) 5) oc14 od14 kV14 dc14 pm14 an14 cd14 ct14 sl14)
  (c14:PY K cd14 "Drop.exact"=true)
  (k14:PQ K (.ref f14)=true)
  (a15:Pt K (.ref Cl3) "steady"=some (some (.ref f15)))
  (i15:Px K (.ref f15)=true)
  (l15:Lk K f15 "steady" "Drop.steady" (inClass (top 49) 6) oc15 od15 kV15 dc15 pm15 an15 cd15 ct15 sl15)
  (c15:PY K cd15 "Drop.steady"=true)
  (k15:PQ K (.ref f15)=true)
  (a16:Pt K (.ref Cl4) "steady"=some (some (.ref f16)))
  (i16:Px K (.ref f16)=true)
  (l16:Lk K f16 "steady" "Step.steady" (inClass (top 46) 5) oc16 od16 kV16 dc16 pm16 an16 cd16 ct16 sl16)
  (c16:PY K cd16 "Step.steady"=true)
  (k16:PQ K (.ref f16)=true)
  (a17:P0 K QX "law"=some (some (.ref f17)))
  (l17:Lk K f17 "law" "law" (top 84) oc17 od17 kV17 dc17 pm17 an17 cd17 ct17 sl17)
  (c17:PY K cd17 "law"=true)
  (k17:PQ K (.ref f17)=true)
  (a18:Pt K (.ref Cl0) "__init__"=some (some (.ref f18)))
  (i18:Px K (.ref f18)=true)
  (l18:Lk K f18 "__init__" "Leaf.__init__" (inClass (top 61) 0) oc18 od18 kV18 dc18 pm18 an18 cd18 ct18 sl18)
  (c18:PY K cd18 "Leaf.__init__"=true)
  (k18:PQ K (.ref f18)=true)
  (a19:Pt K (.ref Cl4) "__init__"=some (some (.ref f19)))
  (i19:Px K (.ref f19)=true)
  (l19:Lk K f19 "__init__" "Rename.__init__" (inClass (top 74) 0) oc19 od19 kV19 dc19 pm19 an19 cd19 ct19 sl19)
  (c19:PY K cd19 "Rename.__init__"=true)
  (k19:PQ K (.ref f19)=true)
  (a20:Pt K (.ref Cl2) "__init__"=some (some (.ref f20)))
  (i20:Px K (.ref f20)=true)
  (l20:Lk K f20 "__init__" "Both.__init__" (inClass (top 63) 0) oc20 od20 kV20 dc20 pm20 an20 cd20 ct20 sl20)
  (c20:PY K cd20 "Both.__init__"=true)
  (k20:PQ K (.ref f20)=true)
  (a21:Pt K (.ref Cl1) "__init__"=some (some (.ref f21)))
  (i21:Px K (.ref f21)=true)
  (l21:Lk K f21 "__init__" "Over.__init__" (inClass (top 62) 0) oc21 od21 kV21 dc21 pm21 an21 cd21 ct21 sl21)
  (c21:PY K cd21 "Over.__init__"=true)
  (k21:PQ K (.ref f21)=true)
  (a22:Pt K (.ref Cl3) "__init__"=some (some (.ref f22)))
  (i22:Px K (.ref f22)=true)
  (l22:Lk K f22 "__init__" "Drop.__init__" (inClass (top 49) 0) oc22 od22 kV22 dc22 pm22 an22 cd22 ct22 sl22)
  (c22:PY K cd22 "Drop.__init__"=true)
  (k22:PQ K (.ref f22)=true)
  (p0:Pq K Cl0 Str.empty=true)
  (q0:Pr K Cl0=true)
  (r0:Py K Cl0=true)
  (s0:Pt K (.ref Cl0) "__setattr__"=some (some (.builtin "object.__setattr__")))
  (n0_0:Pt K (.ref Cl0) "name"=some none)
  (m0:PD K Cl0=true)
  (kp0:PQ K (.ref Cl0)=true)
  (p1:Pq K Cl1 Str.empty=true)
  (q1:Pr K Cl1=true)
  (r1:Py K Cl1=true)
  (s1:Pt K (.ref Cl1) "__setattr__"=some (some (.builtin "object.__setattr__")))
  (n1_0:Pt K (.ref Cl1) "glass"=some none)
  (n1_1:Pt K (.ref Cl1) "step"=some none)
  (m1:PD K Cl1=true)
  (kp1:PQ K (.ref Cl1)=true)
  (p2:Pq K Cl2 Str.empty=true)
  (q2:Pr K Cl2=true)
  (r2:Py K Cl2=true)
  (s2:Pt K (.ref Cl2) "__setattr__"=some (some (.builtin "object.__setattr__")))
  (n2_0:Pt K (.ref Cl2) "one"=some none)
  (n2_1:Pt K (.ref Cl2) "other"=some none)
  (n2_2:Pt K (.ref Cl2) "pair"=some none)
  (m2:PD K Cl2=true)
  (kp2:PQ K (.ref Cl2)=true)
  (p3:Pq K Cl3 Str.empty=true)
  (q3:Pr K Cl3=true)
  (r3:Py K Cl3=true)
  (s3:Pt K (.ref Cl3) "__setattr__"=some (some (.builtin "object.__setattr__")))
  (n3_0:Pt K (.ref Cl3) "name"=some none)
  (n3_1:Pt K (.ref Cl3) "value"=some none)
  (m3:PD K Cl3=true)
  (kp3:PQ K (.ref Cl3)=true)
  (p4:Pq K Cl4 Str.empty=true)
  (q4:Pr K Cl4=true)
  (r4:Py K Cl4=true)
  (s4:Pt K (.ref Cl4) "__setattr__"=some (some (.builtin "object.__setattr__")))
  (n4_0:Pt K (.ref Cl4) "old"=some none)
  (n4_1:Pt K (.ref Cl4) "new"=some none)
  (m4:PD K Cl4=true)
  (kp4:PQ K (.ref Cl4)=true)
  (p5:Pq K Cl5 Str.empty=true)
  (q5:Pr K Cl5=true)
  (r5:Py K Cl5=true)
  (s5:Pt K (.ref Cl5) "__setattr__"=some (some (.builtin "object.__setattr__")))
  (o5:Pt K (.ref Cl5) "__init__"=some (some (.builtin "object.__init__")))
  (m5:PD K Cl5=true)
  (kp5:PQ K (.ref Cl5)=true)
  (vsg:Qa K (.builtin "object.__class__") "__get__"=some (some (.builtin "getset_descriptor.__get__")))
  (vtk:Qb K (.builtin "object.__class__")=some true)
  (vf0:Pt K (.ref Cl0) "__class__"=some (some (.builtin "object.__class__")))
  (vm0:Qc K Cl0 (.type "object")=some true)
  (vf1:Pt K (.ref Cl1) "__class__"=some (some (.builtin "object.__class__")))
  (vm1:Qc K Cl1 (.type "object")=some true)
  (vf2:Pt K (.ref Cl2) "__class__"=some (some (.builtin "object.__class__")))
  (vm2:Qc K Cl2 (.type "object")=some true)
  (vt1:PF K (.ref Cl1)=some (.type "type"))
  (vi1:P8 K (.ref Cl1) (.type "type")=some true)
  (yy1_1:Qd K (.ref Cl1) Cl1=true)
  (vs1_0:P9 K (.ref Cl0) (.ref Cl1)=some false)
  (vn1_0:Cl0≠Cl1)
  (vs1_2:P9 K (.ref Cl2) (.ref Cl1)=some false)
  (vn1_2:Cl2≠Cl1)
  (vt2:PF K (.ref Cl2)=some (.type "type"))
  (vi2:P8 K (.ref Cl2) (.type "type")=some true)
  (yy2_2:Qd K (.ref Cl2) Cl2=true)
  (vs2_0:P9 K (.ref Cl0) (.ref Cl2)=some false)
  (vn2_0:Cl0≠Cl2)
  (vs2_1:P9 K (.ref Cl1) (.ref Cl2)=some false)
  (vn2_1:Cl1≠Cl2)
  (xa0:P0 K QX "NoTable"=some (some (.ref Xl0)))
  (xa1:P0 K QX "NoKind"=some (some (.ref Xl1)))
  (xa2:P0 K QX "Nothing"=some (some (.ref Xl2)))
  (xa3:P0 K QX "Twice"=some (some (.ref Xl3)))
  (xa4:P0 K QX "TooMany"=some (some (.ref Xl4)))
  (xa5:P0 K QX "NoKey"=some (some (.ref Xl5)))
  (xa6:P0 K QX "Blind"=some (some (.ref Xl6)))
  (xa7:P0 K QX "NoField"=some (some (.ref Xl7)))
  (xa8:P0 K QX "GlassError"=some (some (.ref Xl8)))
  (xa9:P0 K QX "NoForm"=some (some (.ref Xl9)))
  (xa10:P0 K QX "Torn"=some (some (.ref Xl10)))
  (xa11:P0 K QX "Stale"=some (some (.ref Xl11)))
  (xa12:P0 K QX "NoPane"=some (some (.ref Xl12)))
  (xa13:P0 K QX "NoText"=some (some (.ref Xl13)))
  (a23:Pt K (.ref Xl6) "__init__"=some (some (.ref f23)))
  (i23:Px K (.ref f23)=true)
  (l23:Lk K f23 "__init__" "Blind.__init__" (inClass (top 10) 0) oc23 od23 kV23 dc23 pm23 an23 cd23 ct23 sl23)
  (c23:PY K cd23 "Blind.__init__"=true)
  (k23:PQ K (.ref f23)=true)
  (xs6:Pt K (.ref Xl6) "__setattr__"=some (some (.builtin "object.__setattr__")))
  (xp6:PQ K (.ref Xl6)=true)
  (xi6:uh K Xl6 f23=true)
  (xy6:um K Xl6=true)
  (xd6:Pr K Xl6=true)
  (xna6_0:Pt K (.ref Xl6) "one"=some none)
  (xna6_1:Pt K (.ref Xl6) "other"=some none)
  (xna6_2:Pt K (.ref Xl6) "change"=some none)
  (xe0:Qe K Xl0 Br "ValueError.__new__"=true)
  (xe1:Qe K Xl1 Br "ValueError.__new__"=true)
  (xe2:Qe K Xl2 Br "ValueError.__new__"=true)
  (xe3:Qe K Xl3 Br "ValueError.__new__"=true)
  (xe4:Qe K Xl4 Br "ValueError.__new__"=true)
  (xe5:Qe K Xl5 Br "ValueError.__new__"=true)
  (xe7:Qe K Xl7 Br "ValueError.__new__"=true)
  (xsg:Qa K (.builtin "object.__class__") "__get__"=some (some (.builtin "getset_descriptor.__get__")))
  (xtk:Qb K (.builtin "object.__class__")=some true)
  (xg0:Pt K (.ref Xl0) "__getattribute__"=some (some (.builtin "BaseException.__getattribute__")))
  (xn0:Pt K (.ref Xl0) "__getattr__"=some none)
  (xf0:Pt K (.ref Xl0) "__class__"=some (some (.builtin "object.__class__")))
  (xb0:Qc K Xl0 (.type "BaseException")=some true)
  (xg7:Pt K (.ref Xl7) "__getattribute__"=some (some (.builtin "BaseException.__getattribute__")))
  (xn7:Pt K (.ref Xl7) "__getattr__"=some none)
  (xf7:Pt K (.ref Xl7) "__class__"=some (some (.builtin "object.__class__")))
  (xb7:Qc K Xl7 (.type "BaseException")=some true)
  (xg3:Pt K (.ref Xl3) "__getattribute__"=some (some (.builtin "BaseException.__getattribute__")))
  (xn3:Pt K (.ref Xl3) "__getattr__"=some none)
  (xf3:Pt K (.ref Xl3) "__class__"=some (some (.builtin "object.__class__")))
  (xb3:Qc K Xl3 (.type "BaseException")=some true)
  (xg1:Pt K (.ref Xl1) "__getattribute__"=some (some (.builtin "BaseException.__getattribute__")))
  (xn1:Pt K (.ref Xl1) "__getattr__"=some none)
  (xf1:Pt K (.ref Xl1) "__class__"=some (some (.builtin "object.__class__")))
  (xb1:Qc K Xl1 (.type "BaseException")=some true)
  (xg2:Pt K (.ref Xl2) "__getattribute__"=some (some (.builtin "BaseException.__getattribute__")))
  (xn2:Pt K (.ref Xl2) "__getattr__"=some none)
  (xf2:Pt K (.ref Xl2) "__class__"=some (some (.builtin "object.__class__")))
  (xb2:Qc K Xl2 (.type "BaseException")=some true)
  (xg5:Pt K (.ref Xl5) "__getattribute__"=some (some (.builtin "BaseException.__getattribute__")))
  (xn5:Pt K (.ref Xl5) "__getattr__"=some none)
  (xf5:Pt K (.ref Xl5) "__class__"=some (some (.builtin "object.__class__")))
  (xb5:Qc K Xl5 (.type "BaseException")=some true)
  (xg4:Pt K (.ref Xl4) "__getattribute__"=some (some (.builtin "BaseException.__getattribute__")))
  (xn4:Pt K (.ref Xl4) "__getattr__"=some none)
  (xf4:Pt K (.ref Xl4) "__class__"=some (some (.builtin "object.__class__")))
  (xb4:Qc K Xl4 (.type "BaseException")=some true)
  (xg6:Pt K (.ref Xl6) "__getattribute__"=some (some (.builtin "BaseException.__getattribute__")))
  (xn6:Pt K (.ref Xl6) "__getattr__"=some none)
  (xf6:Pt K (.ref Xl6) "__class__"=some (some (.builtin "object.__class__")))
  (xb6:Qc K Xl6 (.type "BaseException")=some true)
  (xo0:Qc K Xl0 (.type "object")=some true)
  (xt0:PF K (.ref Xl0)=some (.type "type"))
  (xo1:Qc K Xl1 (.type "object")=some true)
  (xt1:PF K (.ref Xl1)=some (.type "type"))
  (xo2:Qc K Xl2 (.type "object")=some true)
  (xt2:PF K (.ref Xl2)=some (.type "type"))
  (xo3:Qc K Xl3 (.type "object")=some true)
  (xt3:PF K (.ref Xl3)=some (.type "type"))
  (xo4:Qc K Xl4 (.type "object")=some true)
  (xt4:PF K (.ref Xl4)=some (.type "type"))
  (xo5:Qc K Xl5 (.type "object")=some true)
  (xt5:PF K (.ref Xl5)=some (.type "type"))
  (xo6:Qc K Xl6 (.type "object")=some true)
  (xt6:PF K (.ref Xl6)=some (.type "type"))
  (xo7:Qc K Xl7 (.type "object")=some true)
  (xt7:PF K (.ref Xl7)=some (.type "type"))
  (xo8:Qc K Xl8 (.type "object")=some true)
  (xt8:PF K (.ref Xl8)=some (.type "type"))
  (xo9:Qc K Xl9 (.type "object")=some true)
  (xt9:PF K (.ref Xl9)=some (.type "type"))
  (xo10:Qc K Xl10 (.type "object")=some true)
  (xt10:PF K (.ref Xl10)=some (.type "type"))
  (xo11:Qc K Xl11 (.type "object")=some true)
  (xt11:PF K (.ref Xl11)=some (.type "type"))
  (xo12:Qc K Xl12 (.type "object")=some true)
  (xt12:PF K (.ref Xl12)=some (.type "type"))
  (xo13:Qc K Xl13 (.type "object")=some true)
  (xt13:PF K (.ref Xl13)=some (.type "type"))
  (xw8:P9 K (.ref Xl8) (.type "BaseException")=some true)
  (xm8_0:P9 K (.ref Xl0) (.ref Xl8)=some true)
  (xm8_7:P9 K (.ref Xl7) (.ref Xl8)=some true)
  (xm8_3:P9 K (.ref Xl3) (.ref Xl8)=some true)
  (xm8_1:P9 K (.ref Xl1) (.ref Xl8)=some true)
  (xm8_2:P9 K (.ref Xl2) (.ref Xl8)=some true)
  (xm8_5:P9 K (.ref Xl5) (.ref Xl8)=some true)
  (xm8_4:P9 K (.ref Xl4) (.ref Xl8)=some true)
  (xm8_6:P9 K (.ref Xl6) (.ref Xl8)=some true)
  (xk3_0:P9 K (.ref Xl0) (.ref Xl3)=some false)
  (vnx3_0:Xl0≠Xl3)
  (xk3_7:P9 K (.ref Xl7) (.ref Xl3)=some false)
  (vnx3_7:Xl7≠Xl3)
  (xk3_3:P9 K (.ref Xl3) (.ref Xl3)=some true)
  (xk3_1:P9 K (.ref Xl1) (.ref Xl3)=some false)
  (vnx3_1:Xl1≠Xl3)
  (xk3_2:P9 K (.ref Xl2) (.ref Xl3)=some false)
  (vnx3_2:Xl2≠Xl3)
  (xk3_5:P9 K (.ref Xl5) (.ref Xl3)=some false)
  (vnx3_5:Xl5≠Xl3)
  (xk3_4:P9 K (.ref Xl4) (.ref Xl3)=some false)
  (vnx3_4:Xl4≠Xl3)
  (xk3_6:P9 K (.ref Xl6) (.ref Xl3)=some false)
  (vnx3_6:Xl6≠Xl3)
  (xk1_0:P9 K (.ref Xl0) (.ref Xl1)=some false)
  (vnx1_0:Xl0≠Xl1)
  (xk1_7:P9 K (.ref Xl7) (.ref Xl1)=some false)
  (vnx1_7:Xl7≠Xl1)
  (xk1_3:P9 K (.ref Xl3) (.ref Xl1)=some false)
  (vnx1_3:Xl3≠Xl1)
  (xk1_1:P9 K (.ref Xl1) (.ref Xl1)=some true)
  (xk1_2:P9 K (.ref Xl2) (.ref Xl1)=some false)
  (vnx1_2:Xl2≠Xl1)
  (xk1_5:P9 K (.ref Xl5) (.ref Xl1)=some false)
  (vnx1_5:Xl5≠Xl1)
  (xk1_4:P9 K (.ref Xl4) (.ref Xl1)=some false)
  (vnx1_4:Xl4≠Xl1)
  (xk1_6:P9 K (.ref Xl6) (.ref Xl1)=some false)
  (vnx1_6:Xl6≠Xl1)
  (xk7_0:P9 K (.ref Xl0) (.ref Xl7)=some false)
  (vnx7_0:Xl0≠Xl7)
  (xk7_7:P9 K (.ref Xl7) (.ref Xl7)=some true)
  (xk7_3:P9 K (.ref Xl3) (.ref Xl7)=some false)
  (vnx7_3:Xl3≠Xl7)
  (xk7_1:P9 K (.ref Xl1) (.ref Xl7)=some false)
  (vnx7_1:Xl1≠Xl7)
  (xk7_2:P9 K (.ref Xl2) (.ref Xl7)=some false)
  (vnx7_2:Xl2≠Xl7)
  (xk7_5:P9 K (.ref Xl5) (.ref Xl7)=some false)
  (vnx7_5:Xl5≠Xl7)
  (xk7_4:P9 K (.ref Xl4) (.ref Xl7)=some false)
  (vnx7_4:Xl4≠Xl7)
  (xk7_6:P9 K (.ref Xl6) (.ref Xl7)=some false)
  (vnx7_6:Xl6≠Xl7)
  (xk5_0:P9 K (.ref Xl0) (.ref Xl5)=some false)
  (vnx5_0:Xl0≠Xl5)
  (xk5_7:P9 K (.ref Xl7) (.ref Xl5)=some false)
  (vnx5_7:Xl7≠Xl5)
  (xk5_3:P9 K (.ref Xl3) (.ref Xl5)=some false)
  (vnx5_3:Xl3≠Xl5)
  (xk5_1:P9 K (.ref Xl1) (.ref Xl5)=some false)
  (vnx5_1:Xl1≠Xl5)
  (xk5_2:P9 K (.ref Xl2) (.ref Xl5)=some false)
  (vnx5_2:Xl2≠Xl5)
  (xk5_5:P9 K (.ref Xl5) (.ref Xl5)=some true)
  (xk5_4:P9 K (.ref Xl4) (.ref Xl5)=some false)
  (vnx5_4:Xl4≠Xl5)
  (xk5_6:P9 K (.ref Xl6) (.ref Xl5)=some false)
  (vnx5_6:Xl6≠Xl5)
  (xk0_0:P9 K (.ref Xl0) (.ref Xl0)=some true)
  (xk0_7:P9 K (.ref Xl7) (.ref Xl0)=some false)
  (vnx0_7:Xl7≠Xl0)
  (xk0_3:P9 K (.ref Xl3) (.ref Xl0)=some false)
  (vnx0_3:Xl3≠Xl0)
  (xk0_1:P9 K (.ref Xl1) (.ref Xl0)=some false)
  (vnx0_1:Xl1≠Xl0)
  (xk0_2:P9 K (.ref Xl2) (.ref Xl0)=some false)
  (vnx0_2:Xl2≠Xl0)
  (xk0_5:P9 K (.ref Xl5) (.ref Xl0)=some false)
  (vnx0_5:Xl5≠Xl0)
  (xk0_4:P9 K (.ref Xl4) (.ref Xl0)=some false)
  (vnx0_4:Xl4≠Xl0)
  (xk0_6:P9 K (.ref Xl6) (.ref Xl0)=some false)
  (vnx0_6:Xl6≠Xl0)
  (xk9_0:P9 K (.ref Xl0) (.ref Xl9)=some false)
  (vnx9_0:Xl0≠Xl9)
  (xk9_7:P9 K (.ref Xl7) (.ref Xl9)=some false)
  (vnx9_7:Xl7≠Xl9)
  (xk9_3:P9 K (.ref Xl3) (.ref Xl9)=some false)
  (vnx9_3:Xl3≠Xl9)
  (xk9_1:P9 K (.ref Xl1) (.ref Xl9)=some false)
  (vnx9_1:Xl1≠Xl9)
  (xk9_2:P9 K (.ref Xl2) (.ref Xl9)=some false)
  (vnx9_2:Xl2≠Xl9)
  (xk9_5:P9 K (.ref Xl5) (.ref Xl9)=some false)
  (vnx9_5:Xl5≠Xl9)
  (xk9_4:P9 K (.ref Xl4) (.ref Xl9)=some false)
  (vnx9_4:Xl4≠Xl9)
  (xk9_6:P9 K (.ref Xl6) (.ref Xl9)=some false)
  (vnx9_6:Xl6≠Xl9)
  (xk4_0:P9 K (.ref Xl0) (.ref Xl4)=some false)
  (vnx4_0:Xl0≠Xl4)
  (xk4_7:P9 K (.ref Xl7) (.ref Xl4)=some false)
  (vnx4_7:Xl7≠Xl4)
  (xk4_3:P9 K (.ref Xl3) (.ref Xl4)=some false)
  (vnx4_3:Xl3≠Xl4)
  (xk4_1:P9 K (.ref Xl1) (.ref Xl4)=some false)
  (vnx4_1:Xl1≠Xl4)
  (xk4_2:P9 K (.ref Xl2) (.ref Xl4)=some false)
  (vnx4_2:Xl2≠Xl4)
  (xk4_5:P9 K (.ref Xl5) (.ref Xl4)=some false)
  (vnx4_5:Xl5≠Xl4)
  (xk4_4:P9 K (.ref Xl4) (.ref Xl4)=some true)
  (xk4_6:P9 K (.ref Xl6) (.ref Xl4)=some false)
  (vnx4_6:Xl6≠Xl4)
  (xk2_0:P9 K (.ref Xl0) (.ref Xl2)=some false)
  (vnx2_0:Xl0≠Xl2)
  (xk2_7:P9 K (.ref Xl7) (.ref Xl2)=some false)
  (vnx2_7:Xl7≠Xl2)
  (xk2_3:P9 K (.ref Xl3) (.ref Xl2)=some false)
  (vnx2_3:Xl3≠Xl2)
  (xk2_1:P9 K (.ref Xl1) (.ref Xl2)=some false)
  (vnx2_1:Xl1≠Xl2)
  (xk2_2:P9 K (.ref Xl2) (.ref Xl2)=some true)
  (xk2_5:P9 K (.ref Xl5) (.ref Xl2)=some false)
  (vnx2_5:Xl5≠Xl2)
  (xk2_4:P9 K (.ref Xl4) (.ref Xl2)=some false)
  (vnx2_4:Xl4≠Xl2)
  (xk2_6:P9 K (.ref Xl6) (.ref Xl2)=some false)
  (vnx2_6:Xl6≠Xl2)
  (xk6_0:P9 K (.ref Xl0) (.ref Xl6)=some false)
  (vnx6_0:Xl0≠Xl6)
  (xk6_7:P9 K (.ref Xl7) (.ref Xl6)=some false)
  (vnx6_7:Xl7≠Xl6)
  (xk6_3:P9 K (.ref Xl3) (.ref Xl6)=some false)
  (vnx6_3:Xl3≠Xl6)
  (xk6_1:P9 K (.ref Xl1) (.ref Xl6)=some false)
  (vnx6_1:Xl1≠Xl6)
  (xk6_2:P9 K (.ref Xl2) (.ref Xl6)=some false)
  (vnx6_2:Xl2≠Xl6)
  (xk6_5:P9 K (.ref Xl5) (.ref Xl6)=some false)
  (vnx6_5:Xl5≠Xl6)
  (xk6_4:P9 K (.ref Xl4) (.ref Xl6)=some false)
  (vnx6_4:Xl4≠Xl6)
  (xk6_6:P9 K (.ref Xl6) (.ref Xl6)=some true)
  (xk10_0:P9 K (.ref Xl0) (.ref Xl10)=some false)
  (vnx10_0:Xl0≠Xl10)
  (xk10_7:P9 K (.ref Xl7) (.ref Xl10)=some false)
  (vnx10_7:Xl7≠Xl10)
  (xk10_3:P9 K (.ref Xl3) (.ref Xl10)=some false)
  (vnx10_3:Xl3≠Xl10)
  (xk10_1:P9 K (.ref Xl1) (.ref Xl10)=some false)
  (vnx10_1:Xl1≠Xl10)
  (xk10_2:P9 K (.ref Xl2) (.ref Xl10)=some false)
  (vnx10_2:Xl2≠Xl10)
  (xk10_5:P9 K (.ref Xl5) (.ref Xl10)=some false)
  (vnx10_5:Xl5≠Xl10)
  (xk10_4:P9 K (.ref Xl4) (.ref Xl10)=some false)
  (vnx10_4:Xl4≠Xl10)
  (xk10_6:P9 K (.ref Xl6) (.ref Xl10)=some false)
  (vnx10_6:Xl6≠Xl10)
  (xk11_0:P9 K (.ref Xl0) (.ref Xl11)=some false)
  (vnx11_0:Xl0≠Xl11)
  (xk11_7:P9 K (.ref Xl7) (.ref Xl11)=some false)
  (vnx11_7:Xl7≠Xl11)
  (xk11_3:P9 K (.ref Xl3) (.ref Xl11)=some false)
  (vnx11_3:Xl3≠Xl11)
  (xk11_1:P9 K (.ref Xl1) (.ref Xl11)=some false)
  (vnx11_1:Xl1≠Xl11)
  (xk11_2:P9 K (.ref Xl2) (.ref Xl11)=some false)
  (vnx11_2:Xl2≠Xl11)
  (xk11_5:P9 K (.ref Xl5) (.ref Xl11)=some false)
  (vnx11_5:Xl5≠Xl11)
  (xk11_4:P9 K (.ref Xl4) (.ref Xl11)=some false)
  (vnx11_4:Xl4≠Xl11)
  (xk11_6:P9 K (.ref Xl6) (.ref Xl11)=some false)
  (vnx11_6:Xl6≠Xl11)
  (xk12_0:P9 K (.ref Xl0) (.ref Xl12)=some false)
  (vnx12_0:Xl0≠Xl12)
  (xk12_7:P9 K (.ref Xl7) (.ref Xl12)=some false)
  (vnx12_7:Xl7≠Xl12)
  (xk12_3:P9 K (.ref Xl3) (.ref Xl12)=some false)
  (vnx12_3:Xl3≠Xl12)
  (xk12_1:P9 K (.ref Xl1) (.ref Xl12)=some false)
  (vnx12_1:Xl1≠Xl12)
  (xk12_2:P9 K (.ref Xl2) (.ref Xl12)=some false)
  (vnx12_2:Xl2≠Xl12)
  (xk12_5:P9 K (.ref Xl5) (.ref Xl12)=some false)
  (vnx12_5:Xl5≠Xl12)
  (xk12_4:P9 K (.ref Xl4) (.ref Xl12)=some false)
  (vnx12_4:Xl4≠Xl12)
  (xk12_6:P9 K (.ref Xl6) (.ref Xl12)=some false)
  (vnx12_6:Xl6≠Xl12)
  (xk13_0:P9 K (.ref Xl0) (.ref Xl13)=some false)
  (vnx13_0:Xl0≠Xl13)
  (xk13_7:P9 K (.ref Xl7) (.ref Xl13)=some false)
  (vnx13_7:Xl7≠Xl13)
  (xk13_3:P9 K (.ref Xl3) (.ref Xl13)=some false)
  (vnx13_3:Xl3≠Xl13)
  (xk13_1:P9 K (.ref Xl1) (.ref Xl13)=some false)
  (vnx13_1:Xl1≠Xl13)
  (xk13_2:P9 K (.ref Xl2) (.ref Xl13)=some false)
  (vnx13_2:Xl2≠Xl13)
  (xk13_5:P9 K (.ref Xl5) (.ref Xl13)=some false)
  (vnx13_5:Xl5≠Xl13)
  (xk13_4:P9 K (.ref Xl4) (.ref Xl13)=some false)
  (vnx13_4:Xl4≠Xl13)
  (xk13_6:P9 K (.ref Xl6) (.ref Xl13)=some false)
  (vnx13_6:Xl6≠Xl13)
  (xv_ValueError_0:P9 K (.ref Xl0) (.type "ValueError")=some true)
  (xv_ValueError_7:P9 K (.ref Xl7) (.type "ValueError")=some true)
  (xv_ValueError_3:P9 K (.ref Xl3) (.type "ValueError")=some true)
  (xv_ValueError_1:P9 K (.ref Xl1) (.type "ValueError")=some true)
  (xv_ValueError_2:P9 K (.ref Xl2) (.type "ValueError")=some true)
  (xv_ValueError_5:P9 K (.ref Xl5) (.type "ValueError")=some true)
  (xv_ValueError_4:P9 K (.ref Xl4) (.type "ValueError")=some true)
  (xv_ValueError_6:P9 K (.ref Xl6) (.type "ValueError")=some true)
  (dd0:KDs K [("hidden_tables",top 72),("both_words",top 21),("both_numbers",top 20),("both",top 19),("shared_key",top 55),("replaced",top 40),("in_key",top 39),("with_fields",top 41),("second_value",top 51),("kinds_of",top 18),("least",top 23),("least_row",top 36),("single",top 22),("kind_at",top 38),("check_key",top 50),("is_whole",top 16),("has_parts",top 17),("keys_rise",top 34),("fits",top 31),("keeps",top 32),("is_row",top 33),("names_of",top 27),("place_of",top 28),("two_views",top 68),("hidden_rows",top 69),("lasting",top 67),("_law_caught",top 80),("_law_class",top 79),("_law_formed",top 81),("_law_forms",top 83)])
  (dd1:KDs K [("_law_cell_at",top 76),("_law_glass",top 82),("_law_draw",top 77),("_law_names",top 78)])
  (zz:KZs K ["tuple","max","min","zip","any","len","all","isinstance","int","bool","range","str","enumerate","dict","ValueError"])
  (ke0:P0 K QX "MOST_FIELDS"=some (some (.int 8 tk0))):
  ∃fd:RH,(∀(s:QR)(v:QM),RJ s fd ⟨[v],[]⟩ [("_law_script",v)])/\∀base:QV,K.In base->base.Ns QX mg->eW l.prog w K mg base (jM l.prog w) 31 fa fd ["_law_script"] (yg K 1 (au kn 1 11)):=by
 have e:=hfa.symm.trans (Ql X G a17);cases e;have c_MOST_FIELDS:∃t,mg "MOST_FIELDS"=some (.int 8 t):=⟨_,Ql X G ke0⟩
 have F0:=bO (st:=(inClass (top 61) 4)) l0 c0 k0;have F1:=bO (st:=(inClass (top 62) 4)) l1 c1 k1;have F2:=bO (st:=(inClass (top 63) 4)) l2 c2 k2;have F3:=bO (st:=(inClass (top 61) 2)) l3 c3 k3;have F4:=bO (st:=(inClass (top 54) 1)) l4 c4 k4;have F5:=bO (st:=(inClass (top 61) 1)) l5 c5 k5;have F6:=bO (st:=(inClass (top 62) 1)) l6 c6 k6;have F7:=bO (st:=(inClass (top 63) 1)) l7 c7 k7;have F8:=bO (st:=(inClass (top 49) 2)) l8 c8 k8;have F9:=bO (st:=(inClass (top 74) 2)) l9 c9 k9;have F10:=bO (st:=(inClass (top 62) 2)) l10 c10 k10;have F11:=bO (st:=(inClass (top 63) 2)) l11 c11 k11;have F12:=bO (st:=(inClass (top 49) 4)) l12 c12 k12;have F13:=bO (st:=(inClass (top 46) 3)) l13 c13 k13;have F14:=bO (st:=(inClass (top 49) 5)) l14 c14 k14;have F15:=bO (st:=(inClass (top 49) 6)) l15 c15 k15;have F16:=bO (st:=(inClass (top 46) 5)) l16 c16 k16;have F17:=bO (st:=(top 84)) l17 c17 k17;have F18:=bO (st:=(inClass (top 61) 0)) l18 c18 k18;have b18:=F18.binds (ps:=["self","name"]) λ_ _ _ _ _ _ us hl=>by obtain⟨u0,u1,rfl⟩:=Fa hl;rfl
 have F19:=bO (st:=(inClass (top 74) 0)) l19 c19 k19;have b19:=F19.binds (ps:=["self","old","new"]) λ_ _ _ _ _ _ us hl=>by obtain⟨u0,u1,u2,rfl⟩:=A3 hl;rfl
 have F20:=bO (st:=(inClass (top 63) 0)) l20 c20 k20;have b20:=F20.binds (ps:=["self","one","other","pair"]) λ_ _ _ _ _ _ us hl=>by obtain⟨u0,u1,u2,u3,rfl⟩:=Gr hl;rfl
 have F21:=bO (st:=(inClass (top 62) 0)) l21 c21 k21;have b21:=F21.binds (ps:=["self","glass","step"]) λ_ _ _ _ _ _ us hl=>by obtain⟨u0,u1,u2,rfl⟩:=A3 hl;rfl
 have F22:=bO (st:=(inClass (top 49) 0)) l22 c22 k22;have b22:=F22.binds (ps:=["self","name","value"]) λ_ _ _ _ _ _ us hl=>by obtain⟨u0,u1,u2,rfl⟩:=A3 hl;rfl
 have F23:=bO (st:=(inClass (top 10) 0)) l23 c23 k23;have b23:=F23.binds (ps:=["self","one","other","change"]) λ_ _ _ _ _ _ us hl=>by obtain⟨u0,u1,u2,u3,rfl⟩:=Gr hl;rfl
 have cl0:lm K Cl0:=⟨p0,q0,r0,s0⟩
 have cl1:lm K Cl1:=⟨p1,q1,r1,s1⟩
 have cl2:lm K Cl2:=⟨p2,q2,r2,s2⟩
 have cl3:lm K Cl3:=⟨p3,q3,r3,s3⟩
 have cl4:lm K Cl4:=⟨p4,q4,r4,s4⟩
 have cl5:lm K Cl5:=⟨p5,q5,r5,s5⟩
 have qD:dg K "name" ["Leaf"]:=by
  intro c hc C hC;simp only[Oz,Pj,or_false]at hc;rcases hc with rfl
  ·cases bh hC ac0;exact⟨cl0,n0_0⟩
 have oH:dg K "glass" ["Over"]:=by
  intro c hc C hC;simp only[Oz,Pj,or_false]at hc;rcases hc with rfl
  ·cases bh hC ac1;exact⟨cl1,n1_0⟩
 have su:dg K "one" ["Both"]:=by
  intro c hc C hC;simp only[Oz,Pj,or_false]at hc;rcases hc with rfl
  ·cases bh hC ac2;exact⟨cl2,n2_0⟩
 have oG:dg K "other" ["Both"]:=by
  intro c hc C hC;simp only[Oz,Pj,or_false]at hc;rcases hc with rfl
  ·cases bh hC ac2;exact⟨cl2,n2_1⟩
 have qX:dg K "name" ["Drop"]:=by
  intro c hc C hC;simp only[Oz,Pj,or_false]at hc;rcases hc with rfl
  ·cases bh hC ac3;exact⟨cl3,n3_0⟩
 have oF:dg K "value" ["Drop"]:=by
  intro c hc C hC;simp only[Oz,Pj,or_false]at hc;rcases hc with rfl
  ·cases bh hC ac3;exact⟨cl3,n3_1⟩
 have oB:dg K "old" ["Rename"]:=by
  intro c hc C hC;simp only[Oz,Pj,or_false]at hc;rcases hc with rfl
  ·cases bh hC ac4;exact⟨cl4,n4_0⟩
 have oj:dg K "new" ["Rename"]:=by
  intro c hc C hC;simp only[Oz,Pj,or_false]at hc;rcases hc with rfl
  ·cases bh hC ac4;exact⟨cl4,n4_1⟩
 have qG:dg K "step" ["Over"]:=by
  intro c hc C hC;simp only[Oz,Pj,or_false]at hc;rcases hc with rfl
  ·cases bh hC ac1;exact⟨cl1,n1_1⟩
 have rG:dg K "pair" ["Both"]:=by
  intro c hc C hC;simp only[Oz,Pj,or_false]at hc;rcases hc with rfl
  ·cases bh hC ac2;exact⟨cl2,n2_2⟩
 refine⟨PX "law" "law" (gO (top 84)) (cU (top 84)) (aF (top 84)) .none kV17 dc17 pm17 an17 cd17 ct17,λs v=>.of_eq rfl,λbase _ _=>?_⟩;have Y_Over:sr K mg "Over" ["Over"] ["Leaf","Both"]:=by
  refine⟨_,Ql X G ac1,λc hc D hD=>?_,λc hc D hD=>?_⟩<;>simp only[Oz,Pj,or_false]at hc
  ·rcases hc with rfl;cases bh hD ac1;exact yy1_1
  ·rcases hc with rfl|rfl
   ·cases bh hD ac0;exact⟨cl0,⟨vn1_0,(by obtain⟨cd,hc,_⟩:=PB cl1.hd;rw[hc];rfl),vt1,vi1,vs1_0,vf0,vsg,vtk,vm0⟩⟩
   ·cases bh hD ac2;exact⟨cl2,⟨vn1_2,(by obtain⟨cd,hc,_⟩:=PB cl1.hd;rw[hc];rfl),vt1,vi1,vs1_2,vf2,vsg,vtk,vm2⟩⟩
 have Y_Both:sr K mg "Both" ["Both"] ["Leaf","Over"]:=by
  refine⟨_,Ql X G ac2,λc hc D hD=>?_,λc hc D hD=>?_⟩<;>simp only[Oz,Pj,or_false]at hc
  ·rcases hc with rfl;cases bh hD ac2;exact yy2_2
  ·rcases hc with rfl|rfl
   ·cases bh hD ac0;exact⟨cl0,⟨vn2_0,(by obtain⟨cd,hc,_⟩:=PB cl2.hd;rw[hc];rfl),vt2,vi2,vs2_0,vf0,vsg,vtk,vm0⟩⟩
   ·cases bh hD ac1;exact⟨cl1,⟨vn2_1,(by obtain⟨cd,hc,_⟩:=PB cl2.hd;rw[hc];rfl),vt2,vi2,vs2_1,vf1,vsg,vtk,vm1⟩⟩
 have E_NoTable:ExcAt K mg "NoTable":=⟨_,xa0,Ql X G xa0,xe0⟩
 have E_NoKind:ExcAt K mg "NoKind":=⟨_,xa1,Ql X G xa1,xe1⟩
 have E_Nothing:ExcAt K mg "Nothing":=⟨_,xa2,Ql X G xa2,xe2⟩
 have E_Twice:ExcAt K mg "Twice":=⟨_,xa3,Ql X G xa3,xe3⟩
 have E_TooMany:ExcAt K mg "TooMany":=⟨_,xa4,Ql X G xa4,xe4⟩
 have E_NoKey:ExcAt K mg "NoKey":=⟨_,xa5,Ql X G xa5,xe5⟩
 have E_NoField:ExcAt K mg "NoField":=⟨_,xa7,Ql X G xa7,xe7⟩
 have xK0:jv K Xl0:=⟨xg0,xn0,xf0,xsg,xtk,xo0,xb0⟩
 have xK7:jv K Xl7:=⟨xg7,xn7,xf7,xsg,xtk,xo7,xb7⟩
 have xK3:jv K Xl3:=⟨xg3,xn3,xf3,xsg,xtk,xo3,xb3⟩
 have xK1:jv K Xl1:=⟨xg1,xn1,xf1,xsg,xtk,xo1,xb1⟩
 have xK2:jv K Xl2:=⟨xg2,xn2,xf2,xsg,xtk,xo2,xb2⟩
 have xK5:jv K Xl5:=⟨xg5,xn5,xf5,xsg,xtk,xo5,xb5⟩
 have xK4:jv K Xl4:=⟨xg4,xn4,xf4,xsg,xtk,xo4,xb4⟩
 have xK6:jv K Xl6:=⟨xg6,xn6,xf6,xsg,xtk,xo6,xb6⟩
 have RI_Blind:=sF (P:=l.prog) (w:=w) (base:=base) xa6 (GQ xi6 (beq_iff_eq.mp i23) ⟨xs6,xy6,xd6⟩ xp6) (by intro g hg;simp only[Oz,Pj,or_false]at hg;rcases hg with rfl|rfl|rfl<;>first|exact xna6_0|exact xna6_1|exact xna6_2) F23 b23 (Ql X G xa6);have T_GlassError:tW K mg "GlassError" ["NoTable","NoField","Twice","NoKind","Nothing","NoKey","TooMany","Blind"]:=AX (Ql X G xa8) (by
  intro c hc;simp only[Oz,Pj,or_false]at hc;rcases hc with rfl|rfl|rfl|rfl|rfl|rfl|rfl|rfl
  ·exact⟨_,xa0,fE xw8 xm8_0 xo8 xt8⟩
  ·exact⟨_,xa7,fE xw8 xm8_7 xo8 xt8⟩
  ·exact⟨_,xa3,fE xw8 xm8_3 xo8 xt8⟩
  ·exact⟨_,xa1,fE xw8 xm8_1 xo8 xt8⟩
  ·exact⟨_,xa2,fE xw8 xm8_2 xo8 xt8⟩
  ·exact⟨_,xa5,fE xw8 xm8_5 xo8 xt8⟩
  ·exact⟨_,xa4,fE xw8 xm8_4 xo8 xt8⟩
  ·exact⟨_,xa6,fE xw8 xm8_6 xo8 xt8⟩)
 have C6:cm K mg "Twice" [("NoTable",false),("NoField",false),("Twice",true),("NoKind",false),("Nothing",false),("NoKey",false),("TooMany",false),("Blind",false)]:=⟨_,Ql X G xa3,ah xa0 xK0 (aj xk3_0 xo3 xt3 (.inr vnx3_0)) (ah xa7 xK7 (aj xk3_7 xo3 xt3 (.inr vnx3_7)) (ah xa3 xK3 (aj xk3_3 xo3 xt3 (.inl rfl)) (ah xa1 xK1 (aj xk3_1 xo3 xt3 (.inr vnx3_1)) (ah xa2 xK2 (aj xk3_2 xo3 xt3 (.inr vnx3_2)) (ah xa5 xK5 (aj xk3_5 xo3 xt3 (.inr vnx3_5)) (ah xa4 xK4 (aj xk3_4 xo3 xt3 (.inr vnx3_4)) (ah xa6 xK6 (aj xk3_6 xo3 xt3 (.inr vnx3_6)) cf)))))))⟩
 have z7:cm K mg "NoKind" [("NoTable",false),("NoField",false),("Twice",false),("NoKind",true),("Nothing",false),("NoKey",false),("TooMany",false),("Blind",false)]:=⟨_,Ql X G xa1,ah xa0 xK0 (aj xk1_0 xo1 xt1 (.inr vnx1_0)) (ah xa7 xK7 (aj xk1_7 xo1 xt1 (.inr vnx1_7)) (ah xa3 xK3 (aj xk1_3 xo1 xt1 (.inr vnx1_3)) (ah xa1 xK1 (aj xk1_1 xo1 xt1 (.inl rfl)) (ah xa2 xK2 (aj xk1_2 xo1 xt1 (.inr vnx1_2)) (ah xa5 xK5 (aj xk1_5 xo1 xt1 (.inr vnx1_5)) (ah xa4 xK4 (aj xk1_4 xo1 xt1 (.inr vnx1_4)) (ah xa6 xK6 (aj xk1_6 xo1 xt1 (.inr vnx1_6)) cf)))))))⟩
 have wI:cm K mg "NoField" [("NoTable",false),("NoField",true),("Twice",false),("NoKind",false),("Nothing",false),("NoKey",false),("TooMany",false),("Blind",false)]:=⟨_,Ql X G xa7,ah xa0 xK0 (aj xk7_0 xo7 xt7 (.inr vnx7_0)) (ah xa7 xK7 (aj xk7_7 xo7 xt7 (.inl rfl)) (ah xa3 xK3 (aj xk7_3 xo7 xt7 (.inr vnx7_3)) (ah xa1 xK1 (aj xk7_1 xo7 xt7 (.inr vnx7_1)) (ah xa2 xK2 (aj xk7_2 xo7 xt7 (.inr vnx7_2)) (ah xa5 xK5 (aj xk7_5 xo7 xt7 (.inr vnx7_5)) (ah xa4 xK4 (aj xk7_4 xo7 xt7 (.inr vnx7_4)) (ah xa6 xK6 (aj xk7_6 xo7 xt7 (.inr vnx7_6)) cf)))))))⟩
 have De:cm K mg "NoKey" [("NoTable",false),("NoField",false),("Twice",false),("NoKind",false),("Nothing",false),("NoKey",true),("TooMany",false),("Blind",false)]:=⟨_,Ql X G xa5,ah xa0 xK0 (aj xk5_0 xo5 xt5 (.inr vnx5_0)) (ah xa7 xK7 (aj xk5_7 xo5 xt5 (.inr vnx5_7)) (ah xa3 xK3 (aj xk5_3 xo5 xt5 (.inr vnx5_3)) (ah xa1 xK1 (aj xk5_1 xo5 xt5 (.inr vnx5_1)) (ah xa2 xK2 (aj xk5_2 xo5 xt5 (.inr vnx5_2)) (ah xa5 xK5 (aj xk5_5 xo5 xt5 (.inl rfl)) (ah xa4 xK4 (aj xk5_4 xo5 xt5 (.inr vnx5_4)) (ah xa6 xK6 (aj xk5_6 xo5 xt5 (.inr vnx5_6)) cf)))))))⟩
 have ye:cm K mg "NoTable" [("NoTable",true),("NoField",false),("Twice",false),("NoKind",false),("Nothing",false),("NoKey",false),("TooMany",false),("Blind",false)]:=⟨_,Ql X G xa0,ah xa0 xK0 (aj xk0_0 xo0 xt0 (.inl rfl)) (ah xa7 xK7 (aj xk0_7 xo0 xt0 (.inr vnx0_7)) (ah xa3 xK3 (aj xk0_3 xo0 xt0 (.inr vnx0_3)) (ah xa1 xK1 (aj xk0_1 xo0 xt0 (.inr vnx0_1)) (ah xa2 xK2 (aj xk0_2 xo0 xt0 (.inr vnx0_2)) (ah xa5 xK5 (aj xk0_5 xo0 xt0 (.inr vnx0_5)) (ah xa4 xK4 (aj xk0_4 xo0 xt0 (.inr vnx0_4)) (ah xa6 xK6 (aj xk0_6 xo0 xt0 (.inr vnx0_6)) cf)))))))⟩
 have AY:cm K mg "NoForm" [("NoTable",false),("NoField",false),("Twice",false),("NoKind",false),("Nothing",false),("NoKey",false),("TooMany",false),("Blind",false)]:=⟨_,Ql X G xa9,ah xa0 xK0 (aj xk9_0 xo9 xt9 (.inr vnx9_0)) (ah xa7 xK7 (aj xk9_7 xo9 xt9 (.inr vnx9_7)) (ah xa3 xK3 (aj xk9_3 xo9 xt9 (.inr vnx9_3)) (ah xa1 xK1 (aj xk9_1 xo9 xt9 (.inr vnx9_1)) (ah xa2 xK2 (aj xk9_2 xo9 xt9 (.inr vnx9_2)) (ah xa5 xK5 (aj xk9_5 xo9 xt9 (.inr vnx9_5)) (ah xa4 xK4 (aj xk9_4 xo9 xt9 (.inr vnx9_4)) (ah xa6 xK6 (aj xk9_6 xo9 xt9 (.inr vnx9_6)) cf)))))))⟩
 have xU:cm K mg "TooMany" [("NoTable",false),("NoField",false),("Twice",false),("NoKind",false),("Nothing",false),("NoKey",false),("TooMany",true),("Blind",false)]:=⟨_,Ql X G xa4,ah xa0 xK0 (aj xk4_0 xo4 xt4 (.inr vnx4_0)) (ah xa7 xK7 (aj xk4_7 xo4 xt4 (.inr vnx4_7)) (ah xa3 xK3 (aj xk4_3 xo4 xt4 (.inr vnx4_3)) (ah xa1 xK1 (aj xk4_1 xo4 xt4 (.inr vnx4_1)) (ah xa2 xK2 (aj xk4_2 xo4 xt4 (.inr vnx4_2)) (ah xa5 xK5 (aj xk4_5 xo4 xt4 (.inr vnx4_5)) (ah xa4 xK4 (aj xk4_4 xo4 xt4 (.inl rfl)) (ah xa6 xK6 (aj xk4_6 xo4 xt4 (.inr vnx4_6)) cf)))))))⟩
 have wB:cm K mg "Nothing" [("NoTable",false),("NoField",false),("Twice",false),("NoKind",false),("Nothing",true),("NoKey",false),("TooMany",false),("Blind",false)]:=⟨_,Ql X G xa2,ah xa0 xK0 (aj xk2_0 xo2 xt2 (.inr vnx2_0)) (ah xa7 xK7 (aj xk2_7 xo2 xt2 (.inr vnx2_7)) (ah xa3 xK3 (aj xk2_3 xo2 xt2 (.inr vnx2_3)) (ah xa1 xK1 (aj xk2_1 xo2 xt2 (.inr vnx2_1)) (ah xa2 xK2 (aj xk2_2 xo2 xt2 (.inl rfl)) (ah xa5 xK5 (aj xk2_5 xo2 xt2 (.inr vnx2_5)) (ah xa4 xK4 (aj xk2_4 xo2 xt2 (.inr vnx2_4)) (ah xa6 xK6 (aj xk2_6 xo2 xt2 (.inr vnx2_6)) cf)))))))⟩
 have BE:cm K mg "Blind" [("NoTable",false),("NoField",false),("Twice",false),("NoKind",false),("Nothing",false),("NoKey",false),("TooMany",false),("Blind",true)]:=⟨_,Ql X G xa6,ah xa0 xK0 (aj xk6_0 xo6 xt6 (.inr vnx6_0)) (ah xa7 xK7 (aj xk6_7 xo6 xt6 (.inr vnx6_7)) (ah xa3 xK3 (aj xk6_3 xo6 xt6 (.inr vnx6_3)) (ah xa1 xK1 (aj xk6_1 xo6 xt6 (.inr vnx6_1)) (ah xa2 xK2 (aj xk6_2 xo6 xt6 (.inr vnx6_2)) (ah xa5 xK5 (aj xk6_5 xo6 xt6 (.inr vnx6_5)) (ah xa4 xK4 (aj xk6_4 xo6 xt6 (.inr vnx6_4)) (ah xa6 xK6 (aj xk6_6 xo6 xt6 (.inl rfl)) cf)))))))⟩
 have Gh:cm K mg "Torn" [("NoTable",false),("NoField",false),("Twice",false),("NoKind",false),("Nothing",false),("NoKey",false),("TooMany",false),("Blind",false)]:=⟨_,Ql X G xa10,ah xa0 xK0 (aj xk10_0 xo10 xt10 (.inr vnx10_0)) (ah xa7 xK7 (aj xk10_7 xo10 xt10 (.inr vnx10_7)) (ah xa3 xK3 (aj xk10_3 xo10 xt10 (.inr vnx10_3)) (ah xa1 xK1 (aj xk10_1 xo10 xt10 (.inr vnx10_1)) (ah xa2 xK2 (aj xk10_2 xo10 xt10 (.inr vnx10_2)) (ah xa5 xK5 (aj xk10_5 xo10 xt10 (.inr vnx10_5)) (ah xa4 xK4 (aj xk10_4 xo10 xt10 (.inr vnx10_4)) (ah xa6 xK6 (aj xk10_6 xo10 xt10 (.inr vnx10_6)) cf)))))))⟩
 have C5:cm K mg "Stale" [("NoTable",false),("NoField",false),("Twice",false),("NoKind",false),("Nothing",false),("NoKey",false),("TooMany",false),("Blind",false)]:=⟨_,Ql X G xa11,ah xa0 xK0 (aj xk11_0 xo11 xt11 (.inr vnx11_0)) (ah xa7 xK7 (aj xk11_7 xo11 xt11 (.inr vnx11_7)) (ah xa3 xK3 (aj xk11_3 xo11 xt11 (.inr vnx11_3)) (ah xa1 xK1 (aj xk11_1 xo11 xt11 (.inr vnx11_1)) (ah xa2 xK2 (aj xk11_2 xo11 xt11 (.inr vnx11_2)) (ah xa5 xK5 (aj xk11_5 xo11 xt11 (.inr vnx11_5)) (ah xa4 xK4 (aj xk11_4 xo11 xt11 (.inr vnx11_4)) (ah xa6 xK6 (aj xk11_6 xo11 xt11 (.inr vnx11_6)) cf)))))))⟩
 have AU:cm K mg "NoPane" [("NoTable",false),("NoField",false),("Twice",false),("NoKind",false),("Nothing",false),("NoKey",false),("TooMany",false),("Blind",false)]:=⟨_,Ql X G xa12,ah xa0 xK0 (aj xk12_0 xo12 xt12 (.inr vnx12_0)) (ah xa7 xK7 (aj xk12_7 xo12 xt12 (.inr vnx12_7)) (ah xa3 xK3 (aj xk12_3 xo12 xt12 (.inr vnx12_3)) (ah xa1 xK1 (aj xk12_1 xo12 xt12 (.inr vnx12_1)) (ah xa2 xK2 (aj xk12_2 xo12 xt12 (.inr vnx12_2)) (ah xa5 xK5 (aj xk12_5 xo12 xt12 (.inr vnx12_5)) (ah xa4 xK4 (aj xk12_4 xo12 xt12 (.inr vnx12_4)) (ah xa6 xK6 (aj xk12_6 xo12 xt12 (.inr vnx12_6)) cf)))))))⟩
 have yR:cm K mg "NoText" [("NoTable",false),("NoField",false),("Twice",false),("NoKind",false),("Nothing",false),("NoKey",false),("TooMany",false),("Blind",false)]:=⟨_,Ql X G xa13,ah xa0 xK0 (aj xk13_0 xo13 xt13 (.inr vnx13_0)) (ah xa7 xK7 (aj xk13_7 xo13 xt13 (.inr vnx13_7)) (ah xa3 xK3 (aj xk13_3 xo13 xt13 (.inr vnx13_3)) (ah xa1 xK1 (aj xk13_1 xo13 xt13 (.inr vnx13_1)) (ah xa2 xK2 (aj xk13_2 xo13 xt13 (.inr vnx13_2)) (ah xa5 xK5 (aj xk13_5 xo13 xt13 (.inr vnx13_5)) (ah xa4 xK4 (aj xk13_4 xo13 xt13 (.inr vnx13_4)) (ah xa6 xK6 (aj xk13_6 xo13 xt13 (.inr vnx13_6)) cf)))))))⟩
 have V_ValueError:rV K (.type "ValueError") [("NoTable",true),("NoField",true),("Twice",true),("NoKind",true),("Nothing",true),("NoKey",true),("TooMany",true),("Blind",true)]:=ah xa0 xK0 (iw xv_ValueError_0) (ah xa7 xK7 (iw xv_ValueError_7) (ah xa3 xK3 (iw xv_ValueError_3) (ah xa1 xK1 (iw xv_ValueError_1) (ah xa2 xK2 (iw xv_ValueError_2) (ah xa5 xK5 (iw xv_ValueError_5) (ah xa4 xK4 (iw xv_ValueError_4) (ah xa6 xK6 (iw xv_ValueError_6) cf)))))));have N_Join:A4 K mg "Join":=⟨_,ac5,⟨m5,o5,kp5⟩,Ql X G ac5⟩
 have Gf:=xr (P:=l.prog) (w:=w) (base:=base) ac0 ⟨m0,a18,i18,kp0⟩ cl0 (by intro g hg;simp only[Oz,Pj,or_false]at hg;rcases hg with rfl;exact n0_0) F18 b18 (Ql X G ac0);have Am:=tq (P:=l.prog) (w:=w) (base:=base) ac4 ⟨m4,a19,i19,kp4⟩ cl4 (by intro g hg;simp only[Oz,Pj,or_false]at hg;rcases hg with rfl|rfl<;>first|exact n4_0|exact n4_1) F19 b19 (Ql X G ac4);have EV:=x6 (P:=l.prog) (w:=w) (base:=base) ac2 ⟨m2,a20,i20,kp2⟩ cl2 (by intro g hg;simp only[Oz,Pj,or_false]at hg;rcases hg with rfl|rfl|rfl<;>first|exact n2_0|exact n2_1|exact n2_2) F20 b20 (Ql X G ac2);have ER:=wZ (P:=l.prog) (w:=w) (base:=base) ac1 ⟨m1,a21,i21,kp1⟩ cl1 (by intro g hg;simp only[Oz,Pj,or_false]at hg;rcases hg with rfl|rfl<;>first|exact n1_0|exact n1_1) F21 b21 (Ql X G ac1);have Et:=yy (P:=l.prog) (w:=w) (base:=base) ac3 ⟨m3,a22,i22,kp3⟩ cl3 (by intro g hg;simp only[Oz,Pj,or_false]at hg;rcases hg with rfl|rfl<;>first|exact n3_0|exact n3_1) F22 b22 (Ql X G ac3)
 let u:U:=⟨l.prog,w,K,mg,base,(0:Nat),(0:Nat)⟩
 have q0:Q0 u:=⟨⟨⟨⟨⟨⟨⟨⟨⟨⟨⟨⟨⟨⟨⟨⟨⟨⟨⟨⟨⟨⟨⟨⟨⟨⟨⟨⟨⟨⟨⟨⟨⟨⟨⟨⟨⟨⟨⟨⟨⟨⟨⟨⟨⟨⟨⟨⟨⟨⟨⟨⟨⟨⟨⟨⟨⟨⟨⟨(I0.of X G (I0.of X G (Zs.of X G zz) dd0) dd1),c_MOST_FIELDS⟩,qD⟩,oH⟩,su⟩,oG⟩,qX⟩,oF⟩,oB⟩,oj⟩,qG⟩,rG⟩,Gf⟩,Am⟩,EV⟩,ER⟩,Et⟩,N_Join⟩,Y_Over⟩,Y_Both⟩,RI_Blind⟩,E_NoTable⟩,E_NoKind⟩,E_Nothing⟩,E_Twice⟩,E_TooMany⟩,E_NoKey⟩,E_NoField⟩,T_GlassError⟩,C6⟩,z7⟩,wI⟩,De⟩,ye⟩,AY⟩,xU⟩,wB⟩,BE⟩,Gh⟩,C5⟩,AU⟩,yR⟩,V_ValueError⟩,⟨_,_,_,ac0,cl0,⟨a0,i0,k0⟩,F0⟩⟩,⟨_,_,_,ac1,cl1,⟨a1,i1,k1⟩,F1⟩⟩,⟨_,_,_,ac2,cl2,⟨a2,i2,k2⟩,F2⟩⟩,⟨_,_,_,ac0,cl0,⟨a3,i3,k3⟩,F3⟩⟩,⟨_,_,_,ac5,cl5,⟨a4,i4,k4⟩,F4⟩⟩,⟨_,_,_,ac0,cl0,⟨a5,i5,k5⟩,F5⟩⟩,⟨_,_,_,ac1,cl1,⟨a6,i6,k6⟩,F6⟩⟩,⟨_,_,_,ac2,cl2,⟨a7,i7,k7⟩,F7⟩⟩,⟨_,_,_,ac3,cl3,⟨a8,i8,k8⟩,F8⟩⟩,⟨_,_,_,ac4,cl4,⟨a9,i9,k9⟩,F9⟩⟩,⟨_,_,_,ac1,cl1,⟨a10,i10,k10⟩,F10⟩⟩,⟨_,_,_,ac2,cl2,⟨a11,i11,k11⟩,F11⟩⟩,⟨_,_,_,ac3,cl3,⟨a12,i12,k12⟩,F12⟩⟩,⟨_,_,_,ac4,cl4,⟨a13,i13,k13⟩,F13⟩⟩,⟨_,_,_,ac3,cl3,⟨a14,i14,k14⟩,F14⟩⟩,⟨_,_,_,ac3,cl3,⟨a15,i15,k15⟩,F15⟩⟩,⟨_,_,_,ac4,cl4,⟨a16,i16,k16⟩,F16⟩⟩
 exact Iu (u:=u) F17 (MV (Mx (Mf (MS (Ml (LW (M5 (LU (MB (LQ (My (LK (Mz (M4 (Mp (MO (Mj (Md (LY (MQ (MN (Mi (Mw (MG (LV (Mo (MX (M6 (MK (LZ (Mg (LJ (Ms (M0 (ME (Jy (e20 (ML (MY (L7 (LO (Mm (MT (MR (Mr (IC (e10 (e9 (e8 (e7 (e6 (e5 (e4 (e3 (e2 (e1 q0))))))))))))))))))))))))))))))))))))))))))))))))))))))))
theorem walk{l:PZ}{q:QT}{loose:av}{XP:(bF)->QV->Prop}{YP:QS->QV->Prop}{d:DefRec}{K:Params->Pn}(hn:l.most=some 63)(hdf:d.params.defaults=[])
  (hY:∀(w:QS)(h:QV),YP w h->(K w.params).In h)
  (F:∀ (w:QS) (mg:bF) (fa:QO) (h:QV),(K w.params).In h->h.Ns QX mg->mg d.name=some (.ref fa) ->
   ∃fd:RH,(∀(s:QR)(u:QM),RJ s fd ⟨[u],[]⟩ [("_law_script",u)])/\∀base:QV,(K w.params).In base->base.Ns QX mg->eW l.prog w (K w.params) mg base (jM l.prog w) 31 fa fd ["_law_script"] (yg (K w.params) 1 (au kn 1 11)))
  (math:∀ns:List Int,ns.length<=63->au kn 1 11 [.lst (ns.map .int)]=.ok (.bl true)):PySem.W.WalkO q loose XP YP l.row.toRowW d [] (λf vs=>PySem.call f vs):=
 L2.IP (n:=63) (k:=31) (x:="_law_script") (CX:=λw=>jM l.prog w) (sp:=λw=>yg (K w.params) 1 (au kn 1 11)) hn (by decide) hdf ⟨rfl,by decide,by decide⟩ hY F
  (λw H a ns hl _ hS=>⟨[],[.lst (ns.map .int)],rfl,⟨trivial,λa h=>nomatch h⟩,by rw[CF];exact aI.mpr ⟨.ref a,[],rfl,bP.mpr ⟨a,_,rfl,hS,oW ns⟩,bB.mpr rfl⟩,by rw[math ns hl];exact λv H' _ d=>gF.mp d⟩) λ_ _ _ _ _ z=>by obtain⟨_,_,_,_,_,_,_,_,_,_,_,_,_,_,z⟩:=z;exact z
end Tk84
namespace Tk84
open PySem PySem.Spec L2 TG TD
local macro_rules|`(‹$x›)=>do if x.raw.isOfKind `num then Lean.Macro.throwUnsupported else `(some (S.val $x))
local macro_rules
 |`(tactic| simp! only[$xs,*])=>`(tactic| simp only[fh,vE,vd,vq,lF,eM,ge_0,BX,qt,DM,qT,lU,qm,qF,CG,BU,Dx,CC,CB,qf,qi,vR,jP,mH,qg,mr,vk,rC,qV,mx,qW,j7,qd,ku,ka,jg,ji,qI,mi,jb,mh,jT,my,mw,fM,lY,kB,qC,kA,jR,gH,lX,mG,Dg,vK,Ds,DA,Cz,rp,mK,qY,lW,mE,Bx,BL,Pa,Pb,Nx,NX,N6,Ol,K0,env0,List.replicate,OS,ND,OI,Nat.reduceAdd,Nat.reduceSub,Nw,N0,qv,ra,vg,qu,rm,qE,je,qQ,vG,vw,v6,qK,jC,kj,j9,kz,j6,jH,vn,ve,vj,vD,vO,wl,ky,jJ,hJ,gU,qB,jc,hW,gR,gL,qe,qN,gI,hX,j4,jZ,mC,mj,jE,lZ,qS,rh,md,mm,gN,if_true,if_false,OV,Pg,N5,$xs,*])
theorem gm(j:Int)(h:0<j:=by decide):∀i:Int,gB (.int i) (.int j)=some (.int (i%j)):=λi=>fi (i:=i) h
theorem gd(j:Int)(h:0<j:=by decide)(h':j<10^200:=by decide):∀i:Int,rq (.int i) (.int j)=some (.int (i/j)):=λi=>mL (i:=i) h h'
theorem DR(a c:Bool):(if a=true then(.ok true:R Bool)else .ok c)=.ok (a||c):=by cases a<;>rfl
theorem fY(c:Str)(f:aQ)(k:Ks)(ρ:ao):dF c f k ρ=kZ (f ρ) k ρ λds=>if small ds.length then k.ex ⟨c,[],[]⟩ ρ else un:=nr rfl
theorem gz(f:FX)(k:Ks)(ρ:ao):pI f k ρ=kZ (f ρ) k ρ λ_=>k.nx ρ:=nr rfl
theorem mF(cs:av)(i:Nat)(F Fh:bw)(k:Ks)(ρ:ao):xf cs i F Fh k ρ=F {k with ex:=λx ρ1=>if cs.contains x.c=true then Fh (G0 i k) (setV i (.exc x.c x.fs x.vs) ρ1)else un} ρ:=nr rfl
theorem Iq:small (0+1)=true:=by rfl
theorem ug:(("number":Str)==("number":Str))=true:=by decide +kernel
theorem Bf:(("number":Str)==("rows":Str))=false:=by decide +kernel
noncomputable abbrev num(lo hi:Int):D:=.tup [.str "number",.int lo,.int hi]
noncomputable abbrev frm(kf rf:List D):D:=.tup [.tup kf,.tup rf]
theorem eR(kf rf:List D)(ps:List (Str×D))(hl:ps.length<=100)(e:kf++rf=ps.map fld)(hn:(ps.map (·.1)).Nodup)(i:Nat)(nm:Str)(k:D)(hi:ps[i]?=some (nm,k)):
  au cg 2 4 [.tup [.tup kf,.tup rf],.str nm]=.ok (.int i):=by
 have en:=gA kf rf ps hl e;rw[bq];unfold cg;rw[fM,gH];simp! only[en,o8];have di:(eY 0 (ps.map λp=>D.str p.1))[i]?=some (.tup [.int ((i:Nat):Int),.str nm]):=by
  rw[j0,NP,hi,OI];rfl
 refine kW (Q:=λz=>z=.ok (.int i)) (λ_ ρ=>ρ=[‹.tup [.tup kf,.tup rf]›,‹.str nm›,none,none]) _ 0 i _ _ di ?_ rfl ?_
 ·rintro j d ρ k' hj hd rfl;rw[j0,NP]at hd;have hil:=kM hi;have hjl:j<ps.length:=by omega
  rw[Oe hjl]at hd;cases hd;have ne:(ps[j].1==nm)=false:=by
   have h1:=List.pairwise_iff_getElem.mp hn j i (by rw[Ny];exact hjl) (by rw[Ny];exact hil) hj;rw[List.getElem_map,List.getElem_map]at h1;have h2:ps[i]=(nm,k):=(by rw[Oe hil]at hi;exact Option.some.inj hi);rw[h2]at h1
   simpa using h1
  refine⟨[‹.tup [.tup kf,.tup rf]›,‹.str nm›,‹.int ((0+j:Nat):Int)›,‹.str ps[j].1›],_,rfl,rfl,?_⟩;simp! only[ne]
 ·rintro ρ k' rfl;refine⟨[‹.tup [.tup kf,.tup rf]›,‹.str nm›,‹.int (i:Int)›,‹.str nm›],rfl,?_⟩;simp! only[BEq.rfl]
theorem nY(kf rf:List D)(ps:List (Str×D))(hl:ps.length<=100)(e:kf++rf=ps.map fld)(nm:Str)(hm:nm∉ps.map (·.1)):
  au cg 2 4 [.tup [.tup kf,.tup rf],.str nm]=.error (some ⟨"NoField",[],[]⟩):=by
 have en:=gA kf rf ps hl e;rw[bq];unfold cg;rw[fM,gH];simp! only[en,o8];refine p9 (Q:=λz=>z=.error (some ⟨"NoField",[],[]⟩)) (λ_ ρ=>ρ=[‹.tup [.tup kf,.tup rf]›,‹.str nm›,none,none]) ?_ rfl ?_
 ·rintro j d ρ k' hd rfl;rw[j0,NP]at hd;have hjl:j<ps.length:=by
   rcases O7 j ps.length with z|z
   ·exact z
   ·rw[O6 z]at hd;cases hd
  rw[Oe hjl]at hd;cases hd;have ne:(ps[j].1==nm)=false:=by
   have:ps[j].1≠nm:=λz=>hm (by rw[<-z];exact List.mem_map_of_mem (List.getElem_mem hjl))
   simpa using this
  refine⟨[‹.tup [.tup kf,.tup rf]›,‹.str nm›,‹.int ((0+j:Nat):Int)›,‹.str ps[j].1›],_,rfl,rfl,?_⟩;simp! only[ne]
 ·rintro ρ rfl;simp! only[fY,Iq]
theorem cK(m:Str)(tbl:List (Str×(bE)))(c:Str)(fs:av)(vs:List D)(g:bE)(fo:FX)(fas:aQ)(ρ:ao)(h:fo ρ=.ok (.obj c fs vs))(l:tbl.lookup c=some g)(hm:fs.contains m=false):bf m tbl fo fas ρ=(fas ρ).bind λas=>g (.obj c fs vs::as):=by
 unfold bf;rw[h,fh];simp only[l,hm];rfl
noncomputable abbrev oR(o n:Str):D:=.obj "Rename" ["old","new"] [.str o,.str n]
noncomputable abbrev oD(a:Str)(v:D):D:=.obj "Drop" ["name","value"] [.str a,v]
noncomputable abbrev oJ:D:=.obj "Join" [] []
noncomputable abbrev leaf(t:Str):D:=.obj "Leaf" ["name"] [.str t]
noncomputable abbrev over(g s:D):D:=.obj "Over" ["glass","step"] [g,s]
noncomputable abbrev cn(a b p:D):D:=.obj "Both" ["one","other","pair"] [a,b,p]
noncomputable abbrev Jz:List (Str×(bE)):=[("Drop",(au aJ 2 4)),("Rename",(au aC 2 3))]
noncomputable abbrev GL(ro rb:bE):List (Str×(bE)):=[("Leaf",(au aV 2 2)),("Over",ro),("Both",rb)]
noncomputable def So(s:D)(g:bE):Prop:=∃c fs vs,s=.obj c fs vs/\Jz.lookup c=some g/\fs.contains ("view_form":Str)=false
noncomputable def Go(n:Nat)(s:D)(g:bE):Prop:=∃c fs vs,s=.obj c fs vs/\(GL (aA n) (aB n)).lookup c=some g/\fs.contains ("form":Str)=false
theorem uB(o n:Str):So (oR o n) (au aC 2 3):=⟨_,_,_,rfl,by kernel_rfl,by decide +kernel⟩
theorem Iw(a:Str)(v:D):So (oD a v) (au aJ 2 4):=⟨_,_,_,rfl,by kernel_rfl,by decide +kernel⟩
theorem Ic(n:Nat)(t:Str):Go n (leaf t) (au aV 2 2):=⟨_,_,_,rfl,by kernel_rfl,by decide +kernel⟩
theorem Kd(n:Nat)(g s:D):Go n (over g s) (aA n):=⟨_,_,_,rfl,by kernel_rfl,by decide +kernel⟩
theorem Gj(n:Nat)(a b p:D):Go n (cn a b p) (aB n):=⟨_,_,_,rfl,by kernel_rfl,by decide +kernel⟩
theorem Go.meth{n:Nat}{g:D}{gf:bE}(h:Go n g gf)(fo:FX)(fas:aQ)(ρ:ao)(e:fo ρ=.ok g):bf "form" (GL (aA n) (aB n)) fo fas ρ=(fas ρ).bind λas=>gf (g::as):=by
 obtain⟨c,fs,vs,rfl,l,hm⟩:=h;exact cK "form" _ c fs vs gf fo fas ρ e l hm
theorem So.meth{s:D}{g:bE}(h:So s g)(fo:FX)(fas:aQ)(ρ:ao)(e:fo ρ=.ok s):bf "view_form" Jz fo fas ρ=(fas ρ).bind λas=>g (s::as):=by
 obtain⟨c,fs,vs,rfl,l,hm⟩:=h;exact cK "view_form" _ c fs vs g fo fas ρ e l hm
theorem yL(r:R D)(ρ:ao):kZ r {nx:=λ_=>.ok D.non} ρ .ok=r:=by
 cases r with
 |ok d=>rfl
 |error x=>cases x<;>rfl
noncomputable def Fm(n:Nat)(g fs:D)(r:R D):Prop:=∃gf,Go n g gf/\gf [g,fs]=r
theorem j3(g s:D):aX "glass" ["Over"] (over g s)=some g:=by rfl
theorem qj(g s:D):aX "step" ["Over"] (over g s)=some s:=by rfl
theorem qP(a b p:D):aX "one" ["Both"] (cn a b p)=some a:=by rfl
theorem n5(a b p:D):aX "other" ["Both"] (cn a b p)=some b:=by rfl
theorem Dv(a b p:D):aX "pair" ["Both"] (cn a b p)=some p:=by rfl
section
variable{n:Nat}{g fs s:D}{gv:bE}
theorem v7{r:R D}(h:Fm n g fs r)(hs:So s gv):Fm (n+1) (over g s) fs (r.bind λf=>gv [s,f]):=by
 obtain⟨gf,hg,e⟩:=h;refine⟨_,Kd _ _ _,?_⟩;have m1:=hs.meth (f1 (aX "step" ["Over"]) (af 0)) (aa (bf "form" (GL (aA n) (aB n)) (f1 (aX "glass" ["Over"]) (af 0)) (aa (af 1) ai)) ai) [‹over g s›,‹fs›] (by simp! only[qj]);have m2:=hg.meth (f1 (aX "glass" ["Over"]) (af 0)) (aa (af 1) ai) [‹over g s›,‹fs›] (by simp! only[j3]);rw[dN,bq];unfold fH;cases r with
 |ok f=>simp! only[m1,m2,e,yL]
 |error x=>simp! only[m1,m2,e,yL]
theorem gV{f:D}(h:Fm n g fs (.ok f))(hs:So s gv):Fm (n+1) (over g s) fs (gv [s,f]):=v7 h hs
theorem tP{x:Option Ex}(h:Fm n g fs (.error x))(hs:So s gv):Fm (n+1) (over g s) fs (.error x):=v7 h hs
end
theorem rN{m:Nat}{a b p fs:D}{x:Ex}(ha:Fm m a fs (.error (some x))):Fm (m+1) (cn a b p) fs (.error (some x)):=by
 obtain⟨gf,hg,e⟩:=ha;refine⟨_,Gj _ _ _ _,?_⟩;have m1:=hg.meth (f1 (aX "one" ["Both"]) (af 0)) (aa (af 1) ai) [‹cn a b p›,‹fs›,none,none,none] (by simp! only[qP]);rw[cy,bq];unfold dC;simp! only[m1,e]
noncomputable abbrev sG:List (Str×(bE)):=[("Leaf",(au aL 1 1)),("Over",(ay 12)),("Both",(aE 12))]
structure Nm(n:Nat->Str):Prop where
 inj:∀j k:Nat,j<9->k<9->n j=n k->j=k
theorem Nm.ne{n:Nat->Str}(h:Nm n){j k:Nat}(hj:j<9:=by decide)(hk:k<9:=by decide)(hjk:j≠k:=by decide):n j≠n k:=λe=>hjk (h.inj j k hj hk e)
noncomputable abbrev Ls(n:Nat->Str):D:=.lst [.str (n 0),.str (n 1),.str (n 2),.str (n 3),.str (n 4),.str (n 5),.str (n 6),.str (n 7),.str (n 8)]
theorem sX(c:Int):∃n:Nat->Str,Nm n/\au bG 2 10 [.int c,.int 9]=.ok (Ls n):=by
 obtain⟨ws,h1,_,h3,e⟩:=Bj c 9 (by decide);have e:au bG 2 10 [.int c,.int 9]=.ok (.lst (ws.map .str)):=e;have nd:=h3 (by decide);refine⟨λk=>ws.getD k "",⟨λj k hj hk z=>?_⟩,?_⟩
 ·have z:ws.getD j ""=ws.getD k "":=z;rw[O8,O8,Oe ‹0›,Oe ‹0›]at z;have pw:=List.pairwise_iff_getElem.mp nd;rcases Nat.lt_trichotomy j k with a|a|a
  ·exact absurd z (pw j k ‹0› ‹0› a)
  ·exact a
  ·exact absurd z.symm (pw k j ‹0› ‹0› a)
 ·rw[e]
  match ws,h1 with
  |[a,b,c,d,e,f,g,h,i],_=>rfl
theorem gg(al:List (Key×D))(t:Str):Ek (cN al) (.str t)=some (eB al (.inr t)):=by
 unfold Ek;show((kq (jq al) (al.map (·.2))).bind λal=>(keyOf (.str t)).map λq=>eB al q)=_;rw[oY];rfl
theorem rF(t:Str):aX "name" ["Leaf"] (leaf t)=some (.str t):=by rfl
theorem cu{al:List (Key×D)}{t:Str}{f:D}(m:Nat)(h:eB al (.inr t)=some f):Fm m (leaf t) (cN al) (.ok f):=by
 refine⟨_,Ic _ _,?_⟩;have g:=gg al t;rw[h]at g;have g1:eN (.str t) (cN al)=some (.bl false):=by unfold eN;rw[g];rfl
 have g2:pz (cN al) (.str t)=some f:=by unfold pz;rw[g];rfl
 rw[bq];unfold aV;generalize cN al=fs at *;simp! only[rF,g1,g2]
theorem lS{al:List (Key×D)}{t:Str}(m:Nat)(h:eB al (.inr t)=none):Fm m (leaf t) (cN al) (.error (some ⟨"NoTable",[],[]⟩)):=by
 refine⟨_,Ic _ _,?_⟩;have g:=gg al t;rw[h]at g;have g1:eN (.str t) (cN al)=some (.bl true):=by unfold eN;rw[g];rfl
 rw[bq];unfold aV;generalize cN al=fs at *;simp! only[rF,g1,fY,Iq]
theorem jW{al:List (Key×D)}{t:Str}{f:D}:eB ((.inr t,f)::al) (.inr t)=some f:=by
 unfold eB;rw[O3 (by simp)];rfl
theorem gw{al:List (Key×D)}{t u:Str}{f:D}(h:u≠t):eB ((.inr u,f)::al) (.inr t)=eB al (.inr t):=by
 unfold eB;rw[O5 (by simpa using λz=>h z)]
noncomputable abbrev F1(n:Nat->Str)(H:Int):D:=frm [fld (n 0,num 0 H)] [fld (n 1,num (-H) 0)]
noncomputable abbrev F2(n:Nat->Str)(H:Int):D:=frm [fld (n 2,num 0 H)] [fld (n 3,.tup [.str "word",.tup [.str "",.str "z"]])]
noncomputable abbrev FK(n:Nat->Str):D:=frm [fld (n 4,num 0 1),fld (n 0,num 0 0)] []
noncomputable abbrev yD(n t:Nat->Str)(H:Int):List (Key×D):=[(.inr (t 0),F1 n H),(.inr (t 1),F2 n H)]
noncomputable abbrev G8(n t:Nat->Str):List (Key×D):=[(.inr (t 0),FK n),(.inr (t 1),FK n),(.inr (t 2),FK n)]
section
variable{n t:Nat->Str}{H:Int}
theorem g0:eB (yD n t H) (.inr (t 0))=some (F1 n H):=jW
theorem g1(T:Nm t):eB (yD n t H) (.inr (t 1))=some (F2 n H):=by rw[gw T.ne];exact jW
theorem g2(T:Nm t):eB (yD n t H) (.inr (t 2))=none:=by rw[gw T.ne,gw T.ne];rfl
theorem k0:eB (G8 n t) (.inr (t 0))=some (FK n):=jW
theorem k2(T:Nm t):eB (G8 n t) (.inr (t 2))=some (FK n):=by rw[gw T.ne,gw T.ne];exact jW
theorem Bw(o x:Str):aX "old" ["Rename"] (oR o x)=some (.str o):=by rfl
theorem G7(o x:Str):aX "new" ["Rename"] (oR o x)=some (.str x):=by rfl
theorem B9(a:Str)(v:D):aX "name" ["Drop"] (oD a v)=some (.str a):=by rfl
theorem FY(a:Str)(v:D):aX "value" ["Drop"] (oD a v)=some v:=by rfl
theorem HB(N:Nm n):au aC 2 3 [oR (n 4) (n 5),F1 n H]=.error (some ⟨"NoField",[],[]⟩):=by
 have p:=nY [fld (n 0,num 0 H)] [fld (n 1,num (-H) 0)] [(n 0,num 0 H),(n 1,num (-H) 0)] (by show 2<=100;decide) rfl (n 4) (by
  have a:=N.ne (j:=4) (k:=0);have b:=N.ne (j:=4) (k:=1);simp[a,b])
 rw[bq];unfold aC;simp! only[Bw,p]
theorem bad2(N:Nm n):au aC 2 3 [oR (n 4) (n 5),F2 n H]=.error (some ⟨"NoField",[],[]⟩):=by
 have p:=nY [fld (n 2,num 0 H)] [fld (n 3,.tup [.str "word",.tup [.str "",.str "z"]])] [(n 2,num 0 H),(n 3,.tup [.str "word",.tup [.str "",.str "z"]])] (by show 2<=100;decide) rfl (n 4) (by
  have a:=N.ne (j:=4) (k:=2);have b:=N.ne (j:=4) (k:=3);simp[a,b])
 rw[bq];unfold aC;simp! only[Bw,p]
theorem Ly(w a b:Str):tX (.str w) (.tup [.str a,.str b])=some (.bl ([a,b].contains w)):=v9 w [a,b]
theorem DT(N:Nm n):au aC 2 3 [oR (n 1) (n 5),F1 n H]=.ok (frm [fld (n 0,num 0 H)] [fld (n 5,num (-H) 0)]):=by
 have a:=N.ne (j:=0) (k:=1);have e:([fld (n 0,num 0 H)]++[fld (n 1,num (-H) 0)]:List D)=[(n 0,num 0 H),(n 1,num (-H) 0)].map fld:=rfl;have p:=eR [fld (n 0,num 0 H)] [fld (n 1,num (-H) 0)] [(n 0,num 0 H),(n 1,num (-H) 0)] (by show 2<=100;decide) e (by simp[a]) 1 (n 1) _ rfl;have k:=fX [fld (n 0,num 0 H)] [fld (n 1,num (-H) 0)] [(n 0,num 0 H),(n 1,num (-H) 0)] (by show 2<=100;decide) e 1 (n 1) _ rfl;have nm:au cQ 1 1 [F1 n H]=.ok (.tup [.str (n 0),.str (n 1)]):=gA [fld (n 0,num 0 H)] [fld (n 1,num (-H) 0)] [(n 0,num 0 H),(n 1,num (-H) 0)] (by show 2<=100;decide) e;have w:au bH 3 3 [F1 n H,.int ((1:Nat):Int),.tup [fld (n 5,num (-H) 0)]]=.ok (frm [fld (n 0,num 0 H)] [fld (n 5,num (-H) 0)]):=kT [fld (n 0,num 0 H)] [fld (n 1,num (-H) 0)] [fld (n 5,num (-H) 0)] 1 (by show 1+1+1<=10000;decide);have c:[n 0,n 1].contains (n 5)=false:=by
  have b:=N.ne (j:=5) (k:=0);have c:=N.ne (j:=5) (k:=1);simp[b,c]
 rw[bq];unfold aC;simp! only[Bw,G7,p,nm,Ly,c,k,Bs,B1,w]
theorem Eh(N:Nm n):au aC 2 3 [oR (n 4) (n 5),FK n]=.ok (frm [fld (n 5,num 0 1),fld (n 0,num 0 0)] []):=by
 have a:=N.ne (j:=4) (k:=0);have e:([fld (n 4,num 0 1),fld (n 0,num 0 0)]++[]:List D)=[(n 4,num 0 1),(n 0,num 0 0)].map fld:=rfl;have p:=eR [fld (n 4,num 0 1),fld (n 0,num 0 0)] [] [(n 4,num 0 1),(n 0,num 0 0)] (by show 2<=100;decide) e (by simp[a]) 0 (n 4) _ rfl;have k:=fX [fld (n 4,num 0 1),fld (n 0,num 0 0)] [] [(n 4,num 0 1),(n 0,num 0 0)] (by show 2<=100;decide) e 0 (n 4) _ rfl;have nm:au cQ 1 1 [FK n]=.ok (.tup [.str (n 4),.str (n 0)]):=gA [fld (n 4,num 0 1),fld (n 0,num 0 0)] [] [(n 4,num 0 1),(n 0,num 0 0)] (by show 2<=100;decide) e;have w:au bH 3 3 [FK n,.int ((0:Nat):Int),.tup [fld (n 5,num 0 1)]]=.ok (frm [fld (n 5,num 0 1),fld (n 0,num 0 0)] []):=kT [fld (n 4,num 0 1),fld (n 0,num 0 0)] [] [fld (n 5,num 0 1)] 0 (by show 2+0+1<=10000;decide);have c:[n 4,n 0].contains (n 5)=false:=by
  have b:=N.ne (j:=5) (k:=4);have c:=N.ne (j:=5) (k:=0);simp[b,c]
 rw[bq];unfold aC;simp! only[Bw,G7,p,nm,Ly,c,k,Bs,B1,w]
theorem whole(m:Int):au eV 1 1 [.int m]=.ok (.bl true):=by
 have t1:BD "int" (.int m)=some (.bl true):=rfl;have t2:BD "bool" (.int m)=some (.bl false):=rfl;rw[eT];unfold eV;simp! only[t1,t2];rfl
theorem Ij(h:0<=H):cx 12 [num 0 H,.int 0]=.ok (.bl true):=by
 have w:=whole 0;have d0:decide ((0:Int)<=0)=true:=rfl;rw[iD,bq];unfold qw;simp! only[ug,w,d0,decide_eq_true h];rfl
theorem HJ(N:Nm n)(h:0<=H):au aJ 2 4 [oD (n 0) (.int 0),F1 n H]=.error (some ⟨"NoKey",[],[]⟩):=by
 have a:=N.ne (j:=0) (k:=1);have e:([fld (n 0,num 0 H)]++[fld (n 1,num (-H) 0)]:List D)=[(n 0,num 0 H),(n 1,num (-H) 0)].map fld:=rfl;have p:=eR [fld (n 0,num 0 H)] [fld (n 1,num (-H) 0)] [(n 0,num 0 H),(n 1,num (-H) 0)] (by show 2<=100;decide) e (by simp[a]) 0 (n 0) _ rfl;have k:=fX [fld (n 0,num 0 H)] [fld (n 1,num (-H) 0)] [(n 0,num 0 H),(n 1,num (-H) 0)] (by show 2<=100;decide) e 0 (n 0) _ rfl;have ik:au eh 2 2 [F1 n H,.int ((0:Nat):Int)]=.ok (.bl true):=gK [fld (n 0,num 0 H)] [fld (n 1,num (-H) 0)] 0;have f:=Ij h;have l1:fg [.tup [fld (n 0,num 0 H)]]=some (.int 1):=rfl;have IC:((1:Int)==1)=true:=rfl;have ck:au cR 2 6 [F1 n H,.int ((0:Nat):Int)]=.error (some ⟨"NoKey",[],[]⟩):=by
  rw[bq];unfold cR;simp! only[l1,IC,fY,Iq]
 rw[bq];unfold aJ;simp! only[B9,FY,p,k,DR,Bf,f,OV,Bool.or_self,ik,gz,ck]
theorem Lw:bW 12 [num 0 0]=.ok (.bl true):=by
 have e:((0:Int)==0)=true:=rfl;rw[fP,eT];unfold j8;simp! only[ug,e]
theorem Ee(N:Nm n):au aJ 2 4 [oD (n 0) (.int 0),FK n]=.ok (frm [fld (n 4,num 0 1)] []):=by
 have a:=N.ne (j:=4) (k:=0);have e:([fld (n 4,num 0 1),fld (n 0,num 0 0)]++[]:List D)=[(n 4,num 0 1),(n 0,num 0 0)].map fld:=rfl;have p:=eR [fld (n 4,num 0 1),fld (n 0,num 0 0)] [] [(n 4,num 0 1),(n 0,num 0 0)] (by show 2<=100;decide) e (by simp[a]) 1 (n 0) _ rfl;have k:=fX [fld (n 4,num 0 1),fld (n 0,num 0 0)] [] [(n 4,num 0 1),(n 0,num 0 0)] (by show 2<=100;decide) e 1 (n 0) _ rfl;have ik:au eh 2 2 [FK n,.int ((1:Nat):Int)]=.ok (.bl true):=gK [fld (n 4,num 0 1),fld (n 0,num 0 0)] [] 1;have w:au bH 3 3 [FK n,.int ((1:Nat):Int),.tup []]=.ok (frm [fld (n 4,num 0 1)] []):=kT [fld (n 4,num 0 1),fld (n 0,num 0 0)] [] [] 1 (by show 2+0+0<=10000;decide);have f:=Ij (H:=0) (by decide);have s:=Lw;have l2:fg [.tup [fld (n 4,num 0 1),fld (n 0,num 0 0)]]=some (.int 2):=rfl;have Jy:((2:Int)==1)=false:=rfl;have ck:au cR 2 6 [FK n,.int ((1:Nat):Int)]=.ok .non:=by
  rw[bq];unfold cR;simp! only[l2,Jy,k,s]
 rw[bq];unfold aJ;simp! only[B9,FY,p,k,DR,Bf,f,OV,Bool.or_self,ik,gz,ck,Hg,w]
end
theorem p8{m:Nat}{a b p fs f:D}{x:Ex}(ha:Fm m a fs (.ok f))(hb:Fm m b fs (.error (some x))):Fm (m+1) (cn a b p) fs (.error (some x)):=by
 obtain⟨gf,hg,e⟩:=ha;obtain⟨gf',hg',e'⟩:=hb;refine⟨_,Gj _ _ _ _,?_⟩;have m1:=λx2=>hg.meth (f1 (aX "one" ["Both"]) (af 0)) (aa (af 1) ai) [‹cn a b p›,‹fs›,x2,none,none] (by simp! only[qP]);have m2:=λx2=>hg'.meth (f1 (aX "other" ["Both"]) (af 0)) (aa (af 1) ai) [‹cn a b p›,‹fs›,x2,none,none] (by simp! only[n5]);rw[cy,bq];unfold dC;simp! only[m1,e,m2,e']
theorem Ht(t:Str):au aL 1 1 [leaf t]=.ok (.tup [.str t]):=by
 rw[eT];unfold aL;simp! only[rF,Bs]
theorem Mu(t:Str)(s:D):ay 12 [over (leaf t) s]=.ok (.tup [.str t]):=by
 have q:=cK "names" [("Leaf",(au aL 1 1)),("Over",(ay 11)),("Both",(aE 11))] "Leaf" ["name"] [.str t] (au aL 1 1) (f1 (aX "glass" ["Over"]) (af 0)) ai [‹over (leaf t) s›] (by simp! only[j3]) (by kernel_rfl) (by decide +kernel);rw[dG,eT];unfold eK;simp! only[q,Ht]
theorem in1(w a:Str):tX (.str w) (.tup [.str a])=some (.bl ([a].contains w)):=v9 w [a]
theorem HL(b:Bool):xq [.lst [.bl b]]=some (.bl b):=by cases b<;>rfl
theorem pY{m:Nat}{t u:Str}{fs f f':D}(ha:Fm m (leaf t) fs (.ok f))(hb:Fm m (leaf u) fs (.ok f')):Fm (m+1) (cn (leaf t) (leaf u) oJ) fs (if[t].contains u then .error (some ⟨"Twice",[],[]⟩)else au bg 3 5 [oJ,f,f']):=by
 obtain⟨gf,hg,e⟩:=ha;obtain⟨gf',hg',e'⟩:=hb;refine⟨_,Gj _ _ _ _,?_⟩;have m1:=λx2 x3=>hg.meth (f1 (aX "one" ["Both"]) (af 0)) (aa (af 1) ai) [‹cn (leaf t) (leaf u) oJ›,‹fs›,x2,x3,none] (by simp! only[qP]);have m2:=λx2 x3=>hg'.meth (f1 (aX "other" ["Both"]) (af 0)) (aa (af 1) ai) [‹cn (leaf t) (leaf u) oJ›,‹fs›,x2,x3,none] (by simp! only[n5]);have m3:=λx2 x3 x4=>cK "names" sG "Leaf" ["name"] [.str t] (au aL 1 1) (f1 (aX "one" ["Both"]) (af 0)) ai [‹cn (leaf t) (leaf u) oJ›,‹fs›,x2,x3,x4] (by simp! only[qP]) (by kernel_rfl) (by decide +kernel);have m4:=λx2 x3 x4=>cK "names" sG "Leaf" ["name"] [.str u] (au aL 1 1) (f1 (aX "other" ["Both"]) (af 0)) ai [‹cn (leaf t) (leaf u) oJ›,‹fs›,x2,x3,x4] (by simp! only[n5]) (by kernel_rfl) (by decide +kernel);have m5:=λx2 x3 x4=>cK "view_form" [("Join",(au bg 3 5))] "Join" [] [] (au bg 3 5) (f1 (aX "pair" ["Both"]) (af 0)) (aa (af 2) (aa (af 3) ai)) [‹cn (leaf t) (leaf u) oJ›,‹fs›,x2,x3,x4] (by simp! only[Dv]) (by kernel_rfl) (by decide +kernel);have f0:eE [none,some 4] (bj (bf "names" sG (f1 (aX "other" ["Both"]) (af 0)) ai)) (gN 0) bz (f2 tX (af 0) (af 1)) [‹cn (leaf t) (leaf u) oJ›,‹fs›,‹f›,‹f'›,‹.tup [.str t]›]=.ok (.lst [.bl ([t].contains u)]):=by
  refine dH (ds:=[.str u]) ?_ (by show 1<=100000;decide) ?_
  ·simp! only[m4,Ht]
  ·exact fA (λx:Str=>D.str x) (λ_=>.bl ([t].contains u)) [u] λx hx=>⟨_,rfl,rfl,by
    rw[List.mem_singleton.mp hx];simp! only[in1]⟩
 rw[cy,bq];unfold dC;cases c:[t].contains u with
 |true=>
  rw[c]at f0;simp! only[m1,e,m2,e',m3,Ht,f0,HL,fY,Iq]
 |false=>
  rw[c]at f0;simp! only[m1,e,m2,e',m3,Ht,f0,HL,m5,yL]
section
variable{n t:Nat->Str}{H:Int}
theorem M7(a:Str)(k x:D):eE [none] (bj (af 0)) (gN 0) bz (f2 ap (af 0) (fC (.int 0))) [‹.tup [fld (a,k)]›,‹x›,none]=.ok (.lst [.str a]):=by
 refine dH (ds:=[fld (a,k)]) (by simp! only[]) (by show 1<=100000;decide) ?_;exact fA (λx:Str=>fld (x,k)) (λx=>.str x) [a] λx hx=>⟨_,rfl,rfl,by simp! only[]⟩
theorem MF(a:Str)(k x:D):eE [none] (bj (af 1)) (gN 0) bz (f2 ap (af 0) (fC (.int 0))) [‹x›,‹.tup [fld (a,k)]›,none]=.ok (.lst [.str a]):=by
 refine dH (ds:=[fld (a,k)]) (by simp! only[]) (by show 1<=100000;decide) ?_;exact fA (λx:Str=>fld (x,k)) (λx=>.str x) [a] λx hx=>⟨_,rfl,rfl,by simp! only[]⟩
theorem J1(a b:Str)(h:a≠b):qa (.lst [.str a]) (.lst [.str b])=some (.bl true):=by
 have c:((pl (.lst [.str a])&&pl (.lst [.str b]))&&(dD 8 (.lst [.str a])||dD 8 (.lst [.str b])))=true:=rfl;have e:pyEq (.lst [.str a]) (.lst [.str b])=false:=by
  have:(a==b)=false:=by simpa using h
  simp[pyEq,ie,this]
 unfold qa;rw[c,e];rfl
theorem DN(N:Nm n):au bg 3 5 [oJ,F1 n H,F2 n H]=.error (some ⟨"NoKind",[],[]⟩):=by
 have q:=J1 (n 0) (n 2) N.ne;have s:au dE 2 3 [.tup [fld (n 0,num 0 H)],.tup [fld (n 2,num 0 H)]]=.error (some ⟨"NoKind",[],[]⟩):=by
  have a1:=M7 (n 0) (num 0 H) (.tup [fld (n 2,num 0 H)]);have a2:=MF (n 2) (num 0 H) (.tup [fld (n 0,num 0 H)]);rw[bq];unfold dE;simp! only[a1,a2,q,fY,Iq]
 rw[og];unfold bg;simp! only[s]
noncomputable abbrev CS:av:=["NoTable","NoField","Twice","NoKind","Nothing","NoKey","TooMany","Blind"]
noncomputable def Du(c:Str)(w:Int):Prop:=CS.contains c=true/\∀(fs:av)(vs:List D),au cI 1 2 [.exc c fs vs]=.ok (.int w)
theorem nO:Du "NoField" 0:=⟨by decide +kernel,λfs vs=>by kernel_rfl⟩
theorem DK:Du "NoKind" 1:=⟨by decide +kernel,λfs vs=>by kernel_rfl⟩
theorem zx:Du "Twice" 2:=⟨by decide +kernel,λfs vs=>by kernel_rfl⟩
theorem jS:Du "NoTable" 3:=⟨by decide +kernel,λfs vs=>by kernel_rfl⟩
theorem FC:Du "NoKey" 4:=⟨by decide +kernel,λfs vs=>by kernel_rfl⟩
section
variable{g fs:D}{c:Str}{w:Int}{fl:av}{vs:List D}
theorem Aq{x:Ex}(h:Fm 12 g fs (.error (some x))):au cz 2 7 [fs,g]=.error (some x):=by
 obtain⟨gf,hg,e⟩:=h;have m:=hg.meth (af 1) (aa (af 0) ai) [‹fs›,‹g›,none,none,none,none,none] rfl;rw[bq];unfold cz;simp! only[m,e]
theorem xg(h:Fm 12 g fs (.error (some ⟨c,fl,vs⟩)))(d:Du c w):au bc 2 4 [fs,g]=.ok (.exc c fl vs):=by
 have t:=Aq h;have dc:=d.1;rw[bq];unfold bc;simp! only[mF,t,dc,gz,G0]
theorem yz(h:Fm 12 g fs (.error (some ⟨c,fl,vs⟩)))(d:Du c w):au bp 2 4 [fs,g]=.ok (.exc c fl vs):=by
 obtain⟨gf,hg,e0⟩:=h;have m:=hg.meth (af 1) (aa (af 0) ai) [‹fs›,‹g›,‹.non›,none] rfl;have dc:=d.1;rw[bq];unfold bp;simp! only[mF,m,e0,dc,gz,G0]
theorem fW{d:D}(h:au cz 2 7 [fs,g]=.ok d):au bc 2 4 [fs,g]=.ok .non:=by
 rw[bq];unfold bc;simp! only[mF,h,gz]
theorem xP{f:D}(h:Fm 12 g fs (.ok f)):au bp 2 4 [fs,g]=.ok .non:=by
 obtain⟨gf,hg,e0⟩:=h;have m:=hg.meth (af 1) (aa (af 0) ai) [‹fs›,‹g›,‹.non›,none] rfl;rw[bq];unfold bp;simp! only[mF,m,e0,gz]
end
end
theorem Cu(g:Nat)(lo hi:Int):b7 (g+1) [num lo hi]=.ok (.int lo):=by
 rw[eL,eT];unfold jG;simp! only[ug]
theorem B8(kf rf:List D)(qs:List (Str×Int×Int))(hl:qs.length<=50)(hk:kf.length+rf.length<=100)(e:kf++rf=(qs.map λq=>(q.1,num q.2.1 q.2.2)).map fld):au bi 1 1 [frm kf rf]=.ok (.tup (qs.map λq=>.int q.2.1)):=by
 have ko:au dy 1 1 [frm kf rf]=.ok (.tup ((qs.map λq=>(q.1,num q.2.1 q.2.2)).map (·.2))):=kinds_ok kf rf (qs.map λq:Str×Int×Int=>(q.1,num q.2.1 q.2.2)) hk e;rw[OW]at ko;have rows_num:(("rows":Str)==("number":Str))=false:=by decide +kernel
 have rows_word:(("rows":Str)==("word":Str))=false:=by decide +kernel
 have f0:eE [none] (bj (fR (au dy 1 1) (aa (f2 ap (af 0) (fC (.int 1))) ai))) (gN 0) bz (fR (b7 11) (aa (af 0) ai)) [‹.tup [.str "rows",frm kf rf,.bl true]›]=.ok (.lst (qs.map λq=>.int q.2.1)):=by
  refine dH (ds:=qs.map λq=>num q.2.1 q.2.2) ?_ (by rw[Ny];omega) ?_
  ·simp! only[ko];rfl
  ·refine fA (λq:Str×Int×Int=>num q.2.1 q.2.2) _ qs λq hq=>⟨_,rfl,rfl,?_⟩
   have e:b7 11 [num q.2.1 q.2.2]=.ok (.int q.2.1):=Cu 10 _ _;simp! only[e]
 have e1:b7 12 [.tup [.str "rows",frm kf rf,.bl true]]=.ok (.tup [.tup (qs.map λq=>.int q.2.1)]):=by
  rw[eL,eT];unfold jG;simp! only[rows_num,rows_word,f0,Bs]
 rw[eT];unfold bi;simp! only[IH,e1]
theorem hs1(t:Str):kK [.lst [.tup [.str t,.tup []]]]=some (cN [(.inr t,.tup [])]):=rfl
noncomputable abbrev HG:List (Str×(bE)):=[("Drop",(au bS 2 2)),("Rename",(au bT 2 2))]
noncomputable abbrev Hw:List (Str×(bE)):=[("Drop",(au cS 4 7)),("Rename",(au cP 4 4))]
noncomputable abbrev BF:List (Str×(bE)):=[("Leaf",(au aV 2 2)),("Over",(aA 12)),("Both",(aB 12))]
noncomputable abbrev lB:bw:=(az (aO 5 (bf "form" BF (f1 (aX "glass" ["Over"]) (af 1)) (aa (af 0) ai))) (az (fD (kY (bZ (bf "steady" HG (f1 (aX "step" ["Over"]) (af 1)) (aa (af 5) ai)))) (az (aO 3 (bf "put" [("Leaf",(au cG 4 5)),("Over",(au cH 4 5)),("Both",(au cC 4 7))] (f1 (aX "glass" ["Over"]) (af 1)) (aa (af 0) (aa (af 3) (aa (fR (au dX 3 5) (aa (af 5) (aa (f1 (aX "step" ["Over"]) (af 1)) (aa (af 4) ai)))) ai))))) (aU (f2 bN (aN (aa (af 3) ai)) (fR (au fJ 2 2) (aa (f1 (aX "step" ["Over"]) (af 1)) (aa (af 2) ai)))))) bD) (az (aO 4 (bf "put" Hw (f1 (aX "step" ["Over"]) (af 1)) (aa (af 5) (aa (aN ai) (aa (af 4) ai))))) (az (aO 1 (f1 (aX "glass" ["Over"]) (af 1))) (h7 [5] bD)))))
noncomputable abbrev lE:bw:=(az (fD (kY (bZ (f1 (oK ["Both"] ["Leaf","Over"]) (af 1)))) (aU (fC .non)) bD) (az (aO 6 (fR (au dj 3 5) (aa (aN (aa (bf "form" BF (f1 (aX "one" ["Both"]) (af 1)) (aa (af 0) ai)) (aa (bf "form" BF (f1 (aX "other" ["Both"]) (af 1)) (aa (af 0) ai)) ai))) (aa (f1 (aX "pair" ["Both"]) (af 1)) (aa (af 4) ai))))) (az (aO 3 (bf "put" [("Leaf",(au cG 4 5)),("Over",(au cH 4 5)),("Both",(au cC 4 7))] (f1 (aX "other" ["Both"]) (af 1)) (aa (af 0) (aa (bf "put" [("Leaf",(au cG 4 5)),("Over",(au cH 4 5)),("Both",(au cC 4 7))] (f1 (aX "one" ["Both"]) (af 1)) (aa (af 0) (aa (af 3) (aa (f2 ap (af 6) (fC (.int 0))) ai)))) (aa (f2 ap (af 6) (fC (.int 1))) ai))))) (aU (aN (aa (af 3) (aa (af 2) (aa (aN ai) ai))))))))
theorem v0:cz=az (aO 2 (aN (aa (fR (au bi 1 1) (aa (bf "form" BF (af 1) (aa (af 0) ai)) ai)) ai))) (az (aO 3 (fL kK (aa (eE [none] (bj (bf "names" sG (af 1) ai)) (gN 0) bz (aN (aa (af 0) (aa (aN ai) ai)))) ai))) (az (aO 4 (af 2)) (az (nh 200 (bZ (f1 (oK ["Over"] ["Leaf","Both"]) (af 1))) lB) lE))):=rfl
section
variable{fs:D}{t:Str}
theorem jO(g s:D):oK ["Over"] ["Leaf","Both"] (over g s)=some (.bl true):=by kernel_rfl
theorem jL:oK ["Over"] ["Leaf","Both"] (leaf t)=some (.bl false):=by kernel_rfl
theorem jB:oK ["Both"] ["Leaf","Over"] (leaf t)=some (.bl false):=by kernel_rfl
theorem Ei(g:D)(x2:Option S)(h:bf "names" sG (af 1) ai [‹fs›,‹g›,x2,none,none,none,none]=.ok (.tup [.str t])):eE [none] (bj (bf "names" sG (af 1) ai)) (gN 0) bz (aN (aa (af 0) (aa (aN ai) ai))) [‹fs›,‹g›,x2,none,none,none,none]=.ok (.lst [.tup [.str t,.tup []]]):=by
 refine dH (ds:=[.str t]) (by simp! only[h]) (by show 1<=100000;decide) ?_;exact fA (λx:Str=>D.str x) (λx=>.tup [.str x,.tup []]) [t] λx hx=>⟨_,rfl,rfl,by simp! only[Hg,B1]⟩
theorem tQ(x2 x3 x4:Option S)(k:Ks):lE k [‹fs›,‹leaf t›,x2,x3,x4,none,none]=.ok .non:=by
 simp! only[jB]
theorem yj{f:D}{row:D}(h:Fm 12 (leaf t) fs (.ok f))(r:au bi 1 1 [f]=.ok row):au cz 2 7 [fs,leaf t]=.ok .non:=by
 obtain⟨gf,hg,e⟩:=h;have m:=hg.meth (af 1) (aa (af 0) ai) [‹fs›,‹leaf t›,none,none,none,none,none] rfl;have mn:=λx2=>cK "names" sG "Leaf" ["name"] [.str t] (au aL 1 1) (af 1) ai [‹fs›,‹leaf t›,x2,none,none,none,none] rfl (by kernel_rfl) (by decide +kernel);have lc:=λx2=>Ei (fs:=fs) (t:=t) (leaf t) x2 (by rw[mn];simp! only[Ht]);have el:=λx2 x3 x4 k=>tQ (fs:=fs) (t:=t) x2 x3 x4 k;rw[bq,v0];generalize lE=E at *;generalize lB=B at *;simp! only[m,e,r,Bs,lc,hs1,TG.GY,Hh,jL,el]
theorem oQ{fb fa s row x:D}{c:Str}{fl:av}{vs:List D}{gs gp:bE}(h0:Fm 12 (leaf t) fs (.ok fb))(h1:Fm 12 (over (leaf t) s) fs (.ok fa))(r:au bi 1 1 [fa]=.ok row)
  (es:s=.obj c fl vs) (ls:HG.lookup c=some gs) (cs:fl.contains ("steady":Str)=false) (lp:Hw.lookup c=some gp) (cp:fl.contains ("put":Str)=false) (st:gs [s,fb]=.ok (.bl true)) (pt:gp [s,fb,.tup [],.tup [row]]=.ok x):au cz 2 7 [fs,over (leaf t) s]=.ok .non:=by
 obtain⟨gf,hg,e⟩:=h0;obtain⟨gf',hg',e'⟩:=h1;have m:=hg'.meth (af 1) (aa (af 0) ai) [‹fs›,‹over (leaf t) s›,none,none,none,none,none] rfl;have mn:=λx2=>cK "names" sG "Over" ["glass","step"] [leaf t,s] (ay 12) (af 1) ai [‹fs›,‹over (leaf t) s›,x2,none,none,none,none] rfl (by kernel_rfl) (by decide +kernel);have lc:=λx2=>Ei (fs:=fs) (t:=t) (over (leaf t) s) x2 (by rw[mn];simp! only[Mu]);have el:=λx2 x3 x4 k=>tQ (fs:=fs) (t:=t) x2 x3 x4 k;have bo:∀(x2 x3:Option S)(k:Ks),lB k [‹fs›,‹over (leaf t) s›,x2,x3,‹.tup [row]›,none,none]=k.nx [‹fs›,‹leaf t›,x2,x3,‹x›,none,none]:=λx2 x3 k=>by
  have q1:=hg.meth (f1 (aX "glass" ["Over"]) (af 1)) (aa (af 0) ai) [‹fs›,‹over (leaf t) s›,x2,x3,‹.tup [row]›,none,none] (by simp! only[j3]);have q2:=cK "steady" HG c fl vs gs (f1 (aX "step" ["Over"]) (af 1)) (aa (af 5) ai) [‹fs›,‹over (leaf t) s›,x2,x3,‹.tup [row]›,‹fb›,none] (by simp! only[qj,es]) ls cs;have q3:=cK "put" Hw c fl vs gp (f1 (aX "step" ["Over"]) (af 1)) (aa (af 5) (aa (aN ai) (aa (af 4) ai))) [‹fs›,‹over (leaf t) s›,x2,x3,‹.tup [row]›,‹fb›,none] (by simp! only[qj,es]) lp cp;rw[<-es]at q2 q3;simp! only[q1,e,q2,st,q3,Hg,pt,j3]
 rw[bq,v0];generalize lE=E at *;generalize lB=B at *;simp! only[m,e',r,Bs,lc,hs1,TG.GY,Hh,jO,bo,jL,el]
end
section
variable{n t:Nat->Str}{H:Int}
theorem J3(o x:Str)(f:D):au bT 2 2 [oR o x,f]=.ok (.bl true):=by
 rw[bq];unfold bT;simp! only[]
theorem J4(s f a v:D):au cP 4 4 [s,f,a,v]=.ok v:=by
 rw[zb];unfold cP;simp! only[]
theorem mP{al:List (Key×D)}{u o x:Str}{fb fa row:D}(h:eB al (.inr u)=some fb)(e:au aC 2 3 [oR o x,fb]=.ok fa)(r:au bi 1 1 [fa]=.ok row):au cz 2 7 [cN al,over (leaf u) (oR o x)]=.ok .non:=by
 refine oQ (cu 12 h) (by have:=gV (cu 11 h) (uB o x);rwa [e]at this) r rfl (gs:=au bT 2 2) (by kernel_rfl) (by decide +kernel) (gp:=au cP 4 4) (by kernel_rfl) (by decide +kernel) (J3 _ _ _) (J4 _ _ _ _)
theorem KI(N:Nm n):au bS 2 2 [oD (n 0) (.int 0),FK n]=.ok (.bl true):=by
 have a:=N.ne (j:=4) (k:=0);have e:([fld (n 4,num 0 1),fld (n 0,num 0 0)]++[]:List D)=[(n 4,num 0 1),(n 0,num 0 0)].map fld:=rfl;have p:=eR [fld (n 4,num 0 1),fld (n 0,num 0 0)] [] [(n 4,num 0 1),(n 0,num 0 0)] (by show 2<=100;decide) e (by simp[a]) 1 (n 0) _ rfl;have k:=fX [fld (n 4,num 0 1),fld (n 0,num 0 0)] [] [(n 4,num 0 1),(n 0,num 0 0)] (by show 2<=100;decide) e 1 (n 0) _ rfl;have s:=Lw;have x:au ce 2 2 [oD (n 0) (.int 0),FK n]=.ok (.bl true):=by
  rw[bq];unfold ce;simp! only[B9,p,k,s]
 have m:=cK "exact" [("Drop",(au ce 2 2))] "Drop" ["name","value"] [.str (n 0),.int 0] (au ce 2 2) (af 0) (aa (af 1) ai) [‹oD (n 0) (.int 0)›,‹FK n›] rfl (by kernel_rfl) (by decide +kernel);rw[bq];unfold bS;simp! only[m,x]
theorem JK(N:Nm n):au cS 4 7 [oD (n 0) (.int 0),FK n,.tup [],.tup [.tup [.int 0]]]=.ok (.tup [.tup [.int 0,.int 0]]):=by
 have a:=N.ne (j:=4) (k:=0);have e:([fld (n 4,num 0 1),fld (n 0,num 0 0)]++[]:List D)=[(n 4,num 0 1),(n 0,num 0 0)].map fld:=rfl;have p:=eR [fld (n 4,num 0 1),fld (n 0,num 0 0)] [] [(n 4,num 0 1),(n 0,num 0 0)] (by show 2<=100;decide) e (by simp[a]) 1 (n 0) _ rfl;have dk:=Ee N;have m:=λx4=>cK "view_form" [("Drop",(au aJ 2 4))] "Drop" ["name","value"] [.str (n 0),.int 0] (au aJ 2 4) (af 0) (aa (af 1) ai) [‹oD (n 0) (.int 0)›,‹FK n›,‹.tup []›,‹.tup [.tup [.int 0]]›,x4,none,none] rfl (by kernel_rfl) (by decide +kernel);have l1:fg [.tup [fld (n 4,num 0 1)]]=some (.int 1):=rfl;have f0:eE [none,some 4,some 5] (bj (af 2)) (gN 0) bz (aN (aa (cj (fR (au cE 3 3) (aa (af 0) (aa (af 1) (aa (aN ai) ai)))) bR (cO (af 2))) (aa (f2 ap (af 0) (af 1)) ai))) [‹oD (n 0) (.int 0)›,‹FK n›,‹.tup []›,‹.tup [.tup [.int 0]]›,‹.int ((1:Nat):Int)›,‹.int 1›,none]=.ok (.lst []):=dH (ds:=[]) (by simp! only[]) (by show 0<=100000;decide) rfl;have gd:nu [.lst []]=some (wQ []):=rfl;have gt:sA [] [] (.tup [.int 0]) (.int 0)=some (.int 0):=rfl;have f2:eE [none,some 4,some 6,some 5,some 0] (bj (af 3)) (gN 0) bz (f2 bN (f2 bN (cj (af 0) bR (cO (af 1))) (aN (aa (n0 (af 2) (cj (af 0) bR (cO (af 3))) (f1 (aX "value" ["Drop"]) (af 4))) ai))) (cj (af 0) (cO (af 1)) bR)) [‹oD (n 0) (.int 0)›,‹FK n›,‹.tup []›,‹.tup [.tup [.int 0]]›,‹.int ((1:Nat):Int)›,‹.int 1›,‹wQ []›]=.ok (.lst [.tup [.int 0,.int 0]]):=by
  refine dH (ds:=[.tup [.int 0]]) (by simp! only[]) (by show 1<=100000;decide) ?_;refine fA (λ_:Unit=>D.tup [.int 0]) (λ_=>.tup [.int 0,.int 0]) [()] λr hr=>⟨_,rfl,rfl,?_⟩
  have ed:∀(fo fk fx:FX)(ρ:ao),n0 fo fk fx ρ=(fo ρ).bind λdd=>match dd with
   |.dct ks ds=>(fk ρ).bind λk=>(fx ρ).bind λx=>rO (sA ks ds k x)
   |_=>un:=λ_ _ _ _=>rfl
  have c1:cutD [.int 0] none (some ((1:Nat):Int))=([.int 0]:List D):=rfl;have c2:cutD [.int 0] none (some 1)=([.int 0]:List D):=rfl;have c3:cutD [.int 0] (some ((1:Nat):Int)) none=([]:List D):=rfl;have a2:=fj [.int 0] [.int 0] (by show 1+1<=100000;decide);have a3:=fj [.int 0,.int 0] [] (by show 2+0<=100000;decide);simp! only[ed,c1,c2,c3,FY,gt,Bs,a2,a3]
 rw[zb];unfold cS;simp! only[B9,p,m,dk,l1,f0,gd,f2]
theorem ym(N:Nm n){al:List (Key×D)}{u:Str}(h:eB al (.inr u)=some (FK n)):au cz 2 7 [cN al,over (leaf u) (oD (n 0) (.int 0))]=.ok .non:=by
 have r:au bi 1 1 [frm [fld (n 4,num 0 1)] []]=.ok (.tup [.int 0]):=B8 [fld (n 4,num 0 1)] [] [(n 4,0,1)] (by show 1<=50;decide) (by show 1+0<=100;decide) rfl;exact oQ (cu 12 h) (by have:=gV (cu 11 h) (Iw (n 0) (.int 0));rwa [Ee N]at this) r rfl (gs:=au bS 2 2) (by kernel_rfl) (by decide +kernel) (gp:=au cS 4 7) (by kernel_rfl) (by decide +kernel) (KI N) (JK N)
noncomputable abbrev bd(n:Nat->Str):D:=oR (n 4) (n 5)
noncomputable abbrev Jo:D:=.tup [.int 0,.int 1,.int 2,.int 7]
noncomputable def Way(n t:Nat->Str)(H:Int)(w d:Int)(g:D):Prop:=∃(c:Str)(fl:av)(vs:List D)(b:Bool),Du c d/\0<=d/\Fm 12 g (cN (yD n t H)) (.error (some ⟨c,fl,vs⟩))/\tX (.int w) Jo=some (.bl b)/\(b=true->au bc 2 4 [cN (G8 n t),g]=.ok .non)
theorem Fg:au bi 1 1 [FK n]=.ok (.tup [.int 0,.int 0]):=B8 [fld (n 4,num 0 1),fld (n 0,num 0 0)] [] [(n 4,0,1),(n 0,0,0)] (by show 2<=50;decide) (by show 2+0<=100;decide) rfl
theorem yO:au bi 1 1 [frm [fld (n 5,num 0 1),fld (n 0,num 0 0)] []]=.ok (.tup [.int 0,.int 0]):=B8 [fld (n 5,num 0 1),fld (n 0,num 0 0)] [] [(n 5,0,1),(n 0,0,0)] (by show 2<=50;decide) (by show 2+0<=100;decide) rfl
theorem w0(T:Nm t):Way n t H 0 3 (leaf (t 2)):=⟨_,_,_,true,jS,by decide,lS 12 (g2 T),by kernel_rfl,λ_=>fW (yj (cu 12 (k2 T)) Fg)⟩
theorem w1(N:Nm n)(T:Nm t):Way n t H 1 3 (over (leaf (t 2)) (bd n)):=⟨_,_,_,true,jS,by decide,tP (lS 11 (g2 T)) (uB _ _),by kernel_rfl,λ_=>fW (mP (k2 T) (Eh N) yO)⟩
theorem w2(N:Nm n):Way n t H 2 0 (over (leaf (t 0)) (bd n)):=⟨_,_,_,true,nO,by decide,by have:=gV (cu 11 (g0 (n:=n) (t:=t) (H:=H))) (uB (n 4) (n 5));rwa [HB N]at this,by kernel_rfl,λ_=>fW (mP k0 (Eh N) yO)⟩
theorem w3:Way n t H 3 2 (cn (leaf (t 0)) (leaf (t 0)) oJ):=⟨_,_,_,false,zx,by decide,by
 have:=pY (cu 11 (g0 (n:=n) (t:=t) (H:=H))) (cu 11 (g0 (n:=n) (t:=t) (H:=H)))
 have c:[t 0].contains (t 0)=true:=by simp
 rw[c]at this;exact this,by kernel_rfl,λz=>nomatch z⟩
theorem w4(N:Nm n)(T:Nm t):Way n t H 4 0 (cn (leaf (t 0)) (over (leaf (t 1)) (bd n)) oJ):=⟨_,_,_,false,nO,by decide,p8 (cu 11 (g0 (n:=n) (t:=t) (H:=H))) (by have:=gV (cu 10 (g1 (n:=n) (H:=H) T)) (uB (n 4) (n 5));rwa [bad2 N]at this),by kernel_rfl,λz=>nomatch z⟩
theorem w5(N:Nm n):Way n t H 5 0 (cn (over (leaf (t 0)) (bd n)) (leaf (t 2)) oJ):=⟨_,_,_,false,nO,by decide,rN (by have:=gV (cu 10 (g0 (n:=n) (t:=t) (H:=H))) (uB (n 4) (n 5));rwa [HB N]at this),by kernel_rfl,λz=>nomatch z⟩
theorem w6(T:Nm t):Way n t H 6 3 (cn (leaf (t 2)) (over (leaf (t 0)) (bd n)) oJ):=⟨_,_,_,false,jS,by decide,rN (lS 11 (g2 T)),by kernel_rfl,λz=>nomatch z⟩
theorem w7(N:Nm n)(h:0<=H):Way n t H 7 4 (over (leaf (t 0)) (oD (n 0) (.int 0))):=⟨_,_,_,true,FC,by decide,by have:=gV (cu 11 (g0 (n:=n) (t:=t) (H:=H))) (Iw (n 0) (.int 0));rwa [HJ N h]at this,by kernel_rfl,λ_=>fW (ym N k0)⟩
theorem w8(N:Nm n)(T:Nm t):Way n t H 8 1 (cn (leaf (t 0)) (leaf (t 1)) oJ):=⟨_,_,_,false,DK,by decide,by
 have:=pY (cu 11 (g0 (n:=n) (t:=t) (H:=H))) (cu 11 (g1 (n:=n) (H:=H) T))
 have c:[t 0].contains (t 1)=false:=by
  have:=T.ne (j:=1) (k:=0)
  simp[this]
 rw[c,DN N]at this;exact this,by kernel_rfl,λz=>nomatch z⟩
theorem w9(T:Nm t):Way n t H 9 3 (cn (leaf (t 0)) (over (leaf (t 2)) (bd n)) oJ):=⟨_,_,_,false,jS,by decide,p8 (cu 11 (g0 (n:=n) (t:=t) (H:=H))) (tP (lS 10 (g2 T)) (uB _ _)),by kernel_rfl,λz=>nomatch z⟩
theorem w10(N:Nm n):au bc 2 4 [cN (yD n t H),over (leaf (t 0)) (oR (n 1) (n 5))]=.ok .non/\au bp 2 4 [cN (yD n t H),over (leaf (t 0)) (oR (n 1) (n 5))]=.ok .non:=by
 have r:au bi 1 1 [frm [fld (n 0,num 0 H)] [fld (n 5,num (-H) 0)]]=.ok (.tup [.int 0,.int (-H)]):=B8 [fld (n 0,num 0 H)] [fld (n 5,num (-H) 0)] [(n 0,0,H),(n 5,-H,0)] (by show 2<=50;decide) (by show 1+1<=100;decide) rfl;exact⟨fW (mP g0 (DT N) r),xP (by have:=gV (cu 11 (g0 (n:=n) (t:=t) (H:=H))) (uB (n 1) (n 5));rwa [DT N]at this)⟩
end
noncomputable def Ag:bw:=(az (aO 8 (fR (au bc 2 4) (aa (af 6) (aa (af 4) ai)))) (az (fD (fB (f2 lN (af 5) (fC (.int 0)))) (aU (ig (oO (af 8)) (oO (fR (au bp 2 4) (aa (af 6) (aa (af 4) ai)))))) bD) (az (fD (D8 (fB (f2 qa (fR (au cI 1 2) (aa (af 8) ai)) (af 5))) (fB (f2 qa (fR (au cI 1 2) (aa (fR (au bp 2 4) (aa (af 6) (aa (af 4) ai))) ai)) (af 5)))) (aU (fC (.bl false))) bD) (az (aO 9 (aN (aa (aN (aa (aN (aa (f2 ap (af 1) (fC (.int 4))) (aa (aN (aa (fC (.str "number")) (aa (fC (.int 0)) (aa (fC (.int 1)) ai)))) ai))) (aa (aN (aa (f2 ap (af 1) (fC (.int 0))) (aa (aN (aa (fC (.str "number")) (aa (fC (.int 0)) (aa (fC (.int 0)) ai)))) ai))) ai))) (aa (aN ai) ai)))) (az (aO 10 (eJ [(f2 ap (af 2) (fC (.int 0)),af 9),(f2 ap (af 2) (fC (.int 1)),af 9),(f2 ap (af 2) (fC (.int 2)),af 9)])) (az (fD (ul (fB (f2 tX (af 3) (aN (aa (fC (.int 0)) (aa (fC (.int 1)) (aa (fC (.int 2)) (aa (fC (.int 7)) ai))))))) (fB (lI (fR (au bc 2 4) (aa (af 10) (aa (af 4) ai)))))) (aU (fC (.bl false))) bD) (h7 [7,8,9,10] bD)))))))
theorem vP:kn=az (aO 1 (fR (au bG 2 10) (aa (fR (au aZ 2 2) (aa (af 0) (aa (fC (.int 0)) ai))) (aa (fC (.int 9)) ai)))) (az (aO 2 (fR (au bG 2 10) (aa (fR (au aZ 2 2) (aa (af 0) (aa (fC (.int 1)) ai))) (aa (fC (.int 9)) ai)))) (az (aO 3 (f2 gB (fR (au aZ 2 2) (aa (af 0) (aa (fC (.int 2)) ai))) (fC (.int 11)))) (az (zC (fR (au cV 3 8) (aa (af 3) (aa (af 2) (aa (af 1) ai)))) (gT 2 (tY [4,5]))) (az (aO 6 (fR (au cX 3 6) (aa (af 2) (aa (af 1) (aa (fR (au aZ 2 2) (aa (af 0) (aa (fC (.int 3)) ai))) ai))))) (h7 [0] (az (sv (dq (aa (fC (.int 2)) ai)) (gN 7) Ag) (aU (fC (.bl true))))))))):=rfl
theorem Hz{t0 t1:Str}(h:t0≠t1)(f g:D):jn [(.str t0,f),(.str t1,g)]=some (cN [(.inr t0,f),(.inr t1,g)]):=by
 unfold jn;have e:gQ [(.str t0,f),(.str t1,g)]=some [(.inr t0,f),(.inr t1,g)]:=rfl;rw[e];have z:iJ [((.inr t0:Key),f),(.inr t1,g)]=[(.inr t0,f),(.inr t1,g)]:=by
  unfold iJ;rw[O0,O0,OZ];have p0:lj [] (.inr t0:Key) f=[(.inr t0,f)]:=rfl;rw[p0];unfold lj;have q:([((.inr t0:Key),f)].any λp=>decide (p.1=.inr t1))=false:=by
   have:¬(Sum.inr t0:Key)=Sum.inr t1:=λz=>h (Sum.inr.inj z)
   rw[NZ,Pk,decide_eq_false this];rfl
  rw[q];rfl
 show(if decide (2<=15)then some (cN (iJ [((.inr t0:Key),f),(.inr t1,g)]))else none)=_;rw[z];rfl
theorem Ha{t0 t1 t2:Str}(h:t0≠t1)(h':t0≠t2)(h2:t1≠t2)(f:D):jn [(.str t0,f),(.str t1,f),(.str t2,f)]=some (cN [(.inr t0,f),(.inr t1,f),(.inr t2,f)]):=by
 unfold jn;have e:gQ [(.str t0,f),(.str t1,f),(.str t2,f)]=some [(.inr t0,f),(.inr t1,f),(.inr t2,f)]:=rfl;rw[e];have n01:¬(Sum.inr t0:Key)=Sum.inr t1:=λz=>h (Sum.inr.inj z);have n02:¬(Sum.inr t0:Key)=Sum.inr t2:=λz=>h' (Sum.inr.inj z);have n12:¬(Sum.inr t1:Key)=Sum.inr t2:=λz=>h2 (Sum.inr.inj z);have z:iJ [((.inr t0:Key),f),(.inr t1,f),(.inr t2,f)]=[(.inr t0,f),(.inr t1,f),(.inr t2,f)]:=by
  unfold iJ;rw[O0,O0,O0,OZ];have p0:lj [] (.inr t0:Key) f=[(.inr t0,f)]:=rfl;have p1:lj [((.inr t0:Key),f)] (.inr t1:Key) f=[(.inr t0,f),(.inr t1,f)]:=by
   unfold lj;have q:([((.inr t0:Key),f)].any λp=>decide (p.1=.inr t1))=false:=by
    rw[NZ,Pk,decide_eq_false n01];rfl
   rw[q];rfl
  rw[p0,p1];unfold lj;have q:([((.inr t0:Key),f),(.inr t1,f)].any λp=>decide (p.1=.inr t2))=false:=by
   rw[NZ,NZ,Pk,decide_eq_false n02,decide_eq_false n12];rfl
  rw[q];rfl
 show(if decide (3<=15)then some (cN (iJ [((.inr t0:Key),f),(.inr t1,f),(.inr t2,f)]))else none)=_;rw[z];rfl
theorem qc(fs:List (FX×FX))(ρ:ao):eJ fs ρ=(Bt (xC fs ρ)).bind λps=>rO (jn ps):=rfl
theorem rJ(ρ:ao):xC [] ρ=.ok []:=rfl
theorem mW(fk fv:FX)(r:List (FX×FX))(ρ:ao):xC ((fk,fv)::r) ρ=(fk ρ).bind λk=>(fv ρ).bind λv=>(xC r ρ).bind λps=>.ok ((k,v)::ps):=rfl
theorem Bm{α:Type}(a:α):Bt (.ok a:R α)=.ok a:=rfl
theorem vF(f:FX)(g:GF)(k:Ks)(ρ:ao):zC f g k ρ=kZ (f ρ) k ρ λd=>(rO (g d ρ)).bind k.nx:=nr rfl
theorem Lj(i j:Nat)(a b:D)(ρ:ao):gT 2 (tY [i,j]) (.tup [a,b]) ρ=some (setV j b (setV i a ρ)):=rfl
theorem LD(fas:aQ)(ρ:ao):fNew "Rename" ["old","new"] fas ρ=(fas ρ).bind λas=>if as.length=2 then .ok (.obj "Rename" ["old","new"] as)else un:=rfl
theorem Mv(fas:aQ)(ρ:ao):fNew "Drop" ["name","value"] fas ρ=(fas ρ).bind λas=>if as.length=2 then .ok (.obj "Drop" ["name","value"] as)else un:=rfl
theorem L9(fas:aQ)(ρ:ao):fNew "Leaf" ["name"] fas ρ=(fas ρ).bind λas=>if as.length=1 then .ok (.obj "Leaf" ["name"] as)else un:=rfl
theorem MC(fas:aQ)(ρ:ao):fNew "Over" ["glass","step"] fas ρ=(fas ρ).bind λas=>if as.length=2 then .ok (.obj "Over" ["glass","step"] as)else un:=rfl
theorem nwB(fas:aQ)(ρ:ao):fNew "Both" ["one","other","pair"] fas ρ=(fas ρ).bind λas=>if as.length=3 then .ok (.obj "Both" ["one","other","pair"] as)else un:=rfl
theorem l1(a:D):nD [a]=some (.lst [a]):=nr rfl
theorem l2(a b:D):nD [a,b]=some (.lst [a,b]):=nr rfl
theorem l4(a b c d:D):nD [a,b,c,d]=some (.lst [a,b,c,d]):=nr rfl
theorem Lv(a b c d:D):nQ [a,b,c,d]=some (.tup [a,b,c,d]):=nr rfl
theorem M3(a b c d e f:D):bN (.lst [a,b,c,d]) (.lst [e,f])=some (.lst [a,b,c,d,e,f]):=nr rfl
theorem LR(a b c d e f g h:D):bN (.lst [a,b,c,d,e,f]) (.lst [g,h])=some (.lst [a,b,c,d,e,f,g,h]):=nr rfl
theorem Mb(a b c d e f g h i j:D):bN (.lst [a,b,c,d,e,f,g,h]) (.lst [i,j])=some (.lst [a,b,c,d,e,f,g,h,i,j]):=nr rfl
theorem Kb(a b c d e f g h i j k:D):bN (.lst [a,b,c,d,e,f,g,h,i,j]) (.lst [k])=some (.lst [a,b,c,d,e,f,g,h,i,j,k]):=nr rfl
noncomputable def Hr(n t:Nat->Str):List D:=[.tup [leaf (t 2),.int 3],.tup [over (leaf (t 2)) (bd n),.int 3],.tup [over (leaf (t 0)) (bd n),.int 0],.tup [cn (leaf (t 0)) (leaf (t 0)) oJ,.int 2],.tup [cn (leaf (t 0)) (over (leaf (t 1)) (bd n)) oJ,.int 0],.tup [cn (over (leaf (t 0)) (bd n)) (leaf (t 2)) oJ,.int 0],.tup [cn (leaf (t 2)) (over (leaf (t 0)) (bd n)) oJ,.int 3],.tup [over (leaf (t 0)) (oD (n 0) (.int 0)),.int 4],.tup [cn (leaf (t 0)) (leaf (t 1)) oJ,.int 1],.tup [cn (leaf (t 0)) (over (leaf (t 2)) (bd n)) oJ,.int 3],.tup [over (leaf (t 0)) (oR (n 1) (n 5)),.int (-1)]]
section
variable{n t:Nat->Str}{H:Int}
theorem i0:ap (Ls n) (.int 0)=some (.str (n 0)):=rfl
theorem i1:ap (Ls n) (.int 1)=some (.str (n 1)):=rfl
theorem i2:ap (Ls n) (.int 2)=some (.str (n 2)):=rfl
theorem i3:ap (Ls n) (.int 3)=some (.str (n 3)):=rfl
theorem i4:ap (Ls n) (.int 4)=some (.str (n 4)):=rfl
theorem i5:ap (Ls n) (.int 5)=some (.str (n 5)):=rfl
theorem sV(w:Int)(e:D)(h:ap (.lst (Hr n t)) (.int w)=some e):au cV 3 8 [.int w,Ls t,Ls n]=.ok e:=by
 unfold Hr at h;rw[og];unfold cV;simp! only[L9,LD,MC,nwB,Mv,i0,i1,i2,i4,i5,B1,l1,l2,l4,M3,LR,Mb,Kb,h]
theorem nE(k:Nat)(e:D)(h:(Hr n t)[k]?=some e):ap (.lst (Hr n t)) (.int (k:Int))=some e:=by rw[JX,zH,h]
theorem AC(T:Nm t)(c:Int):∃H:Int,0<=H/\au cX 3 6 [Ls t,Ls n,.int c]=.ok (cN (yD n t H)):=by
 obtain⟨Fj,hP,eP⟩:∃Fj:Int,0<Fj/\uk (.int 10) (.int 60)=some (.int Fj):=⟨10^60,by decide +kernel,zJ 10 60 (by decide) (by decide)⟩
 have gP:=λi=>fi (i:=i) hP;refine⟨c%Fj,Ph _ ‹0›,?_⟩;have dp:=Hz (T.ne (j:=0) (k:=1)) (F1 n (c%Fj)) (F2 n (c%Fj));rw[og];unfold cX;simp! only[eP,gP,i0,i1,i2,i3,Bs,B1,IH,qc,rJ,mW,Bm,dp]
noncomputable abbrev En(n t:Nat->Str)(w d:Int)(g fs:D)(x7 x8 x9 x10:Option S):ao:=[none,‹Ls n›,‹Ls t›,‹.int w›,‹g›,‹.int d›,‹fs›,x7,x8,x9,x10]
theorem turn(T:Nm t){w d:Int}{g:D}(W:Way n t H w d g)(x7:Option S)(k:Ks):Ag k (En n t w d g (cN (yD n t H)) x7 none none none)=k.nx (En n t w d g (cN (yD n t H)) none none none none):=by
 obtain⟨c,fl,vs,b,du,d0,fm,gi,cq⟩:=W;have ca:=xg fm du;have fo:=yz fm du;have cl:=du.2 fl vs;have dp:=Ha (T.ne (j:=0) (k:=1)) (T.ne (j:=0) (k:=2)) (T.ne (j:=1) (k:=2)) (FK n);have dn:decide (d<0)=false:=decide_eq_false ‹0›;have de:(d==d)=true:=BEq.rfl;have nn:isNon .non=true:=rfl;unfold Ag;generalize cN (yD n t H)=fs at *;have gi:tX (.int w) (.tup [.int 0,.int 1,.int 2,.int 7])=some (.bl b):=gi;cases b with
 |true=>
  have cq:=cq rfl;have fe:cN [((.inr (t 0):Key),FK n),(.inr (t 1),FK n),(.inr (t 2),FK n)]=cN (G8 n t):=rfl;rw[fe]at dp;generalize cN (G8 n t)=fm at *;simp! only[ca,dn,cl,fo,de,i0,i1,i2,i4,Hg,Bs,B1,IH,Lv,qc,rJ,mW,Bm,dp,gi,cq,nn]
 |false=>
  simp! only[ca,dn,cl,fo,de,i0,i1,i2,i4,Hg,Bs,B1,IH,Lv,qc,rJ,mW,Bm,dp,gi]
end
theorem math(ns:List Int)(hl:ns.length<=63):au kn 1 11 [.lst (ns.map .int)]=.ok (.bl true):=by
 obtain⟨c0,e0⟩:=TD.IW ns 0 (by decide);obtain⟨c1,e1⟩:=TD.IW ns 1 (by decide);obtain⟨c2,e2⟩:=TD.IW ns 2 (by decide);obtain⟨c3,e3⟩:=TD.IW ns 3 (by decide);obtain⟨n,N,en⟩:=sX c0;obtain⟨t,T,et⟩:=sX c1;obtain⟨H,h0,ef⟩:=AC (n:=n) T c3;have g11:=gm 11;have r2:iZ [.int 2]=some (cD 0 2):=kH 2 (by decide);obtain⟨k,hk⟩:∃k:Nat,c2%11=(k:Int):=⟨(c2%11).toNat,by omega⟩
 have k11:k<11:=by omega
 have bad:∀(d:Int)(g:D),ap (.lst (Hr n t)) (.int (k:Int))=some (.tup [g,.int d])->Way n t H k d g->au kn 1 11 [.lst (ns.map .int)]=.ok (.bl true):=λd g gi W=>by
  have eg:=sV _ _ gi;have tr:=λx7 k'=>turn T W x7 k';rw[eT,vP];generalize Ag=LB at *;generalize cN (yD n t H)=fs at *;simp! only[e0,e1,e2,e3,en,et,g11,hk,eg,vF,Lj,ef,r2];refine p9 (Q:=λz=>z=.ok (.bl true)) (λ_ ρ=>ρ=En n t k d g fs none none none none) ?_ rfl ?_
  ·rintro j x ρ k' hd rfl;exact⟨_,_,rfl,rfl,tr _ _⟩
  ·rintro ρ rfl;simp! only[]
 rcases(show k=0\/k=1\/k=2\/k=3\/k=4\/k=5\/k=6\/k=7\/k=8\/k=9\/k=10 by omega)with z|z|z|z|z|z|z|z|z|z|z<;>subst z
 ·exact bad _ _ (nE 0 _ rfl) (w0 T)
 ·exact bad _ _ (nE 1 _ rfl) (w1 N T)
 ·exact bad _ _ (nE 2 _ rfl) (w2 N)
 ·exact bad _ _ (nE 3 _ rfl) w3
 ·exact bad _ _ (nE 4 _ rfl) (w4 N T)
 ·exact bad _ _ (nE 5 _ rfl) (w5 N)
 ·exact bad _ _ (nE 6 _ rfl) (w6 T)
 ·exact bad _ _ (nE 7 _ rfl) (w7 N h0)
 ·exact bad _ _ (nE 8 _ rfl) (w8 N T)
 ·exact bad _ _ (nE 9 _ rfl) (w9 T)
 ·have eg:=sV _ _ (nE (n:=n) (t:=t) 10 _ rfl);obtain⟨ca,fo⟩:=w10 (t:=t) (H:=H) N;have dn:decide ((-1:Int)<0)=true:=rfl;rw[eT,vP];unfold Ag;generalize cN (yD n t H)=fs at *;simp! only[e0,e1,e2,e3,en,et,g11,hk,eg,vF,Lj,ef,r2];refine kW (Q:=λz=>z=.ok (.bl true)) (λ_ ρ=>ρ=En n t ((10:Nat):Int) (-1) (over (leaf (t 0)) (oR (n 1) (n 5))) fs none none none none) _ 0 0 _ (.int 0) rfl (λj d ρ k' hj=>absurd hj ‹0›) rfl ?_;rintro ρ k' rfl;refine⟨_,rfl,?_⟩;simp! only[ca,dn,fo];rfl
end Tk84
open PySem PySem.W PyProof.Rows
set_option maxRecDepth 100000 in
set_option maxHeartbeats 0 in
theorem PySem.Challenge.cw_twoglass_k84_refused_as_the_glass_is_holds : PySem.Challenge.rw_twoglass_k84_refused_as_the_glass_is.Holds := by
  refine hd84 ?_
  k_fill
  refine Tk84.walk (l := PySem.Challenge.rw_twoglass_k84_refused_as_the_glass_is) rfl rfl (fun w h Y => PySem.W.kIn_of Y) ?F Tk84.math
  case F =>
    intro w mg fa h KX G hmg
    refine' Tk84.all_mk KX G hmg ?ac0 ?ac1 ?ac2 ?ac3 ?ac4 ?ac5 ?a0 ?i0 ?l0 ?c0 ?k0 ?a1 ?i1 ?l1 ?c1 ?k1 ?a2 ?i2 ?l2 ?c2 ?k2 ?a3 ?i3 ?l3 ?c3 ?k3 ?a4 ?i4 ?l4 ?c4 ?k4 ?a5 ?i5 ?l5 ?c5 ?k5 ?a6 ?i6 ?l6 ?c6 ?k6 ?a7 ?i7 ?l7 ?c7 ?k7 ?a8 ?i8 ?l8 ?c8 ?k8 ?a9 ?i9 ?l9 ?c9 ?k9 ?a10 ?i10 ?l10 ?c10 ?k10 ?a11 ?i11 ?l11 ?c11 ?k11 ?a12 ?i12 ?l12 ?c12 ?k12 ?a13 ?i13 ?l13 ?c13 ?k13 ?a14 ?i14 ?l14 ?c14 ?k14 ?a15 ?i15 ?l15 ?c15 ?k15 ?a16 ?i16 ?l16 ?c16 ?k16 ?a17 ?l17 ?c17 ?k17 ?a18 ?i18 ?l18 ?c18 ?k18 ?a19 ?i19 ?l19 ?c19 ?k19 ?a20 ?i20 ?l20 ?c20 ?k20 ?a21 ?i21 ?l21 ?c21 ?k21 ?a22 ?i22 ?l22 ?c22 ?k22 ?p0 ?q0 ?r0 ?s0 ?n0_0 ?m0 ?kp0 ?p1 ?q1 ?r1 ?s1 ?n1_0 ?n1_1 ?m1 ?kp1 ?p2 ?q2 ?r2 ?s2 ?n2_0 ?n2_1 ?n2_2 ?m2 ?kp2 ?p3 ?q3 ?r3 ?s3 ?n3_0 ?n3_1 ?m3 ?kp3 ?p4 ?q4 ?r4 ?s4 ?n4_0 ?n4_1 ?m4 ?kp4 ?p5 ?q5 ?r5 ?s5 ?o5 ?m5 ?kp5 ?vsg ?vtk ?vf0 ?vm0 ?vf1 ?vm1 ?vf2 ?vm2 ?vt1 ?vi1 ?yy1_1 ?vs1_0 ?vn1_0 ?vs1_2 ?vn1_2 ?vt2 ?vi2 ?yy2_2 ?vs2_0 ?vn2_0 ?vs2_1 ?vn2_1 ?xa0 ?xa1 ?xa2 ?xa3 ?xa4 ?xa5 ?xa6 ?xa7 ?xa8 ?xa9 ?xa10 ?xa11 ?xa12 ?xa13 ?a23 ?i23 ?l23 ?c23 ?k23 ?xs6 ?xp6 ?xi6 ?xy6 ?xd6 ?xna6_0 ?xna6_1 ?xna6_2 ?xe0 ?xe1 ?xe2 ?xe3 ?xe4 ?xe5 ?xe7 ?xsg ?xtk ?xg0 ?xn0 ?xf0 ?xb0 ?xg7 ?xn7 ?xf7 ?xb7 ?xg3 ?xn3 ?xf3 ?xb3 ?xg1 ?xn1 ?xf1 ?xb1 ?xg2 ?xn2 ?xf2 ?xb2 ?xg5 ?xn5 ?xf5 ?xb5 ?xg4 ?xn4 ?xf4 ?xb4 ?xg6 ?xn6 ?xf6 ?xb6 ?xo0 ?xt0 ?xo1 ?xt1 ?xo2 ?xt2 ?xo3 ?xt3 ?xo4 ?xt4 ?xo5 ?xt5 ?xo6 ?xt6 ?xo7 ?xt7 ?xo8 ?xt8 ?xo9 ?xt9 ?xo10 ?xt10 ?xo11 ?xt11 ?xo12 ?xt12 ?xo13 ?xt13 ?xw8 ?xm8_0 ?xm8_7 ?xm8_3 ?xm8_1 ?xm8_2 ?xm8_5 ?xm8_4 ?xm8_6 ?xk3_0 ?vnx3_0 ?xk3_7 ?vnx3_7 ?xk3_3 ?xk3_1 ?vnx3_1 ?xk3_2 ?vnx3_2 ?xk3_5 ?vnx3_5 ?xk3_4 ?vnx3_4 ?xk3_6 ?vnx3_6 ?xk1_0 ?vnx1_0 ?xk1_7 ?vnx1_7 ?xk1_3 ?vnx1_3 ?xk1_1 ?xk1_2 ?vnx1_2 ?xk1_5 ?vnx1_5 ?xk1_4 ?vnx1_4 ?xk1_6 ?vnx1_6 ?xk7_0 ?vnx7_0 ?xk7_7 ?xk7_3 ?vnx7_3 ?xk7_1 ?vnx7_1 ?xk7_2 ?vnx7_2 ?xk7_5 ?vnx7_5 ?xk7_4 ?vnx7_4 ?xk7_6 ?vnx7_6 ?xk5_0 ?vnx5_0 ?xk5_7 ?vnx5_7 ?xk5_3 ?vnx5_3 ?xk5_1 ?vnx5_1 ?xk5_2 ?vnx5_2 ?xk5_5 ?xk5_4 ?vnx5_4 ?xk5_6 ?vnx5_6 ?xk0_0 ?xk0_7 ?vnx0_7 ?xk0_3 ?vnx0_3 ?xk0_1 ?vnx0_1 ?xk0_2 ?vnx0_2 ?xk0_5 ?vnx0_5 ?xk0_4 ?vnx0_4 ?xk0_6 ?vnx0_6 ?xk9_0 ?vnx9_0 ?xk9_7 ?vnx9_7 ?xk9_3 ?vnx9_3 ?xk9_1 ?vnx9_1 ?xk9_2 ?vnx9_2 ?xk9_5 ?vnx9_5 ?xk9_4 ?vnx9_4 ?xk9_6 ?vnx9_6 ?xk4_0 ?vnx4_0 ?xk4_7 ?vnx4_7 ?xk4_3 ?vnx4_3 ?xk4_1 ?vnx4_1 ?xk4_2 ?vnx4_2 ?xk4_5 ?vnx4_5 ?xk4_4 ?xk4_6 ?vnx4_6 ?xk2_0 ?vnx2_0 ?xk2_7 ?vnx2_7 ?xk2_3 ?vnx2_3 ?xk2_1 ?vnx2_1 ?xk2_2 ?xk2_5 ?vnx2_5 ?xk2_4 ?vnx2_4 ?xk2_6 ?vnx2_6 ?xk6_0 ?vnx6_0 ?xk6_7 ?vnx6_7 ?xk6_3 ?vnx6_3 ?xk6_1 ?vnx6_1 ?xk6_2 ?vnx6_2 ?xk6_5 ?vnx6_5 ?xk6_4 ?vnx6_4 ?xk6_6 ?xk10_0 ?vnx10_0 ?xk10_7 ?vnx10_7 ?xk10_3 ?vnx10_3 ?xk10_1 ?vnx10_1 ?xk10_2 ?vnx10_2 ?xk10_5 ?vnx10_5 ?xk10_4 ?vnx10_4 ?xk10_6 ?vnx10_6 ?xk11_0 ?vnx11_0 ?xk11_7 ?vnx11_7 ?xk11_3 ?vnx11_3 ?xk11_1 ?vnx11_1 ?xk11_2 ?vnx11_2 ?xk11_5 ?vnx11_5 ?xk11_4 ?vnx11_4 ?xk11_6 ?vnx11_6 ?xk12_0 ?vnx12_0 ?xk12_7 ?vnx12_7 ?xk12_3 ?vnx12_3 ?xk12_1 ?vnx12_1 ?xk12_2 ?vnx12_2 ?xk12_5 ?vnx12_5 ?xk12_4 ?vnx12_4 ?xk12_6 ?vnx12_6 ?xk13_0 ?vnx13_0 ?xk13_7 ?vnx13_7 ?xk13_3 ?vnx13_3 ?xk13_1 ?vnx13_1 ?xk13_2 ?vnx13_2 ?xk13_5 ?vnx13_5 ?xk13_4 ?vnx13_4 ?xk13_6 ?vnx13_6 ?xv_ValueError_0 ?xv_ValueError_7 ?xv_ValueError_3 ?xv_ValueError_1 ?xv_ValueError_2 ?xv_ValueError_5 ?xv_ValueError_4 ?xv_ValueError_6 ?dd0 ?dd1 ?zz ?ke0
    (case ac0 => k_is)
    (case ac1 => k_is)
    (case ac2 => k_is)
    (case ac3 => k_is)
    (case ac4 => k_is)
    (case ac5 => k_is)
    (case a0 => k_is)
    (case i0 => k_is)
    (case l0 => delta TX.Lk; k_is)
    (case c0 => k_is)
    (case k0 => k_is)
    (case a1 => k_is)
    (case i1 => k_is)
    (case l1 => delta TX.Lk; k_is)
    (case c1 => k_is)
    (case k1 => k_is)
    (case a2 => k_is)
    (case i2 => k_is)
    (case l2 => delta TX.Lk; k_is)
    (case c2 => k_is)
    (case k2 => k_is)
    (case a3 => k_is)
    (case i3 => k_is)
    (case l3 => delta TX.Lk; k_is)
    (case c3 => k_is)
    (case k3 => k_is)
    (case a4 => k_is)
    (case i4 => k_is)
    (case l4 => delta TX.Lk; k_is)
    (case c4 => k_is)
    (case k4 => k_is)
    (case a5 => k_is)
    (case i5 => k_is)
    (case l5 => delta TX.Lk; k_is)
    (case c5 => k_is)
    (case k5 => k_is)
    (case a6 => k_is)
    (case i6 => k_is)
    (case l6 => delta TX.Lk; k_is)
    (case c6 => k_is)
    (case k6 => k_is)
    (case a7 => k_is)
    (case i7 => k_is)
    (case l7 => delta TX.Lk; k_is)
    (case c7 => k_is)
    (case k7 => k_is)
    (case a8 => k_is)
    (case i8 => k_is)
    (case l8 => delta TX.Lk; k_is)
    (case c8 => k_is)
    (case k8 => k_is)
    (case a9 => k_is)
    (case i9 => k_is)
    (case l9 => delta TX.Lk; k_is)
    (case c9 => k_is)
    (case k9 => k_is)
    (case a10 => k_is)
    (case i10 => k_is)
    (case l10 => delta TX.Lk; k_is)
    (case c10 => k_is)
    (case k10 => k_is)
    (case a11 => k_is)
    (case i11 => k_is)
    (case l11 => delta TX.Lk; k_is)
    (case c11 => k_is)
    (case k11 => k_is)
    (case a12 => k_is)
    (case i12 => k_is)
    (case l12 => delta TX.Lk; k_is)
    (case c12 => k_is)
    (case k12 => k_is)
    (case a13 => k_is)
    (case i13 => k_is)
    (case l13 => delta TX.Lk; k_is)
    (case c13 => k_is)
    (case k13 => k_is)
    (case a14 => k_is)
    (case i14 => k_is)
    (case l14 => delta TX.Lk; k_is)
    (case c14 => k_is)
    (case k14 => k_is)
    (case a15 => k_is)
    (case i15 => k_is)
    (case l15 => delta TX.Lk; k_is)
    (case c15 => k_is)
    (case k15 => k_is)
    (case a16 => k_is)
    (case i16 => k_is)
    (case l16 => delta TX.Lk; k_is)
    (case c16 => k_is)
    (case k16 => k_is)
    (case a17 => k_is)
    (case l17 => delta TX.Lk; k_is)
    (case c17 => k_is)
    (case k17 => k_is)
    (case a18 => k_is)
    (case i18 => k_is)
    (case l18 => delta TX.Lk; k_is)
    (case c18 => k_is)
    (case k18 => k_is)
    (case a19 => k_is)
    (case i19 => k_is)
    (case l19 => delta TX.Lk; k_is)
    (case c19 => k_is)
    (case k19 => k_is)
    (case a20 => k_is)
    (case i20 => k_is)
    (case l20 => delta TX.Lk; k_is)
    (case c20 => k_is)
    (case k20 => k_is)
    (case a21 => k_is)
    (case i21 => k_is)
    (case l21 => delta TX.Lk; k_is)
    (case c21 => k_is)
    (case k21 => k_is)
    (case a22 => k_is)
    (case i22 => k_is)
    (case l22 => delta TX.Lk; k_is)
    (case c22 => k_is)
    (case k22 => k_is)
    (case p0 => k_is)
    (case q0 => k_is)
    (case r0 => k_is)
    (case s0 => k_is)
    (case n0_0 => k_is)
    (case m0 => k_is)
    (case kp0 => k_is)
    (case p1 => k_is)
    (case q1 => k_is)
    (case r1 => k_is)
    (case s1 => k_is)
    (case n1_0 => k_is)
    (case n1_1 => k_is)
    (case m1 => k_is)
    (case kp1 => k_is)
    (case p2 => k_is)
    (case q2 => k_is)
    (case r2 => k_is)
    (case s2 => k_is)
    (case n2_0 => k_is)
    (case n2_1 => k_is)
    (case n2_2 => k_is)
    (case m2 => k_is)
    (case kp2 => k_is)
    (case p3 => k_is)
    (case q3 => k_is)
    (case r3 => k_is)
    (case s3 => k_is)
    (case n3_0 => k_is)
    (case n3_1 => k_is)
    (case m3 => k_is)
    (case kp3 => k_is)
    (case p4 => k_is)
    (case q4 => k_is)
    (case r4 => k_is)
    (case s4 => k_is)
    (case n4_0 => k_is)
    (case n4_1 => k_is)
    (case m4 => k_is)
    (case kp4 => k_is)
    (case p5 => k_is)
    (case q5 => k_is)
    (case r5 => k_is)
    (case s5 => k_is)
    (case o5 => k_is)
    (case m5 => k_is)
    (case kp5 => k_is)
    (case vsg => k_is)
    (case vtk => k_is)
    (case vf0 => k_is)
    (case vm0 => k_is)
    (case vf1 => k_is)
    (case vm1 => k_is)
    (case vf2 => k_is)
    (case vm2 => k_is)
    (case vt1 => k_is)
    (case vi1 => k_is)
    (case yy1_1 => k_is)
    (case vs1_0 => k_is)
    (case vn1_0 => decide)
    (case vs1_2 => k_is)
    (case vn1_2 => decide)
    (case vt2 => k_is)
    (case vi2 => k_is)
    (case yy2_2 => k_is)
    (case vs2_0 => k_is)
    (case vn2_0 => decide)
    (case vs2_1 => k_is)
    (case vn2_1 => decide)
    (case xa0 => k_is)
    (case xa1 => k_is)
    (case xa2 => k_is)
    (case xa3 => k_is)
    (case xa4 => k_is)
    (case xa5 => k_is)
    (case xa6 => k_is)
    (case xa7 => k_is)
    (case xa8 => k_is)
    (case xa9 => k_is)
    (case xa10 => k_is)
    (case xa11 => k_is)
    (case xa12 => k_is)
    (case xa13 => k_is)
    (case a23 => k_is)
    (case i23 => k_is)
    (case l23 => delta TX.Lk; k_is)
    (case c23 => k_is)
    (case k23 => k_is)
    (case xs6 => k_is)
    (case xp6 => k_is)
    (case xi6 => kernel_rfl)
    (case xy6 => kernel_rfl)
    (case xd6 => k_is)
    (case xna6_0 => k_is)
    (case xna6_1 => k_is)
    (case xna6_2 => k_is)
    (case xe0 => k_exc)
    (case xe1 => k_exc)
    (case xe2 => k_exc)
    (case xe3 => k_exc)
    (case xe4 => k_exc)
    (case xe5 => k_exc)
    (case xe7 => k_exc)
    (case xsg => k_is)
    (case xtk => k_is)
    (case xg0 => k_is)
    (case xn0 => k_is)
    (case xf0 => k_is)
    (case xb0 => k_is)
    (case xg7 => k_is)
    (case xn7 => k_is)
    (case xf7 => k_is)
    (case xb7 => k_is)
    (case xg3 => k_is)
    (case xn3 => k_is)
    (case xf3 => k_is)
    (case xb3 => k_is)
    (case xg1 => k_is)
    (case xn1 => k_is)
    (case xf1 => k_is)
    (case xb1 => k_is)
    (case xg2 => k_is)
    (case xn2 => k_is)
    (case xf2 => k_is)
    (case xb2 => k_is)
    (case xg5 => k_is)
    (case xn5 => k_is)
    (case xf5 => k_is)
    (case xb5 => k_is)
    (case xg4 => k_is)
    (case xn4 => k_is)
    (case xf4 => k_is)
    (case xb4 => k_is)
    (case xg6 => k_is)
    (case xn6 => k_is)
    (case xf6 => k_is)
    (case xb6 => k_is)
    (case xo0 => k_is)
    (case xt0 => k_is)
    (case xo1 => k_is)
    (case xt1 => k_is)
    (case xo2 => k_is)
    (case xt2 => k_is)
    (case xo3 => k_is)
    (case xt3 => k_is)
    (case xo4 => k_is)
    (case xt4 => k_is)
    (case xo5 => k_is)
    (case xt5 => k_is)
    (case xo6 => k_is)
    (case xt6 => k_is)
    (case xo7 => k_is)
    (case xt7 => k_is)
    (case xo8 => k_is)
    (case xt8 => k_is)
    (case xo9 => k_is)
    (case xt9 => k_is)
    (case xo10 => k_is)
    (case xt10 => k_is)
    (case xo11 => k_is)
    (case xt11 => k_is)
    (case xo12 => k_is)
    (case xt12 => k_is)
    (case xo13 => k_is)
    (case xt13 => k_is)
    (case xw8 => k_is)
    (case xm8_0 => k_is)
    (case xm8_7 => k_is)
    (case xm8_3 => k_is)
    (case xm8_1 => k_is)
    (case xm8_2 => k_is)
    (case xm8_5 => k_is)
    (case xm8_4 => k_is)
    (case xm8_6 => k_is)
    (case xk3_0 => k_is)
    (case vnx3_0 => decide)
    (case xk3_7 => k_is)
    (case vnx3_7 => decide)
    (case xk3_3 => k_is)
    (case xk3_1 => k_is)
    (case vnx3_1 => decide)
    (case xk3_2 => k_is)
    (case vnx3_2 => decide)
    (case xk3_5 => k_is)
    (case vnx3_5 => decide)
    (case xk3_4 => k_is)
    (case vnx3_4 => decide)
    (case xk3_6 => k_is)
    (case vnx3_6 => decide)
    (case xk1_0 => k_is)
    (case vnx1_0 => decide)
    (case xk1_7 => k_is)
    (case vnx1_7 => decide)
    (case xk1_3 => k_is)
    (case vnx1_3 => decide)
    (case xk1_1 => k_is)
    (case xk1_2 => k_is)
    (case vnx1_2 => decide)
    (case xk1_5 => k_is)
    (case vnx1_5 => decide)
    (case xk1_4 => k_is)
    (case vnx1_4 => decide)
    (case xk1_6 => k_is)
    (case vnx1_6 => decide)
    (case xk7_0 => k_is)
    (case vnx7_0 => decide)
    (case xk7_7 => k_is)
    (case xk7_3 => k_is)
    (case vnx7_3 => decide)
    (case xk7_1 => k_is)
    (case vnx7_1 => decide)
    (case xk7_2 => k_is)
    (case vnx7_2 => decide)
    (case xk7_5 => k_is)
    (case vnx7_5 => decide)
    (case xk7_4 => k_is)
    (case vnx7_4 => decide)
    (case xk7_6 => k_is)
    (case vnx7_6 => decide)
    (case xk5_0 => k_is)
    (case vnx5_0 => decide)
    (case xk5_7 => k_is)
    (case vnx5_7 => decide)
    (case xk5_3 => k_is)
    (case vnx5_3 => decide)
    (case xk5_1 => k_is)
    (case vnx5_1 => decide)
    (case xk5_2 => k_is)
    (case vnx5_2 => decide)
    (case xk5_5 => k_is)
    (case xk5_4 => k_is)
    (case vnx5_4 => decide)
    (case xk5_6 => k_is)
    (case vnx5_6 => decide)
    (case xk0_0 => k_is)
    (case xk0_7 => k_is)
    (case vnx0_7 => decide)
    (case xk0_3 => k_is)
    (case vnx0_3 => decide)
    (case xk0_1 => k_is)
    (case vnx0_1 => decide)
    (case xk0_2 => k_is)
    (case vnx0_2 => decide)
    (case xk0_5 => k_is)
    (case vnx0_5 => decide)
    (case xk0_4 => k_is)
    (case vnx0_4 => decide)
    (case xk0_6 => k_is)
    (case vnx0_6 => decide)
    (case xk9_0 => k_is)
    (case vnx9_0 => decide)
    (case xk9_7 => k_is)
    (case vnx9_7 => decide)
    (case xk9_3 => k_is)
    (case vnx9_3 => decide)
    (case xk9_1 => k_is)
    (case vnx9_1 => decide)
    (case xk9_2 => k_is)
    (case vnx9_2 => decide)
    (case xk9_5 => k_is)
    (case vnx9_5 => decide)
    (case xk9_4 => k_is)
    (case vnx9_4 => decide)
    (case xk9_6 => k_is)
    (case vnx9_6 => decide)
    (case xk4_0 => k_is)
    (case vnx4_0 => decide)
    (case xk4_7 => k_is)
    (case vnx4_7 => decide)
    (case xk4_3 => k_is)
    (case vnx4_3 => decide)
    (case xk4_1 => k_is)
    (case vnx4_1 => decide)
    (case xk4_2 => k_is)
    (case vnx4_2 => decide)
    (case xk4_5 => k_is)
    (case vnx4_5 => decide)
    (case xk4_4 => k_is)
    (case xk4_6 => k_is)
    (case vnx4_6 => decide)
    (case xk2_0 => k_is)
    (case vnx2_0 => decide)
    (case xk2_7 => k_is)
    (case vnx2_7 => decide)
    (case xk2_3 => k_is)
    (case vnx2_3 => decide)
    (case xk2_1 => k_is)
    (case vnx2_1 => decide)
    (case xk2_2 => k_is)
    (case xk2_5 => k_is)
    (case vnx2_5 => decide)
    (case xk2_4 => k_is)
    (case vnx2_4 => decide)
    (case xk2_6 => k_is)
    (case vnx2_6 => decide)
    (case xk6_0 => k_is)
    (case vnx6_0 => decide)
    (case xk6_7 => k_is)
    (case vnx6_7 => decide)
    (case xk6_3 => k_is)
    (case vnx6_3 => decide)
    (case xk6_1 => k_is)
    (case vnx6_1 => decide)
    (case xk6_2 => k_is)
    (case vnx6_2 => decide)
    (case xk6_5 => k_is)
    (case vnx6_5 => decide)
    (case xk6_4 => k_is)
    (case vnx6_4 => decide)
    (case xk6_6 => k_is)
    (case xk10_0 => k_is)
    (case vnx10_0 => decide)
    (case xk10_7 => k_is)
    (case vnx10_7 => decide)
    (case xk10_3 => k_is)
    (case vnx10_3 => decide)
    (case xk10_1 => k_is)
    (case vnx10_1 => decide)
    (case xk10_2 => k_is)
    (case vnx10_2 => decide)
    (case xk10_5 => k_is)
    (case vnx10_5 => decide)
    (case xk10_4 => k_is)
    (case vnx10_4 => decide)
    (case xk10_6 => k_is)
    (case vnx10_6 => decide)
    (case xk11_0 => k_is)
    (case vnx11_0 => decide)
    (case xk11_7 => k_is)
    (case vnx11_7 => decide)
    (case xk11_3 => k_is)
    (case vnx11_3 => decide)
    (case xk11_1 => k_is)
    (case vnx11_1 => decide)
    (case xk11_2 => k_is)
    (case vnx11_2 => decide)
    (case xk11_5 => k_is)
    (case vnx11_5 => decide)
    (case xk11_4 => k_is)
    (case vnx11_4 => decide)
    (case xk11_6 => k_is)
    (case vnx11_6 => decide)
    (case xk12_0 => k_is)
    (case vnx12_0 => decide)
    (case xk12_7 => k_is)
    (case vnx12_7 => decide)
    (case xk12_3 => k_is)
    (case vnx12_3 => decide)
    (case xk12_1 => k_is)
    (case vnx12_1 => decide)
    (case xk12_2 => k_is)
    (case vnx12_2 => decide)
    (case xk12_5 => k_is)
    (case vnx12_5 => decide)
    (case xk12_4 => k_is)
    (case vnx12_4 => decide)
    (case xk12_6 => k_is)
    (case vnx12_6 => decide)
    (case xk13_0 => k_is)
    (case vnx13_0 => decide)
    (case xk13_7 => k_is)
    (case vnx13_7 => decide)
    (case xk13_3 => k_is)
    (case vnx13_3 => decide)
    (case xk13_1 => k_is)
    (case vnx13_1 => decide)
    (case xk13_2 => k_is)
    (case vnx13_2 => decide)
    (case xk13_5 => k_is)
    (case vnx13_5 => decide)
    (case xk13_4 => k_is)
    (case vnx13_4 => decide)
    (case xk13_6 => k_is)
    (case vnx13_6 => decide)
    (case xv_ValueError_0 => k_is)
    (case xv_ValueError_7 => k_is)
    (case xv_ValueError_3 => k_is)
    (case xv_ValueError_1 => k_is)
    (case xv_ValueError_2 => k_is)
    (case xv_ValueError_5 => k_is)
    (case xv_ValueError_4 => k_is)
    (case xv_ValueError_6 => k_is)
    (case ke0 => k_is)
    case dd0|dd1 => (repeat (refine' TX.KDs.mk (TX.KD.mk ?a ?l ?c ?k) ?_;(case a|l|c|k => first|delta TX.Lk;k_is|k_is)));trivial
    case zz => (repeat (refine TX.KZs.mk (by k_is) ?_));trivial

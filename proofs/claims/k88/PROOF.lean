import PyProof.Rows.All
import KE.KDictList
import KE.KSortTup
import KE.KTreeD
import KE.KTryMore
import Wide.FinOn
import PySem.Challenge.RW_twoglass_k88_chains_thinned
set_option Elab.async false
set_option linter.all false
set_option maxRecDepth 100000
section
open PySem PySem.W PyProof.Rows
theorem PySem.W.Fast.tw14312455110391311777 : True := trivial
theorem PySem.W.Fast.tw831951784811406147 : True := trivial
theorem PySem.W.Fast.tw14047592763430750223 : True := trivial
theorem PySem.W.Fast.tw10309780320451814421 : True := trivial
theorem PySem.W.Fast.tw17304539627028707689 : True := trivial
theorem PySem.W.Fast.tw18120757836660745833 : True := trivial
theorem PySem.W.Fast.tw8314047261902465883 : True := trivial
theorem PySem.W.Fast.tw4978484559250849603 : True := trivial
theorem PySem.W.Fast.tw10410330063318559891 : True := trivial
theorem PySem.W.Fast.tw3529679373163955410 : True := trivial
theorem PySem.W.Fast.tw13568000535779322140 : True := trivial
theorem PySem.W.Fast.tw2078162859789799445 : True := trivial
theorem PySem.W.Fast.tw5806977745424126353 : True := trivial
theorem PySem.W.Fast.tw1592062675242476864 : True := trivial
theorem PySem.W.Fast.tw17137937993825515950 : True := trivial
theorem PySem.W.Fast.tw16123930964916038760 : True := trivial
theorem PySem.W.Fast.tw7123538646070232450 : True := trivial
theorem PySem.W.Fast.tw4331729209016974491 : True := trivial
theorem PySem.W.Fast.tw11843207835644142136 : True := trivial
theorem PySem.W.Fast.tw18264520146170761964 : True := trivial
theorem PySem.W.Fast.tw7230841343600881887 : True := trivial
theorem PySem.W.Fast.tw87907212163373562 : True := trivial
theorem PySem.W.Fast.tw15613837123830759676 : True := trivial
theorem PySem.W.Fast.tw10907796492663034684 : True := trivial
theorem PySem.W.Fast.tw1480981922621431863 : True := trivial
theorem PySem.W.Fast.tw13613723052471416822 : True := trivial
theorem PySem.W.Fast.tw10971191693197184386 : True := trivial
theorem PySem.W.Fast.tw1035684699913768968 : True := trivial
theorem PySem.W.Fast.tw18117842898467586881 : True := trivial
theorem PySem.W.Fast.tw18430019751951784902 : True := trivial
theorem PySem.W.Fast.tw12974556216826379740 : True := trivial
theorem PySem.W.Fast.tw4655534054566299051 : True := trivial
theorem PySem.W.Fast.tw35520819104939386 : True := trivial
theorem PySem.W.Fast.tw12724048496460003038 : True := trivial
theorem PySem.W.Fast.tw5360079388538316316 : True := trivial
theorem PySem.W.Fast.tw1122479508447999732 : True := trivial
theorem PySem.W.Fast.tw13126838271777586642 : True := trivial
theorem PySem.W.Fast.tw3590386842592240619 : True := trivial
theorem PySem.W.Fast.tw3363302493490930701 : True := trivial
theorem PySem.W.Fast.tw10906619905820565500 : True := trivial
theorem PySem.W.Fast.tw16801042104313504782 : True := trivial
theorem PySem.W.Fast.tw10568357024974468773 : True := trivial
theorem PySem.W.Fast.tw14097567271836201710 : True := trivial
theorem PySem.W.Fast.tw1458417028341653857 : True := trivial
theorem PySem.W.Fast.tw16931350247449320451 : True := trivial
theorem PySem.W.Fast.tw4125154692672219710 : True := trivial
theorem PySem.W.Fast.tw3884263228229257466 : True := trivial
theorem PySem.W.Fast.tw12409003642198540721 : True := trivial
theorem PySem.W.Fast.tw18285047512591278695 : True := trivial
theorem PySem.W.Fast.tw16910281040682155726 : True := trivial
theorem PySem.W.Fast.tw11598415856513866662 : True := trivial
theorem PySem.W.Fast.tw5965434282156918044 : True := trivial
theorem PySem.W.Fast.tw6758142517739237625 : True := trivial
theorem PySem.W.Fast.tw2407824433989872194 : True := trivial
theorem PySem.W.Fast.tw10871001703241655979 : True := trivial
theorem PySem.W.Fast.tw13241496484199378842 : True := trivial
theorem PySem.W.Fast.tw16735626559276990927 : True := trivial
theorem PySem.W.Fast.tw9292895466274174947 : True := trivial
theorem PySem.W.Fast.tw10639898582662684189 : True := trivial
theorem PySem.W.Fast.tw2814798997369168662 : True := trivial
theorem PySem.W.Fast.tw4571047129890094486 : True := trivial
theorem PySem.W.Fast.tw3583421642953652960 : True := trivial
theorem PySem.W.Fast.tw11647061727113533692 : True := trivial
theorem PySem.W.Fast.tw11059355604424130977 : True := trivial
theorem PySem.W.Fast.tw15876940274842245356 : True := trivial
theorem PySem.W.Fast.tw310721439503321182 : True := trivial
theorem PySem.W.Fast.tw14888116076433726524 : True := trivial
theorem PySem.W.Fast.tw2322281937819066715 : True := trivial
theorem PySem.W.Fast.tw1712689233626930607 : True := trivial
theorem PySem.W.Fast.tw981282991494493934 : True := trivial
theorem PySem.W.Fast.tw8719292423685060428 : True := trivial
theorem PySem.W.Fast.tw12756951509316223614 : True := trivial
theorem PySem.W.Fast.tw12475713738600185796 : True := trivial
theorem PySem.W.Fast.tw4323790554595625040 : True := trivial
theorem PySem.W.Fast.tw15213666411550149128 : True := trivial
theorem PySem.W.Fast.tw12874398788034372329 : True := trivial
theorem PySem.W.Fast.tw7103935362920993725 : True := trivial
theorem PySem.W.Fast.tw5575839603590221663 : True := trivial
theorem PySem.W.Fast.tw7055627070541855783 : True := trivial
theorem PySem.W.Fast.tw2382319790608785308 : True := trivial
theorem PySem.W.Fast.tw5786968059575486585 : True := trivial
theorem PySem.W.Fast.tw11325576248849685955 : True := trivial
theorem PySem.W.Fast.tw5612202472350315165 : True := trivial
theorem PySem.W.Fast.tw16790346190091156444 : True := trivial
theorem PySem.W.Fast.tw12192000563716473026 : True := trivial
theorem PySem.W.Fast.tw18272330353299303375 : True := trivial
theorem PySem.W.Fast.tw14346268681062340711 : True := trivial
theorem PySem.W.Fast.tw13704792664327961775 : True := trivial
theorem PySem.W.Fast.tw4026131508411642130 : True := trivial
theorem PySem.W.Fast.tw16196983681221155036 : True := trivial
theorem PySem.W.Fast.tw17392834396068075584 : True := trivial
theorem PySem.W.Fast.tw15520440980702661523 : True := trivial
theorem PySem.W.Fast.tw11761795642800758629 : True := trivial
theorem PySem.W.Fast.tw2966023972027156903 : True := trivial
theorem PySem.W.Fast.tw9541671620179680760 : True := trivial
theorem PySem.W.Fast.tw1464013614445183354 : True := trivial
theorem PySem.W.Fast.tw8879086377839271141 : True := trivial
theorem PySem.W.Fast.tw11696592928850669886 : True := trivial
theorem PySem.W.Fast.tw7661183494596073280 : True := trivial
theorem PySem.W.Fast.tw13291789567471442312 : True := trivial
theorem PySem.W.Fast.tw10606917950193116410 : True := trivial
theorem PySem.W.Fast.tw4201108248753885759 : True := trivial
theorem PySem.W.Fast.tw8667908260144522568 : True := trivial
theorem PySem.W.Fast.tw1696683985385417680 : True := trivial
theorem PySem.W.Fast.tw19424578723479404 : True := trivial
theorem PySem.W.Fast.tw5814234441129537377 : True := trivial
theorem PySem.W.Fast.tw13393757600674900654 : True := trivial
theorem PySem.W.Fast.tw17448992052982533075 : True := trivial
theorem PySem.W.Fast.tw3780504148302879149 : True := trivial
theorem PySem.W.Fast.tw2902397586049189950 : True := trivial
theorem PySem.W.Fast.tw11620949916422846478 : True := trivial
theorem PySem.W.Fast.tw12318123773300143752 : True := trivial
theorem PySem.W.Fast.tw13544051456671336928 : True := trivial
theorem PySem.W.Fast.tw5841009706352812047 : True := trivial
theorem PySem.W.Fast.tw8615919291851983150 : True := trivial
theorem PySem.W.Fast.tw2457109684939536349 : True := trivial
theorem PySem.W.Fast.tw10506682049161194138 : True := trivial
theorem PySem.W.Fast.tw2089420122175640042 : True := trivial
theorem PySem.W.Fast.tw11774687816696070827 : True := trivial
theorem PySem.W.Fast.tw5466988593795479074 : True := trivial
theorem PySem.W.Fast.tw17214200166000248986 : True := trivial
theorem PySem.W.Fast.tw9782236018878198140 : True := trivial
theorem PySem.W.Fast.tw15475909675135454376 : True := trivial
theorem PySem.W.Fast.tw6759146641209232887 : True := trivial
theorem PySem.W.Fast.tw7804703912359070343 : True := trivial
theorem PySem.W.Fast.tw15920605755231574361 : True := trivial
theorem PySem.W.Fast.tw6656328319394107050 : True := trivial
theorem PySem.W.Fast.tw4665444523909292529 : True := trivial
theorem PySem.W.Fast.tw5924097802445963600 : True := trivial
theorem PySem.W.Fast.tw7481135858117091480 : True := trivial
theorem PySem.W.Fast.tw9551649370988959368 : True := trivial
theorem PySem.W.Fast.tw12795831046118881223 : True := trivial
theorem PySem.W.Fast.tw16300150982569179413 : True := trivial
theorem PySem.W.Fast.tw5576902994691235901 : True := trivial
theorem PySem.W.Fast.tw1827763056563456062 : True := trivial
theorem PySem.W.Fast.tw12901923603914224613 : True := trivial
theorem PySem.W.Fast.tw13001088427420768593 : True := trivial
theorem PySem.W.Fast.tw7743825795141701735 : True := trivial
theorem PySem.W.Fast.tw18219593664240491615 : True := trivial
theorem PySem.W.Fast.tw3877428150482811199 : True := trivial
theorem PySem.W.Fast.tw17312131674707214831 : True := trivial
theorem PySem.W.Fast.tw8793638056479320933 : True := trivial
theorem PySem.W.Fast.tw15405274788654538126 : True := trivial
theorem PySem.W.Fast.tw11756242862941391547 : True := trivial
theorem PySem.W.Fast.tw8761883425150934530 : True := trivial
theorem PySem.W.Fast.tw14369115824137888343 : True := trivial
theorem PySem.W.Fast.tw4653313402345327436 : True := trivial
theorem PySem.W.Fast.tw9252251329697793523 : True := trivial
theorem PySem.W.Fast.tw7667261915188672315 : True := trivial
theorem PySem.W.Fast.tw18430141303734654737 : True := trivial
theorem PySem.W.Fast.tw12687495487525742482 : True := trivial
theorem PySem.W.Fast.tw17505210689382209900 : True := trivial
theorem PySem.W.Fast.tw2121698788136009381 : True := trivial
theorem PySem.W.Fast.tw15427124048488035464 : True := trivial
theorem PySem.W.Fast.tw9596505185037567643 : True := trivial
theorem PySem.W.Fast.tw7441411834184022855 : True := trivial
theorem PySem.W.Fast.tw18282743029940866544 : True := trivial
theorem PySem.W.Fast.tw4713145906139243396 : True := trivial
theorem PySem.W.Fast.tw5821515717950550882 : True := trivial
theorem PySem.W.Fast.tw5709852969624305714 : True := trivial
theorem PySem.W.Fast.tw10323417035076522308 : True := trivial
theorem PySem.W.Fast.tw8350781467809376745 : True := trivial
theorem PySem.W.Fast.tw15024245838069415281 : True := trivial
theorem PySem.W.Fast.tw14056519871348805551 : True := trivial
theorem PySem.W.Fast.tw14779709081706920473 : True := trivial
theorem PySem.W.Fast.tw4199835989431129115 : True := trivial
theorem PySem.W.Fast.tw11775702668319840355 : True := trivial
theorem PySem.W.Fast.tw2071541374595685096 : True := trivial
theorem PySem.W.Fast.tw11219359509518652475 : True := trivial
theorem PySem.W.Fast.tw17371670597876575571 : True := trivial
theorem PySem.W.Fast.tw2459866991068197323 : True := trivial
theorem PySem.W.Fast.tw13606978996276629372 : True := trivial
theorem PySem.W.Fast.tw11854460563875181911 : True := trivial
theorem PySem.W.Fast.tw13577344502441592066 : True := trivial
theorem PySem.W.Fast.tw16130585923208160411 : True := trivial
theorem PySem.W.Fast.tw14694410694651242731 : True := trivial
theorem PySem.W.Fast.tw11812306256778118654 : True := trivial
theorem PySem.W.Fast.tw7976959273966056454 : True := trivial
theorem PySem.W.Fast.tw14357870558025725085 : True := trivial
theorem PySem.W.Fast.tw2254768260803024374 : True := trivial
theorem PySem.W.Fast.tw15301998160575416258 : True := trivial
theorem PySem.W.Fast.tw14912146864764885949 : True := trivial
theorem PySem.W.Fast.tw3941363906331156627 : True := trivial
theorem PySem.W.Fast.tw547736257356662892 : True := trivial
theorem PySem.W.Fast.tw2382898436669508298 : True := trivial
theorem PySem.W.Fast.tw3190189837956749634 : True := trivial
theorem PySem.W.Fast.tw4439357283598996149 : True := trivial
theorem PySem.W.Fast.tw7596483023234803519 : True := trivial
theorem PySem.W.Fast.tw286635492129810586 : True := trivial
theorem PySem.W.Fast.tw9872758587365775358 : True := trivial
theorem PySem.W.Fast.tw6446310620770946464 : True := trivial
theorem PySem.W.Fast.tw6975655507091376755 : True := trivial
theorem PySem.W.Fast.tw1520991110244051697 : True := trivial
theorem PySem.W.Fast.tw10177670986108881490 : True := trivial
theorem PySem.W.Fast.tw16906753849743597309 : True := trivial
theorem PySem.W.Fast.tw2303530459744759556 : True := trivial
theorem PySem.W.Fast.tw9457874897910875252 : True := trivial
theorem PySem.W.Fast.tw7017266710437272425 : True := trivial
theorem PySem.W.Fast.tw3195446540865594260 : True := trivial
theorem PySem.W.Fast.tw3046815982375068459 : True := trivial
theorem PySem.W.Fast.tw4344268518618482208 : True := trivial
theorem PySem.W.Fast.tw10885849199501272324 : True := trivial
theorem PySem.W.Fast.tw8106818104500361976 : True := trivial
theorem PySem.W.Fast.tw12627109329114500322 : True := trivial
theorem PySem.W.Fast.tw13796660948722768148 : True := trivial
theorem PySem.W.Fast.tw8778124633323079783 : True := trivial
theorem PySem.W.Fast.tw4109476345942368856 : True := trivial
theorem PySem.W.Fast.tw3246526857771114714 : True := trivial
theorem PySem.W.Fast.tw5261626776567471692 : True := trivial
theorem PySem.W.Fast.tw11711192125789784489 : True := trivial
theorem PySem.W.Fast.tw1865914514571804518 : True := trivial
theorem PySem.W.Fast.tw2973752671135456009 : True := trivial
theorem PySem.W.Fast.tw12606992912428738262 : True := trivial
theorem PySem.W.Fast.tw8109958651896130653 : True := trivial
theorem PySem.W.Fast.tw16779875687206747533 : True := trivial
theorem PySem.W.Fast.tw17384381552831910138 : True := trivial
theorem PySem.W.Fast.tw5167676620202365671 : True := trivial
theorem PySem.W.Fast.tw2368607925600215133 : True := trivial
theorem PySem.W.Fast.tw1091846713363616054 : True := trivial
theorem PySem.W.Fast.tw3083904244376245633 : True := trivial
theorem PySem.W.Fast.tw12339767184099660844 : True := trivial
theorem PySem.W.Fast.tw13460584663708141874 : True := trivial
theorem PySem.W.Fast.tw16494941299908324439 : True := trivial
theorem PySem.W.Fast.tw14408616180216978685 : True := trivial
theorem PySem.W.Fast.tw12569587493519170317 : True := trivial
theorem PySem.W.Fast.tw4818115990471043463 : True := trivial
theorem PySem.W.Fast.tw3049265423794121526 : True := trivial
theorem PySem.W.Fast.tw9150179569674043654 : True := trivial
theorem PySem.W.Fast.tw13672217725192403875 : True := trivial
theorem PySem.W.Fast.tw5152339217784349697 : True := trivial
theorem PySem.W.Fast.tw6127515457759345949 : True := trivial
theorem PySem.W.Fast.tw3750521897529156271 : True := trivial
theorem PySem.W.Fast.tw6967093572738821649 : True := trivial
theorem PySem.W.Fast.tw12523538292663637688 : True := trivial
theorem PySem.W.Fast.tw6835274331370525775 : True := trivial
theorem PySem.W.Fast.tw12982904043756567090 : True := trivial
theorem PySem.W.Fast.tw2167432373727897522 : True := trivial
theorem PySem.W.Fast.tw12608376935396956973 : True := trivial
theorem PySem.W.Fast.tw14834797083230759734 : True := trivial
theorem PySem.W.Fast.tw17493745317711235816 : True := trivial
theorem PySem.W.Fast.tw15000774560389588848 : True := trivial
theorem PySem.W.Fast.tw3994196091847107899 : True := trivial
theorem PySem.W.Fast.tw9244662669300689945 : True := trivial
theorem PySem.W.Fast.tw13453557930629343942 : True := trivial
theorem PySem.W.Fast.tw6784999226267972617 : True := trivial
theorem PySem.W.Fast.tw14266654074405023248 : True := trivial
theorem PySem.W.Fast.tw5963309297259556654 : True := trivial
theorem PySem.W.Fast.tw4210873210150166254 : True := trivial
theorem PySem.W.Fast.tw14944321414081245524 : True := trivial
theorem PySem.W.Fast.tw8959755598892992813 : True := trivial
theorem PySem.W.Fast.tw12439494803373322799 : True := trivial
theorem PySem.W.Fast.tw14982605703169532602 : True := trivial
theorem PySem.W.Fast.tw5513111280597414136 : True := trivial
theorem PySem.W.Fast.tw6076307330175255560 : True := trivial
theorem PySem.W.Fast.tw5171998684993241460 : True := trivial
theorem PySem.W.Fast.tw10531281536080032849 : True := trivial
theorem PySem.W.Fast.tw9000311952068082066 : True := trivial
theorem PySem.W.Fast.tw8866593688390725115 : True := trivial
theorem PySem.W.Fast.tw898809754166151719 : True := trivial
theorem PySem.W.Fast.tw6359453635917843057 : True := trivial
theorem PySem.W.Fast.tw8034690784572470839 : True := trivial
theorem PySem.W.Fast.tw12902768132131803724 : True := trivial
theorem PySem.W.Fast.tw10250375339899950230 : True := trivial
theorem PySem.W.Fast.tw5726826615812952722 : True := trivial
theorem PySem.W.Fast.tw12450097366890060173 : True := trivial
theorem PySem.W.Fast.tw8776230721569746601 : True := trivial
theorem PySem.W.Fast.tw15043789586649844884 : True := trivial
theorem PySem.W.Fast.tw8993817187698978009 : True := trivial
theorem PySem.W.Fast.tw2061118828682089595 : True := trivial
theorem PySem.W.Fast.tw17841915409134742692 : True := trivial
theorem PySem.W.Fast.tw13372006132351667036 : True := trivial
theorem PySem.W.Fast.tw9809959864706301419 : True := trivial
theorem PySem.W.Fast.tw13720915255774102405 : True := trivial
theorem PySem.W.Fast.tw6630466431352632648 : True := trivial
theorem PySem.W.Fast.tw2839685074535441690 : True := trivial
theorem PySem.W.Fast.tw110700861220955368 : True := trivial
theorem PySem.W.Fast.tw15887122555772757155 : True := trivial
theorem PySem.W.Fast.tw2027229136616428876 : True := trivial
theorem PySem.W.Fast.tw4559086883826314708 : True := trivial
theorem PySem.W.Fast.tw7700471997654838750 : True := trivial
theorem PySem.W.Fast.tw5685353956823455610 : True := trivial
theorem PySem.W.Fast.tw17268381797191839532 : True := trivial
theorem PySem.W.Fast.tw10771866950998979646 : True := trivial
theorem PySem.W.Fast.tw962654496762786876 : True := trivial
theorem PySem.W.Fast.tw15435966377194509041 : True := trivial
theorem PySem.W.Fast.tw4367016945451904185 : True := trivial
theorem PySem.W.Fast.tw4502254392520474225 : True := trivial
theorem PySem.W.Fast.tw6413299706478037355 : True := trivial
theorem PySem.W.Fast.tw13636472972783590806 : True := trivial
theorem PySem.W.Fast.tw1145878983020507815 : True := trivial
theorem PySem.W.Fast.tw16477572018475427601 : True := trivial
theorem PySem.W.Fast.tw5485228778770834660 : True := trivial
theorem PySem.W.Fast.tw4535434510952151632 : True := trivial
theorem PySem.W.Fast.tw6802743563355725499 : True := trivial
theorem PySem.W.Fast.tw15275075666310250755 : True := trivial
theorem PySem.W.Fast.tw8151852934940896359 : True := trivial
theorem PySem.W.Fast.tw4546117333063182025 : True := trivial
theorem PySem.W.Fast.tw16140809582540034052 : True := trivial
theorem PySem.W.Fast.tw11610959827886918119 : True := trivial
theorem PySem.W.Fast.tw16200684145339712602 : True := trivial
theorem PySem.W.Fast.tw10516711196977714828 : True := trivial
theorem PySem.W.Fast.tw10924920351110708136 : True := trivial
theorem PySem.W.Fast.tw9049147692007416094 : True := trivial
theorem PySem.W.Fast.tw5212237263269291017 : True := trivial
theorem PySem.W.Fast.tw5573510363609843865 : True := trivial
theorem PySem.W.Fast.tw2906759842025078614 : True := trivial
theorem PySem.W.Fast.tw13521991963202471384 : True := trivial
theorem PySem.W.Fast.tw18418724148371997598 : True := trivial
theorem PySem.W.Fast.tw3768777194536343820 : True := trivial
theorem PySem.W.Fast.tw8845693420028399034 : True := trivial
theorem PySem.W.Fast.tw16428291385723000942 : True := trivial
theorem PySem.W.Fast.tw8543775024559370957 : True := trivial
theorem PySem.W.Fast.tw10629836480450795490 : True := trivial
theorem PySem.W.Fast.tw10485311005509895624 : True := trivial
theorem PySem.W.Fast.tw3549936805452653774 : True := trivial
theorem PySem.W.Fast.tw16524812434674488820 : True := trivial
theorem PySem.W.Fast.tw8469506464549066495 : True := trivial
theorem PySem.W.Fast.tw5429284901423445577 : True := trivial
theorem PySem.W.Fast.tw1032463558947145229 : True := trivial
theorem PySem.W.Fast.tw5787817843138764837 : True := trivial
theorem PySem.W.Fast.tw14613464653351045606 : True := trivial
theorem PySem.W.Fast.tw16422146541669973580 : True := trivial
theorem PySem.W.Fast.tw9405468768588644110 : True := trivial
theorem PySem.W.Fast.tw8210254922467708484 : True := trivial
theorem PySem.W.Fast.tw16837950507771631604 : True := trivial
theorem PySem.W.Fast.tw10009679253356569090 : True := trivial
theorem PySem.W.Fast.tw2221046445011229085 : True := trivial
theorem PySem.W.Fast.tw6196116598727112972 : True := trivial
theorem PySem.W.Fast.tw1030147909016064470 : True := trivial
theorem PySem.W.Fast.tw15830496524772646242 : True := trivial
theorem PySem.W.Fast.tw14454554842324594145 : True := trivial
theorem PySem.W.Fast.tw507796167113908753 : True := trivial
theorem PySem.W.Fast.tw16522723147432126414 : True := trivial
theorem PySem.W.Fast.tw1943091815808986110 : True := trivial
theorem PySem.W.Fast.tw16708288210285055734 : True := trivial
theorem PySem.W.Fast.tw9417234192253357441 : True := trivial
theorem PySem.W.Fast.tw15148090185057654563 : True := trivial
theorem PySem.W.Fast.tw225225581955940119 : True := trivial
theorem PySem.W.Fast.tw11185105542069216138 : True := trivial
theorem PySem.W.Fast.tw14448923020865925719 : True := trivial
theorem PySem.W.Fast.tw12107513222638634974 : True := trivial
theorem PySem.W.Fast.tw3482521553777414326 : True := trivial
theorem PySem.W.Fast.tw11449474295401564490 : True := trivial
theorem PySem.W.Fast.tw14080605570080912963 : True := trivial
theorem PySem.W.Fast.tw6697616139042906721 : True := trivial
theorem PySem.W.Fast.tw7513029739630042089 : True := trivial
theorem PySem.W.Fast.tw5282703749212052021 : True := trivial
theorem PySem.W.Fast.tw12517366353625823978 : True := trivial
theorem PySem.W.Fast.tw4861513047407676418 : True := trivial
theorem PySem.W.Fast.tw1236506387404264944 : True := trivial
theorem PySem.W.Fast.tw15072795447746023506 : True := trivial
theorem PySem.W.Fast.tw16898334101681508522 : True := trivial
theorem PySem.W.Fast.tw10920086997194315967 : True := trivial
theorem PySem.W.Fast.tw9793087612355576676 : True := trivial
theorem PySem.W.Fast.tw2197446264434265313 : True := trivial
theorem PySem.W.Fast.tw13834495036966903107 : True := trivial
theorem PySem.W.Fast.tw2717819616271407459 : True := trivial
theorem PySem.W.Fast.tw8862617595721992288 : True := trivial
theorem PySem.W.Fast.tw5231792664701608848 : True := trivial
theorem PySem.W.Fast.tw7810898577107658388 : True := trivial
theorem PySem.W.Fast.tw9171857768485185810 : True := trivial
theorem PySem.W.Fast.tw4019828627141350958 : True := trivial
theorem PySem.W.Fast.tw9773520915037604568 : True := trivial
theorem PySem.W.Fast.tw14644988868480147087 : True := trivial
theorem PySem.W.Fast.tw10675015102410840207 : True := trivial
theorem PySem.W.Fast.tw5353950008642072359 : True := trivial
theorem PySem.W.Fast.tw8247946549565839258 : True := trivial
theorem PySem.W.Fast.tw814473042036755491 : True := trivial
theorem PySem.W.Fast.tw11300208207711245720 : True := trivial
theorem PySem.W.Fast.tw3148953190168147763 : True := trivial
theorem PySem.W.Fast.tw5956617329607648401 : True := trivial
theorem PySem.W.Fast.tw2016277826704035952 : True := trivial
theorem PySem.W.Fast.tw7752066945202924942 : True := trivial
theorem PySem.W.Fast.tw5509875401992811758 : True := trivial
theorem PySem.W.Fast.tw8046758372497352488 : True := trivial
theorem PySem.W.Fast.tw3279639252510861187 : True := trivial
theorem PySem.W.Fast.tw3234779992249532281 : True := trivial
theorem PySem.W.Fast.tw11179875306045355291 : True := trivial
theorem PySem.W.Fast.tw15034081592546321609 : True := trivial
theorem PySem.W.Fast.tw15363526083315018587 : True := trivial
theorem PySem.W.Fast.tw9733497983137851870 : True := trivial
theorem PySem.W.Fast.tw14734008136589365321 : True := trivial
theorem PySem.W.Fast.tw17608619231202364501 : True := trivial
theorem PySem.W.Fast.tw14275546562263964863 : True := trivial
theorem PySem.W.Fast.tw1532227046288644003 : True := trivial
theorem PySem.W.Fast.tw13939670193325637554 : True := trivial
theorem PySem.W.Fast.tw6979351139136941843 : True := trivial
theorem PySem.W.Fast.tw16665896109233909930 : True := trivial
theorem PySem.W.Fast.tw12689532566137767772 : True := trivial
theorem PySem.W.Fast.tw16836628053033342658 : True := trivial
theorem PySem.W.Fast.tw9847270331664681863 : True := trivial
theorem PySem.W.Fast.tw270571381807577972 : True := trivial
theorem PySem.W.Fast.tw3851277409994325965 : True := trivial
theorem PySem.W.Fast.tw7843863022027064672 : True := trivial
theorem PySem.W.Fast.tw4647030021743963395 : True := trivial
theorem PySem.W.Fast.tw16815546636244083888 : True := trivial
theorem PySem.W.Fast.tw871808375467984641 : True := trivial
theorem PySem.W.Fast.tw14094986519627729503 : True := trivial
theorem PySem.W.Fast.tw17733624848578221934 : True := trivial
theorem PySem.W.Fast.tw17131505416119033857 : True := trivial
theorem PySem.W.Fast.tw15911700946627990135 : True := trivial
theorem PySem.W.Fast.tw12668051891880220669 : True := trivial
theorem PySem.W.Fast.tw10064472663982318613 : True := trivial
theorem PySem.W.Fast.tw914966655856597475 : True := trivial
theorem PySem.W.Fast.tw6078364908077422250 : True := trivial
theorem PySem.W.Fast.tw8002972112819756090 : True := trivial
theorem PySem.W.Fast.tw3933101249188515464 : True := trivial
theorem PySem.W.Fast.tw3358782218296354636 : True := trivial
theorem PySem.W.Fast.tw13185225155209919368 : True := trivial
theorem PySem.W.Fast.tw11657038348203429634 : True := trivial
theorem PySem.W.Fast.tw4262799928460718784 : True := trivial
theorem PySem.W.Fast.tw1120826851216991813 : True := trivial
theorem PySem.W.Fast.tw2166306539382558112 : True := trivial
theorem PySem.W.Fast.tw16363366147523645907 : True := trivial
theorem PySem.W.Fast.tw12266160572825811312 : True := trivial
theorem PySem.W.Fast.tw7566832287652677860 : True := trivial
theorem PySem.W.Fast.tw6198297273397662696 : True := trivial
theorem PySem.W.Fast.tw17285652405793589608 : True := trivial
theorem PySem.W.Fast.tw1869465917637212701 : True := trivial
theorem PySem.W.Fast.tw12909756057045995776 : True := trivial
theorem PySem.W.Fast.tw2508486307369777361 : True := trivial
theorem PySem.W.Fast.tw5381618609194890317 : True := trivial
theorem PySem.W.Fast.tw7786983458432770984 : True := trivial
theorem PySem.W.Fast.tw4766039569576490780 : True := trivial
theorem PySem.W.Fast.tw2534995175377742575 : True := trivial
theorem PySem.W.Fast.tw13078539852203870055 : True := trivial
theorem PySem.W.Fast.tw10565726258281083335 : True := trivial
theorem PySem.W.Fast.tw15773304280169197159 : True := trivial
theorem PySem.W.Fast.tw15526548946958367825 : True := trivial
theorem PySem.W.Fast.tw10003037981216156815 : True := trivial
theorem PySem.W.Fast.tw14865378636217448629 : True := trivial
theorem PySem.W.Fast.tw17566838172978761565 : True := trivial
theorem PySem.W.Fast.tw1983219475689614095 : True := trivial
theorem PySem.W.Fast.tw2563280079805707184 : True := trivial
theorem PySem.W.Fast.tw910581479117766775 : True := trivial
theorem PySem.W.Fast.tw3655465670159199611 : True := trivial
theorem PySem.W.Fast.tw4660060963592738720 : True := trivial
theorem PySem.W.Fast.tw10233312248839164166 : True := trivial
theorem PySem.W.Fast.tw3706698030581052543 : True := trivial
theorem PySem.W.Fast.tw8558791503065783026 : True := trivial
theorem PySem.W.Fast.tw11898025503536291942 : True := trivial
theorem PySem.W.Fast.tw12755444861081778252 : True := trivial
theorem PySem.W.Fast.tw7786245257249225307 : True := trivial
theorem PySem.W.Fast.tw5170229050513318940 : True := trivial
theorem PySem.W.Fast.tw12611078067232607075 : True := trivial
theorem PySem.W.Fast.tw296546838358866434 : True := trivial
theorem PySem.W.Fast.tw10912771121525641115 : True := trivial
theorem PySem.W.Fast.tw9096840964360027304 : True := trivial
theorem PySem.W.Fast.tw14099188575300521449 : True := trivial
theorem PySem.W.Fast.tw8209190612835807505 : True := trivial
theorem PySem.W.Fast.tw9151210720363639182 : True := trivial
theorem PySem.W.Fast.tw11312172140660320073 : True := trivial
theorem PySem.W.Fast.tw13688036377179345439 : True := trivial
theorem PySem.W.Fast.tw15112305803847747465 : True := trivial
theorem PySem.W.Fast.tw7083095809110289469 : True := trivial
theorem PySem.W.Fast.tw5473884348976682368 : True := trivial
theorem PySem.W.Fast.tw5682865837801664314 : True := trivial
theorem PySem.W.Fast.tw11697395006403271896 : True := trivial
theorem PySem.W.Fast.tw15447936719516285413 : True := trivial
theorem PySem.W.Fast.tw8516934561804888811 : True := trivial
theorem PySem.W.Fast.tw3427048201985287374 : True := trivial
theorem PySem.W.Fast.tw4851622170530464425 : True := trivial
theorem PySem.W.Fast.tw10027677432446720492 : True := trivial
theorem PySem.W.Fast.tw15468643367435730430 : True := trivial
theorem PySem.W.Fast.tw1132627906782840296 : True := trivial
theorem PySem.W.Fast.tw5612620310155332107 : True := trivial
theorem PySem.W.Fast.tw7001603105768092278 : True := trivial
theorem PySem.W.Fast.tw14296216654827948359 : True := trivial
theorem PySem.W.Fast.tw1713674636953021692 : True := trivial
theorem PySem.W.Fast.tw6540644657005838594 : True := trivial
theorem PySem.W.Fast.tw16286072597138209424 : True := trivial
theorem PySem.W.Fast.tw7701180212217554094 : True := trivial
theorem PySem.W.Fast.tw2621569296515633100 : True := trivial
theorem PySem.W.Fast.tw12548351349661374171 : True := trivial
theorem PySem.W.Fast.tw6236277725441117786 : True := trivial
theorem PySem.W.Fast.tw13070084657904656064 : True := trivial
theorem PySem.W.Fast.tw10535696245402165816 : True := trivial
theorem PySem.W.Fast.tw9912788432007523112 : True := trivial
theorem PySem.W.Fast.tw5952377028524945288 : True := trivial
theorem PySem.W.Fast.tw3742997670275961587 : True := trivial
theorem PySem.W.Fast.tw1847358872635302086 : True := trivial
theorem PySem.W.Fast.tw852023315554158141 : True := trivial
theorem PySem.W.Fast.tw13566255716365996548 : True := trivial
theorem PySem.W.Fast.tw11359569162370654742 : True := trivial
theorem PySem.W.Fast.tw8031446454853515554 : True := trivial
theorem PySem.W.Fast.tw18011393314296019057 : True := trivial
theorem PySem.W.Fast.tw1179375493033681784 : True := trivial
theorem PySem.W.Fast.tw2033780317468361493 : True := trivial
theorem PySem.W.Fast.tw65649768178349704 : True := trivial
theorem PySem.W.Fast.tw12373380610887672267 : True := trivial
theorem PySem.W.Fast.tw4866500602408266385 : True := trivial
theorem PySem.W.Fast.tw6312667195337667512 : True := trivial
theorem PySem.W.Fast.tw12319770243548818925 : True := trivial
theorem PySem.W.Fast.tw14435326889788746952 : True := trivial
theorem PySem.W.Fast.tw8348173766934761462 : True := trivial
theorem PySem.W.Fast.tw7333444410157286525 : True := trivial
theorem PySem.W.Fast.tw8236018970595900057 : True := trivial
theorem PySem.W.Fast.tw1054597415956788401 : True := trivial
theorem PySem.W.Fast.tw1110927414914996201 : True := trivial
theorem PySem.W.Fast.tw3310603723149469406 : True := trivial
theorem PySem.W.Fast.tw11351913564983436273 : True := trivial
theorem PySem.W.Fast.tw5032981391510508242 : True := trivial
theorem PySem.W.Fast.tw9040299538749061795 : True := trivial
theorem PySem.W.Fast.tw15893818978730522257 : True := trivial
theorem PySem.W.Fast.tw1176536258166711838 : True := trivial
theorem PySem.W.Fast.tw5303230770652446315 : True := trivial
theorem PySem.W.Fast.tw11419366061072322795 : True := trivial
theorem PySem.W.Fast.tw15332468202549368405 : True := trivial
theorem PySem.W.Fast.tw2630432107201413464 : True := trivial
theorem PySem.W.Fast.tw4943850031181598273 : True := trivial
theorem PySem.W.Fast.tw8116118732169728122 : True := trivial
theorem PySem.W.Fast.tw17457398546807929950 : True := trivial
theorem PySem.W.Fast.tw16169931245088379075 : True := trivial
theorem PySem.W.Fast.tw2072216058028408586 : True := trivial
theorem PySem.W.Fast.tw4297165425212275725 : True := trivial
theorem PySem.W.Fast.tw9026116581687462013 : True := trivial
theorem PySem.W.Fast.tw13488820477294045158 : True := trivial
theorem PySem.W.Fast.tw11857707706159145308 : True := trivial
theorem PySem.W.Fast.tw3276901444685268883 : True := trivial
theorem PySem.W.Fast.tw5202168659543228196 : True := trivial
theorem PySem.W.Fast.tw8120866996487845256 : True := trivial
theorem PySem.W.Fast.tw4207770114482403104 : True := trivial
theorem PySem.W.Fast.tw1426677498881450486 : True := trivial
theorem PySem.W.Fast.tw6702147130617017225 : True := trivial
theorem PySem.W.Fast.tw14461172152665689237 : True := trivial
theorem PySem.W.Fast.tw15446954082590014662 : True := trivial
theorem PySem.W.Fast.tw12693906266808995112 : True := trivial
theorem PySem.W.Fast.tw16278741249834383454 : True := trivial
theorem PySem.W.Fast.tw14098491878457901844 : True := trivial
theorem PySem.W.Fast.tw5640819429178828017 : True := trivial
theorem PySem.W.Fast.tw8578995353505276205 : True := trivial
theorem PySem.W.Fast.tw10558168955086117073 : True := trivial
theorem PySem.W.Fast.tw3525632504195164097 : True := trivial
theorem PySem.W.Fast.tw14473128753091634167 : True := trivial
theorem PySem.W.Fast.tw1780793245514247156 : True := trivial
theorem PySem.W.Fast.tw13055562810280577705 : True := trivial
theorem PySem.W.Fast.tw4430147191579022121 : True := trivial
theorem PySem.W.Fast.tw8073029371409062334 : True := trivial
theorem PySem.W.Fast.tw11604542152893192988 : True := trivial
theorem PySem.W.Fast.tw6831122485417095709 : True := trivial
theorem PySem.W.Fast.tw14702457658791233934 : True := trivial
theorem PySem.W.Fast.tw14922954873990377932 : True := trivial
theorem PySem.W.Fast.tw11834184086892908863 : True := trivial
theorem PySem.W.Fast.tw16227130894230719002 : True := trivial
theorem PySem.W.Fast.tw1697109170743276230 : True := trivial
theorem PySem.W.Fast.tw9594341284405957018 : True := trivial
theorem PySem.W.Fast.tw8608328165135510329 : True := trivial
set_option maxHeartbeats 0 in
open_top hd88 for PySem.Challenge.rw_twoglass_k88_chains_thinned
end
local macro_rules|`(tactic|omega)=>`(tactic|first|lia|omega (config:={}))
open List renaming filterMap_cons→Rt,mem_cons_self→Ru,mem_cons_of_mem→Rv,mem_append_left→Rx,getElem?_set_self→Ry,getElem?_set_ne→Rz,mem_append_right→RC,size_toArray→RE,length_cons→RG,map_cons→RH,length_map→RJ,append_nil→RN,of_mem_zip→RP,length_take→RQ,getElem?_append_right→RU,getElem?_replicate→RV,getElem?_append_left→RW,getElem?_map→RX,mem_of_getElem?→RY,length_append→RZ,length_drop→R1,length_set→R4,length_singleton→R6,map_nil→R7,find?_cons→R8,any_cons→R9,length_nil→Sa,nodup_nil→Se,lookup_cons→Sf,forIn_cons→Sg,cons_append→Sl,take_zero→Sq,take_nil→Sr,take_succ_cons→Ss,drop_zero→Su,drop_succ_cons→Sv,all_cons→Sw,range_succ_eq_map→Sx,all_map→Sy,getElem?_eq_getElem→Sz,getElem_of_mem→SG,nil_append→SH,map_congr_left→SJ,map_append→SK,length_range→SL,getElem?_range→SN,drop_eq_getElem_cons→SR,append_assoc→SV,mem_cons→SY,not_mem_nil→SZ,getElem?_cons_zero→S0,getElem?_cons_succ→S3,zip_cons_cons→S8,contains_cons→S9,nodup_append→Tc,replicate_zero→Te,any_map→Tf,zip_nil_right→Tg,replicate_succ→Th,foldl_cons→Ti,not_lt_nil→Tl,nil_lt_cons→Tn,cons_lt_cons_iff→To,filter_cons_of_pos→Tp,filter_cons_of_neg→Tq,getElem_mem→Tr,pairwise_map→Ts,getD_eq_getElem?_getD→Tt,map_map→Tu,find?_cons_of_pos→Tv,find?_cons_of_neg→Tx,getElem?_eq_none→Tz,take_of_length_le→TF,drop_eq_nil_of_le→TH,set_cons_zero→TJ,set_cons_succ→TK,getElem_map→TN,mem_nil_iff→TU,map_take→TV,map_drop→TY,filter_filter→TZ,filter_congr→T1,contains_iff_mem→T3,length_filter_le→T5,take_append_drop→T6,map_set→T7,getElem?_of_mem→T8,ne_nil_of_mem→Ub,length_reverse→Uc
open Int renaming fdiv_eq_ediv_of_nonneg→RD,toNat_natCast→R0,emod_nonneg→TQ,emod_lt_of_pos→TR,zero_add→Ua
open Nat renaming lt_of_lt_of_le→Rm,lt_irrefl→Ro,ne_of_lt→Rp,le_trans→Rq,le_of_lt→Rr,ne_of_gt→RA,le_refl→RB,le_of_eq→RK,lt_succ_self→RL,zero_le→RM,le_succ→RO,lt_trans→Sd,lt_succ_of_lt→Sj,min_self→SA,sub_zero→SM,lt_of_le_of_lt→SU,le_add_right→S4,add_lt_add_left→S5,lt_add_of_pos_right→S6,zero_add→S7,sub_self→Td,min_eq_left→TB,min_eq_right→TC
open Bool renaming false_ne_true→RF,and_eq_true→R3,false_eq_true→Si,and_true→SD,and_false→SE,or_eq_true→SF,or_eq_false_iff→Tb,not_true→Tj,not_false→TL,eq_iff_iff→T2,or_self→T9
open Option renaming getD_none→R5,isSome_map→Sb,getD_some→SW
open PySem renaming Value→Vh,NameKind→Vi,Addr→Vj,Expr→Vk,Stmt→Vl,Shared→Vm,World→Vn,Program→Vo,Paired→Vp,Heap→Vq,sizeLine→Vr,mainGlobals→Vs,bootBuiltins→Vt,Around→Vu,Scope→Vv,Model→Vw,wpAny→Vx,starEach→Vy,wpAny_mono→Vz,CmpOp→VA,compareOp→VB,behindInMarks→VC,wpAny_truthy_bool→VD,wpAny_execs_nil→VE,wpAny_bind→VF,wpAny_holding→VG,wpAny_standAt→VH,wpAny_pure→VI,IsRangeIter→VJ,wpAny_pyIter_list→VL,PassesOwn→VM,foldedSetIterable→VN,wpAny_passesOwn→VO,binaryOp→VP,sizeLine_eq→VQ,codeAny→VR,attributeBase→VS,callWith→VU,keywordEach→VW,cLine→VX,FuncData→VY,BindsTo→VZ,wpAny_call→V0,codeAny_mono→V1,wpAny_Call_Name_kw→V2,concat_meets→V3,noFill_tuple_add→V4,seq_tuple_add→V5,IsPart→V6,wpAny_field→V7,wpAny_callSpecial?_slot→V8,wpAny_call_entry→V9,wpAny_newObj_type→Wa,tupleKind_room_in1→Wb,wpAny_comprehension_free→Wc,wpAny_rule→We,wpAny_getItem_str_slice→Wg,post_val_or_str→Wh,wpAny_seqItems→Wi,wpAny_setField→Wj,IsZip→Wk,IsPair→Wm,wpAny_setField_rec→Wn,wpAny_onRaise→Wo,wpAny_updateSeq_pair→Wp,wpAny_attempt→Wq,wpAny_dictEntries→Ws,wpAny_dictEpoch→Wt,wpAny_typeNameOfWhole_keyiter→Wu,wpAny_typeNameOf_keyiter→Wv
open PySem.W renaming instObj→Ud,methodObj→Ue,Frag→Ug,lookIn→Uh,plainGet→Ui,hasDictIn→Uj,findIn→Uk,handedIn→Ul,plainGet_of→Um,isFn→Uo,plainOver→Uq,takerIn→Ur,any_some→Us,makesIn→Ut,typeIn→Uu,InitBack→Uv,emptyDict→Uw,make_core→Ux,makes_of→Uy,looks_findIn→Uz,Looks→UA,keepIn→UB,callWith_K→UC,cellsFrom_some→UD,fnOf→UE,codeIn→UG,OpenLaw→UH,nsIn→UI,kitOne→UJ,kia_one→UK,instIn→UL,subIn→UM,specialIn→UN,takesIn→UO,mroIn→UP,isIn→UQ,BoolBack→UR,kdl_call→UT,callWith_K0→UU,mg_of→UV
open PySem.Heap renaming lt_size→UW,SameBut→UX,get?_push_of_some→UY,get?_push_size→UZ,size_push→U0,get?_update_self→U1,get?_update_other→U2,FlyingW→U3,get?_push_ne→U4
open PyProof.Rows renaming callWith_type1→U5,slot_tuple_getitem→U6,envOfC→U7,IsTup→U8,Call_→U9,boot_list→Va,boot_tuple→Vb,boot_int→Vc,boot_str→Vd,listUpdate_at→Wr
open PySem.F renaming slot_tuple_add→Ve,entry_tuple_add→Vf,args_tuple_add_2→Vg
set_option maxHeartbeats 1000000
local macro_rules | `(‹2›)=>`(⟨rfl, rfl, rfl, by decide +kernel, rfl, by decide +kernel, by decide +kernel⟩)
local macro_rules | `(‹0›)=>`(by omega)
namespace L2
open PySem PySem.Spec PyProof.Rows
noncomputable abbrev gx:=List (Option Nat)
noncomputable abbrev cN:=Str->Option Vh
noncomputable abbrev ql:=List (Str×Vi)
noncomputable abbrev bh:=List (Vj×Obj)
noncomputable abbrev oM:=List (Str×Vj)
noncomputable abbrev bx:=List Vk
noncomputable abbrev dZ:=List Vl
noncomputable abbrev bc:=List Vh
noncomputable abbrev aA:=List Vj
noncomputable abbrev dA:=Option Int
noncomputable abbrev bT:=Vh->Vm->Prop
noncomputable abbrev dj:=Vm->Prop
noncomputable abbrev av:=List Str
noncomputable abbrev Key:=Sum Int Str
noncomputable def ph:Key->Vh->Bool
 |.inl k,v=>Value.isInt k v
 |.inr x,v=>Value.isStrOf x v
noncomputable def Nv(w:Vn):Key->Int
 |.inl k=>hashInt k
 |.inr x=>hashStr w x
theorem cD:∀{k:Key}{v:Vh},ph k v=true->(∃i t,k=Sum.inl i/\v=Value.int i t)\/(∃x t,k=Sum.inr x/\v=Value.str x t)
 |.inl i,v,h=>by
  obtain⟨t,e⟩:=Value.isInt_shape (k:=i) (v:=v) h;exact .inl ⟨i,t,rfl,e⟩
 |.inr x,v,h=>by
  obtain⟨t,e⟩:=Value.isStrOf_shape (x:=x) (v:=v) h;exact .inr ⟨x,t,rfl,e⟩
theorem z6(i:Int)(t:Tok):ph (.inl i) (.int i t)=true:=by simp[ph,Value.isInt]
theorem zM(x:Str)(t:Tok):ph (.inr x) (.str x t)=true:=by simp[ph,Value.isStrOf]
theorem Ja(a b:Int):decide ((Sum.inl a:Key)=Sum.inl b)=(a==b):=by
 by_cases e:a=b
 ·subst e;simp
 ·have h:¬(Sum.inl a:Key)=Sum.inl b:=λq=>e (Sum.inl.inj q);rw[decide_eq_false h];exact(beq_eq_false_iff_ne.mpr e).symm
theorem HY(a b:Str):decide ((Sum.inr a:Key)=Sum.inr b)=decide (a=b):=by
 by_cases e:a=b
 ·subst e;simp
 ·have h:¬(Sum.inr a:Key)=Sum.inr b:=λq=>e (Sum.inr.inj q);rw[decide_eq_false h,decide_eq_false e]
theorem JI(a:Int)(b:Str):decide ((Sum.inl a:Key)=Sum.inr b)=false:=decide_eq_false (λq=>nomatch q)
theorem J6(a:Str)(b:Int):decide ((Sum.inr a:Key)=Sum.inl b)=false:=decide_eq_false (λq=>nomatch q)
noncomputable def cw(prog:Vo)(w:Vn):PySem.KeyKind prog w Key where
 is:=ph
 hash:=Nv w
 inj:=λv a b ha hb=>by
  rcases cD ha with⟨i,t,rfl,rfl⟩|⟨x,t,rfl,rfl⟩
  ·rcases cD hb with⟨j,u,rfl,e⟩|⟨y,u,rfl,e⟩
   ·injection e with e1 _;rw[e1]
   ·exact nomatch e
  ·rcases cD hb with⟨j,u,rfl,e⟩|⟨y,u,rfl,e⟩
   ·exact nomatch e
   ·injection e with e1 _;rw[e1]
 byValue:=λk v h=>by
  rcases cD h with⟨i,t,rfl,rfl⟩|⟨x,t,rfl,rfl⟩<;>rfl
 pyHash:=λhv h=>by
  rcases cD hv with⟨i,t,rfl,rfl⟩|⟨x,t,rfl,rfl⟩
  ·exact wpAny_pyHash_int h
  ·exact wpAny_pyHash_str h
 eqBool:=λhu hv h=>by
  rcases cD hu with⟨i,t,rfl,rfl⟩|⟨x,t,rfl,rfl⟩
  ·rcases cD hv with⟨j,u,rfl,rfl⟩|⟨y,u,rfl,rfl⟩
   ·rw[Ja]at h;exact wpAny_eqBool_int h
   ·rw[JI]at h;exact SeqAt.EqAt.int_str i t y u _ _ _ _ h
  ·rcases cD hv with⟨j,u,rfl,rfl⟩|⟨y,u,rfl,rfl⟩
   ·rw[J6]at h;exact SeqAt.EqAt.str_int x t j u _ _ _ _ h
   ·rw[HY]at h;exact wpAny_eqBool_str h
 «strs»:=λk x t v h=>by
  rcases cD h with⟨i,u,rfl,e⟩|⟨y,u,rfl,e⟩
  ·exact nomatch e
  ·injection e with e1 _;subst e1;cases v<;>rfl
theorem wC(prog:Vo)(w:Vn)(k:Key)(v:Vh):(cw prog w).is k v=ph k v:=rfl
theorem vy(prog:Vo)(w:Vn)(i:Int)(t:Tok):(cw prog w).is (.inl i) (.int i t)=true:=z6 i t
theorem vz(prog:Vo)(w:Vn)(x:Str)(t:Tok):(cw prog w).is (.inr x) (.str x t)=true:=zM x t
inductive V where
 |non|bl (b:Bool)|int (i:Int)|str (x:Str)|byt (b:Array UInt8)|flt (b:UInt64)|ref (a:Vj)|ty (n:String)
 deriving DecidableEq
noncomputable abbrev aF:=List V
noncomputable def RelV:V->Vh->Prop
 |.non,u=>u=Value.none
 |.bl b,u=>u=Value.bool b
 |.int i,u=>∃t,u=Value.int i t
 |.str x,u=>∃t,u=Value.str x t
 |.byt b,u=>∃t,u=Value.bytes b t
 |.flt b,u=>∃t,u=Value.float b t
 |.ref a,u=>u=Value.ref a
 |.ty n,u=>u=Value.type n
noncomputable abbrev Vals:aF->bc->Prop:=Vp RelV
theorem Vals.length{xs:aF}{us:bc}(r:Vals xs us):xs.length=us.length:=Paired.length r
theorem Vals.get:∀{xs:aF}{us:bc}{i:Nat}{x:V},Vals xs us->xs[i]?=some x->∃u,us[i]?=some u/\RelV x u
 |_,_,_,_,.nil,e=>by simp at e
 |_,_,0,_,.cons r _,e=>by simp at e;subst e;exact⟨_,rfl,r⟩
 |_,_,i+1,x,.cons _ t,e=>by
  obtain⟨u,h1,h2⟩:=Vals.get (i:=i) (x:=x) t (by simpa using e);exact⟨u,by simpa using h1,h2⟩
theorem Vals.set{x:V}{u:Vh}(r:RelV x u):∀{xs:aF}{us:bc}(i:Nat),Vals xs us->Vals (xs.set i x) (us.set i u)
 |_,_,_,.nil=>.nil
 |_,_,0,.cons _ t=>.cons r t
 |_,_,i+1,.cons q t=>.cons q (Vals.set r i t)
theorem Vals.append:∀{xs ys:aF}{us ws:bc},Vals xs us->Vals ys ws->Vals (xs++ys) (us++ws)
 |_,_,_,_,.nil,s=>s
 |_,_,_,_,.cons r t,s=>.cons r (Vals.append t s)
theorem Vals.take:∀{xs:aF}{us:bc}(n:Nat),Vals xs us->Vals (xs.take n) (us.take n)
 |_,_,0,_=>.nil
 |_,_,_+1,.nil=>.nil
 |_,_,n+1,.cons r t=>.cons r (Vals.take n t)
theorem Vals.drop:∀{xs:aF}{us:bc}(n:Nat),Vals xs us->Vals (xs.drop n) (us.drop n)
 |_,_,0,r=>r
 |_,_,_+1,.nil=>.nil
 |_,_,n+1,.cons _ t=>Vals.drop n t
noncomputable def t7:Option V->Option Vh->Prop
 |some v,some u=>RelV v u
 |none,none=>True
 |_,_=>False
noncomputable def KV{κ:Type}:List (κ×V)->List (κ×Vh)->Prop:=Vp λ(p:κ×V)(q:κ×Vh)=>p.1=q.1/\RelV p.2 q.2
noncomputable def kV:Key->V
 |.inl i=>.int i
 |.inr x=>.str x
inductive HO where
  |lst (xs:aF)
  |tup (xs:aF)
  |dK (kvs:List (Key×V))|dT (kvs:List (List Key×V))
  |set (S:Int->Bool) (n:Nat)
  |ins (C dx:Vj) (fs:List (Str×V))
  |own (x:Vj)
  |xd (fs:List (Str×V))
  |met (f x:Vj)
  |rng (lo hi:Int)
  |frz (o:Obj) (u:HO)
  |tbl (ps:Array Vh)
  |ext (φ:(Vj->Prop)->Vq->Prop)
noncomputable abbrev Hp:=Vj->Option HO
noncomputable def upd(H:Hp)(a:Vj)(o:HO):Hp:=λb=>if b=a then some o else H b
theorem aH{H:Hp}{a:Vj}{o:HO}:upd H a o a=some o:=by unfold upd;rw[if_pos rfl]
theorem aM{H:Hp}{a b:Vj}{o:HO}(h:b≠a):upd H a o b=H b:=by unfold upd;rw[if_neg h]
theorem yv{H:Hp}{a:Vj}{o u:HO}:upd (upd H a o) a u=upd H a u:=by
 funext b;unfold upd;split<;>rfl
theorem La{H:Hp}{a b:Vj}{o u:HO}(h:H a=some o)(h':H b=some u)(d:o≠u):a≠b:=by
 intro e;subst e;rw[h]at h';exact d (Option.some.inj h')
theorem aY{H:Hp}{a b:Vj}{o:HO}(h:H a=some o)(h':H b=none):a≠b:=by
 intro e;subst e;rw[h]at h';cases h'
section
variable(P:Vo)(w:Vn)
noncomputable def cG(H:Hp)(h:Vq)(a:Vj):HO->Prop
 |.lst xs=>xs.length<=Vr/\∃(its:bc)(n:Nat),Vals xs its/\h.get? a=some {cls:=.type "list",data:=.seq its.toArray n}
 |.tup xs=>xs.length<=Vr/\∃its:bc,Vals xs its/\IsTup h a its.toArray
 |.dK kvs=>kvs.length<=Vr/\(a==sysModules)=false/\∃vs,KV kvs vs/\h.DictOf (cw P w) a vs
 |.dT kvs=>kvs.length<=Vr/\(a==sysModules)=false/\∃xs:List (List Key×Vj×Vh),
   Vp (λ(p:List Key×V)(q:List Key×Vj×Vh)=>p.1=q.1/\H q.2.1=some (.tup (p.1.map kV))/\RelV p.2 q.2.2) kvs xs/\
   ∃o es ep,h.get? a=some o/\o.ExactDict/\o.data=.dict es ep/\es.toList=xs.map (entryOfKey (tupleKind (cw P w)))/\(xs.map (·.1)).Nodup
 |.set S n=>h.SetOf (intKind P w) a S n
 |.ins C dx fs=>H dx=some (.own a)/\fs.length<=1000/\dx≠a/\h.get? a=some (Ud C dx)/\
   ∃mA,h.Ns1 dx mA/\(∀f,t7 (fs.lookup f) (mA f))/\PySem.Within mA (fs.map (·.1))
 |.own _=>∃o,h.get? a=some o
 |.xd fs=>∃mA,h.Ns1 a mA/\∀f,t7 (fs.lookup f) (mA f)
 |.rng lo hi=>∃t u v,h.get? a=some {cls:=.type "range",data:=.fields #[.int lo t,.int hi u,.int 1 v]}
 |.frz o u=>h.get? a=some o/\cG H h a u
 |.tbl ps=>h.get? a=some {cls:=.none,data:=.fields ps}
 |.met f x=>h.get? a=some (Ue (.ref f) (.ref x))
 |.ext φ=>φ (λb=>H b=some (.own a)) h/\(∃o,h.get? a=some o)/\∀(S1 S2:Vj->Prop)(h1 h2:Vq),φ S1 h1->(∀b,S1 b->S2 b)->(∀b o,(b=a\/S1 b)->h1.get? b=some o->h2.get? b=some o)->φ S2 h2
noncomputable def nO(H:Hp)(h:Vq):Prop:=∀a o,H a=some o->cG P w H h a o
end
section
variable{P:Vo}{w:Vn}{H H':Hp}{h h':Vq}{a:Vj}{o:HO}
theorem cG.lt(x:cG P w H h a o):a<h.objs.size:=by
 cases o with
 |lst xs=>obtain⟨_,_,_,_,e⟩:=x;exact UW e
 |tup xs=>obtain⟨_,_,_,p⟩:=x;exact p.lt
 |dK kvs=>obtain⟨_,_,_,_,o,_,_,e,_⟩:=x;exact UW e
 |dT kvs=>obtain⟨_,_,_,_,o,_,_,e,_⟩:=x;exact UW e
 |set S n=>obtain⟨o,_,_,_,e,_⟩:=x;exact UW e
 |ins C dx fs=>obtain⟨_,_,_,e,_⟩:=x;exact UW e
 |own y=>obtain⟨_,e⟩:=x;exact UW e
 |xd fs=>obtain⟨_,⟨_,_,_,e,_⟩,_⟩:=x;exact UW e
 |rng lo hi=>obtain⟨_,_,_,e⟩:=x;exact UW e
 |frz ob u=>obtain⟨e,_⟩:=x;exact UW e
 |tbl ps=>exact UW (show h.get? a=some _ from x)
 |met f y=>exact UW (show h.get? a=some _ from x)
 |ext φ=>obtain⟨_,⟨_,e⟩,_⟩:=x;exact UW e
theorem Paired.mapP{α β:Type}{F G:α->β->Prop}:∀{l₁:List α}{l₂:List β},Vp F l₁ l₂->(∀a b,F a b->G a b)->Vp G l₁ l₂
 |_,_,.nil,_=>.nil
 |_,_,.cons r t,f=>.cons (f _ _ r) (Paired.mapP t f)
theorem cG.stay(x:cG P w H h a o)(k:∀b u,(b=a\/H b=some (.own a))->h.get? b=some u->h'.get? b=some u)
  (ho:∀b,H b=some (.own a)->H' b=some (.own a)) (ht:∀b xs,H b=some (.tup xs)->H' b=some (.tup xs)):cG P w H' h' a o:=by
 induction o with
 |lst xs=>obtain⟨z,its,n,r,e⟩:=x;exact⟨z,its,n,r,k _ _ (.inl rfl) e⟩
 |tup xs=>obtain⟨z,its,r,ob,e,c⟩:=x;exact⟨z,its,r,ob,k _ _ (.inl rfl) e,c⟩
 |dK kvs=>obtain⟨z,y,vs,r,ob,es,ep,e,c⟩:=x;exact⟨z,y,vs,r,ob,es,ep,k _ _ (.inl rfl) e,c⟩
 |dT kvs=>
  obtain⟨z,y,xs,r,ob,es,ep,e,c⟩:=x;exact⟨z,y,xs,Paired.mapP r λp q z=>⟨z.1,ht _ _ z.2.1,z.2.2⟩,ob,es,ep,k _ _ (.inl rfl) e,c⟩
 |set S n=>obtain⟨ob,es,ep,t,e,c⟩:=x;exact⟨ob,es,ep,t,k _ _ (.inl rfl) e,c⟩
 |ins C dx fs=>
  obtain⟨d,z,ne,e,mA,⟨od,es,ep,e2,c⟩,r⟩:=x;exact⟨ho _ d,z,ne,k _ _ (.inl rfl) e,mA,⟨od,es,ep,k _ _ (.inr d) e2,c⟩,r⟩
 |own y=>obtain⟨ob,e⟩:=x;exact⟨ob,k _ _ (.inl rfl) e⟩
 |xd fs=>obtain⟨mA,⟨od,es,ep,e,c⟩,r⟩:=x;exact⟨mA,⟨od,es,ep,k _ _ (.inl rfl) e,c⟩,r⟩
 |rng lo hi=>obtain⟨t,u,v,e⟩:=x;exact⟨t,u,v,k _ _ (.inl rfl) e⟩
 |frz ob u ih=>obtain⟨e,q⟩:=x;exact⟨k _ _ (.inl rfl) e,ih q⟩
 |tbl ps=>
  have e:h.get? a=some {cls:=.none,data:=.fields ps}:=x;show h'.get? a=some {cls:=.none,data:=.fields ps};exact k a _ (.inl rfl) e
 |met f y=>
  have e:h.get? a=some (Ue (.ref f) (.ref y)):=x;show h'.get? a=some (Ue (.ref f) (.ref y));exact k a _ (.inl rfl) e
 |ext φ=>obtain⟨p,⟨o,e⟩,st⟩:=x;exact⟨st _ _ _ _ p ho k,⟨o,k _ _ (.inl rfl) e⟩,st⟩
theorem nO.lt(x:nO P w H h)(e:H a=some o):a<h.objs.size:=(x a o e).lt
theorem nO.fresh(x:nO P w H h)(e:h.objs.size<=a):H a=none:=by
 cases q:H a with
 |none=>rfl
 |some u=>exact absurd (Rm (x.lt q) e) (Ro _)
theorem nO.kept(x:nO P w H h)(k:∀b u,h.get? b=some u->h'.get? b=some u):nO P w H h':=λa o e=>
 (x a o e).stay (λb u _ q=>k b u q) (λ_ q=>q) λ_ _ q=>q
theorem nO.laid(x:nO P w H h)(k:∀b u,h.get? b=some u->h'.get? b=some u)(hp:h.objs.size<=a)(new:cG P w (upd H a o) h' a o):nO P w (upd H a o) h':=λb u e=>by
 have hn:=x.fresh hp;by_cases hb:b=a
 ·subst hb;rw[aH]at e;cases e;exact new
 ·rw[aM hb]at e;exact(x b u e).stay (λc v _ q=>k c v q) (λc q=>by rw[aM (aY q hn)];exact q) λc xs q=>by rw[aM (aY q hn)];exact q
end
noncomputable def Rd(H:Hp)(a:Vj)(u:HO):Prop:=H a=some u\/∃o,H a=some (.frz o u)
theorem Rd.ok{P:Vo}{w:Vn}{H:Hp}{h:Vq}{a:Vj}{u:HO}(r:Rd H a u)(x:nO P w H h):cG P w H h a u:=by
 rcases r with r|⟨o,r⟩
 ·exact x a u r
 ·obtain⟨_,q⟩:=x a _ r;exact q
noncomputable def KH:Option HO->Prop
 |some (.lst _)=>True
 |some (.dK _)=>True
 |some (.dT _)=>True
 |some (.set _ _)=>True
 |some (.ins _ _ _)=>True
 |some (.ext _)=>True
 |_=>False
section
variable{P:Vo}{w:Vn}{H:Hp}{h h':Vq}{x e:Vj}{o':HO}
theorem nO.write(ok:nO P w H h)(mu:KH (H x))(he:e=x\/H e=some (.own x))(k:∀b u,b≠e->h.get? b=some u->h'.get? b=some u)(heo:∃u,h'.get? e=some u)
  (new:cG P w (upd H x o') h' x o'):nO P w (upd H x o') h':=λb u q=>by
 have nown:∀c y,H c=some (.own y)->c≠x:=λc y r z=>by subst z;rw[r]at mu;exact mu
 have ntup:∀c xs,H c=some (.tup xs)->c≠x:=λc xs r z=>by subst z;rw[r]at mu;exact mu
 by_cases hb:b=x
 ·subst hb;rw[aH]at q;cases q;exact new
 ·rw[aM hb]at q;by_cases hbe:b=e
  ·have q':H b=some (.own x):=by
    rcases he with z|z
    ·exact absurd (hbe.trans z) hb
    ·rw[hbe];exact z
   rw[q]at q';cases q';obtain⟨v,hv⟩:=heo;exact⟨v,by rw[hbe];exact hv⟩
  ·refine(ok b u q).stay (λc v hc r=>k c v ?_ r) (λc r=>by rw[aM (nown c b r)];exact r) λc xs r=>by rw[aM (ntup c xs r)];exact r
   rcases hc with rfl|hc
   ·exact hbe
   ·rintro rfl;rcases he with z|z
    ·exact nown c b hc z
    ·rw[hc]at z;cases z;exact hb rfl
end
structure Un(fs ex:aA)(H H':Hp)(h h':Vq):Prop where
 keep:∀b o,h.get? b=some o->H b=none->b∉fs->b∉ex->h'.get? b=some o
 slot:∀b o,h.get? b=some o->H b=none->b∈fs->b∉ex->∃sl,h'.get? b=some {o with slots:=sl}
 free:∀b o,h.get? b=some o->H b=none->b∉ex->H' b=none
 there:∀b o,h.get? b=some o->b∉ex->∃o',h'.get? b=some o'
 tups:∀b xs,H b=some (.tup xs)->H' b=some (.tup xs)
 frzs:∀b o u,H b=some (.frz o u)->H' b=some (.frz o u)
 tbls:∀b ps,H b=some (.tbl ps)->∃more,H' b=some (.tbl (ps++more))
section
variable{fs fs' ex ex':aA}{H H1 H2:Hp}{h h1 h2 h':Vq}{a x e:Vj}{o:HO}
theorem Un.any(u:Un fs ex H H1 h h1){b:Vj}{ob:Obj}(q:h.get? b=some ob)(n:H b=none)(hx:b∉ex):∃sl,h1.get? b=some {ob with slots:=sl}:=by
 by_cases hb:b∈fs
 ·exact u.slot b ob q n hb hx
 ·exact⟨ob.slots,u.keep b ob q n hb hx⟩
theorem Un.kept(k:∀b u,h.get? b=some u->h'.get? b=some u):Un fs ex H H h h':=
 ⟨λb ob q _ _ _=>k b ob q,λb ob q _ _ _=>⟨ob.slots,k b ob q⟩,λ_ _ _ n _=>n,λb ob q _=>⟨ob,k b ob q⟩,λ_ _ q=>q,λ_ _ _ q=>q,λ_ ps q=>⟨#[],by rw[q];simp⟩⟩
theorem Un.refl:Un fs ex H H h h:=Un.kept λ_ _ q=>q
theorem Un.laid(k:∀b u,h.get? b=some u->h'.get? b=some u)(hp:h.objs.size<=a)(hn:H a=none):Un fs ex H (upd H a o) h h' where
 keep:=λb u q _ _ _=>k b u q
 slot:=λb u q _ _ _=>⟨u.slots,k b u q⟩
 free:=λb u q n _=>by rw[aM (Rp (Rm (UW q) hp))];exact n
 there:=λb u q _=>⟨u,k b u q⟩
 tups:=λb xs q=>by rw[aM (aY q hn)];exact q
 frzs:=λb u xs q=>by rw[aM (aY q hn)];exact q
 tbls:=λb ps q=>⟨#[],by rw[aM (aY q hn),q];simp⟩
theorem Un.write(mu:KH (H x))(he:e=x\/H e=some (.own x))(k:∀b u,b≠e->h.get? b=some u->h'.get? b=some u)(heo:∃u,h'.get? e=some u):Un fs ex H (upd H x o) h h':=by
 have hx:∀b,H b=none->b≠x:=λb n z=>by subst z;rw[n]at mu;exact mu
 have hb:∀b,H b=none->b≠e:=λb n z=>by
  subst z;rcases he with r|r
  ·exact hx b n r
  ·rw[n]at r;cases r
 have hm:∀b u,H b=some u->¬KH (some u)->b≠x:=λb u q nm z=>by subst z;rw[q]at mu;exact nm mu
 refine⟨λb u q n _ _=>k b u (hb b n) q,λb u q n _ _=>⟨u.slots,k b u (hb b n) q⟩,λb u q n _=>by rw[aM (hx b n)];exact n,λb u q _=>?_,
  λb xs q=>by rw[aM (hm b _ q λz=>z)];exact q,λb u xs q=>by rw[aM (hm b _ q λz=>z)];exact q,λb ps q=>⟨#[],by rw[aM (hm b _ q λz=>z),q];simp⟩⟩
 by_cases hbe:b=e
 ·subst hbe;exact heo
 ·exact⟨u,k b u hbe q⟩
end
noncomputable def Mr(h:Vq)(H:Hp):aA:=(List.range h.objs.size).filter λa=>(H a).isSome
noncomputable def uH(h:Vq)(H:Hp):Vq:=PySem.W.hideAll h (Mr h H)
theorem zV(h:Vq)(H:Hp):(uH h H).objs.size=h.objs.size:=PySem.W.hideAll_size _ _
theorem DE{h:Vq}{H:Hp}{b:Vj}{o:Obj}(e:h.get? b=some o)(n:H b=none):(uH h H).get? b=some o:=
 PySem.W.hideAll_get _ e λhm=>by
  have q:(H b).isSome=true:=(List.mem_filter.mp hm).2;rw[n]at q;simp at q
theorem Eh{h:Vq}{H:Hp}{b:Vj}{o:Obj}(e:(uH h H).get? b=some o):h.get? b=some o/\H b=none:=by
 have e':h.get? b=some o:=PySem.W.of_hideAll (Mr h H) e;refine⟨e',?_⟩;cases q:H b with
 |none=>rfl
 |some x=>
  have hm:b∈Mr h H:=List.mem_filter.mpr ⟨List.mem_range.mpr (UW e'),by simp[q]⟩;have z:(uH h H).get? b=none:=PySem.W.hideAll_none (Mr h H) hm;rw[z]at e;cases e
noncomputable def Eo(g h:Vq)(L:Vj):bh:=(List.range h.objs.size).filterMap λa=>if a=L\/(g.get? a).isSome=true then none else(h.get? a).map λo=>(a,o)
noncomputable def rest(g h:Vq)(L d:Vj):bh:=(Eo g h L).filter λp=>decide (p.1≠d)
structure Mod(K:Ug)(mg:cN)(base:Vq):Prop where
 kin:K.In base
 glob:base.Ns Vs mg
 blt:∃mb,base.Ns builtinsNs mb/\∀x:Str,x≠"__name__"->mb x=Vt x
 nolimit:base.NoLimit
structure Cx where
 prog:Vo
 w:Vn
 K:Ug
 mg:cN
 base:Vq
 A:Vu
 N:av
 s₀:Vm
 H₀:Hp
 env:Env
 outer:List Env
 stack:List Env
 ex:aA
 fn:Str->Bool
 calm:Bool
 pn:bh
 xe:bT
noncomputable def frs(l:List Env):aA:=l.filterMap (·.frame)
noncomputable abbrev Cx.fs(X:Cx):aA:=frs X.outer
noncomputable def Kh(sc:Vv)(x:Str):Prop:=sc.names.lookup x=some .local\/sc.names.lookup x=some .cell\/sc.names.lookup x=some .free
noncomputable def Loc(sc:Vv)(x:Str):Prop:=sc.names.lookup x=some .local\/sc.names.lookup x=some .cell
noncomputable def Look(env:Env)(h:Vq)(m:cN)(x:Str)(u:Vh):Prop:=
 (env.kindOf x=some .local/\m x=some u)\/((env.kindOf x=some .cell\/env.kindOf x=some .free)/\∃c,env.cells.lookup x=some c/\h.IsCell c (some u))
structure Cx.Ok(X:Cx):Prop where
 mod:Mod X.K X.mg X.base
 kind:X.env.scope.kind=.function
 glob:X.env.globals=Vs
 blt:X.env.builtins=builtinsNs
 above:X.s₀.heap.objs.size<=X.env.locals
 inj:∀x y c,X.env.cells.lookup x=some c->X.env.cells.lookup y=some c->x=y
 has:∀x,(X.env.kindOf x=some .cell\/X.env.kindOf x=some .free)->∃c,X.env.cells.lookup x=some c
 cab:∀x c,X.fn x=true->X.env.cells.lookup x=some c->X.s₀.heap.objs.size<=c
 hd:X.calm=true->X.A.handled=none
 frames:X.A.frames=some X.stack
 stk:X.stack=X.outer\/(X.stack=X.env::X.outer/\X.env.frame=some X.env.locals)
 exf:∀b∈X.ex,b≠X.env.locals/\∀x c,X.env.cells.lookup x=some c->c≠b
 bs:∀b o,X.base.get? b=some o->X.s₀.heap.get? b=some o/\X.H₀ b=none
 bsz:X.base.objs.size<=X.s₀.heap.objs.size
 noex:∀b o,X.base.get? b=some o->b∉X.ex
 exfs:∀b∈X.ex,b∉X.fs
 funs:X.s₀.heap.FunFrames X.base X.outer
 frf:∀b∈X.fs,X.H₀ b=none
structure Inv(X:Cx)(pins:bh)(σ:List (Option V))(H:Hp)(s:Vm):Prop where
 ok:X.Ok
 os:s.os=X.s₀.os
 bare:AllBare s.gens
 base:Un X.fs X.ex X.H₀ H X.s₀.heap s.heap
 loc:∃m,s.heap.Ns X.env.locals m/\∀(i:Nat)(x:Str)(v:V),X.N[i]?=some x->σ[i]?=some (some v)->Kh X.env.scope x->∃u,RelV v u/\Look X.env s.heap m x u
 cell:∀x c,X.env.cells.lookup x=some c->∃v,s.heap.IsCell c v
 free:H X.env.locals=none
 freeC:∀x c,X.env.cells.lookup x=some c->H c=none
 pin:∀p∈X.pn++pins,s.heap.get? p.1=some p.2/\H p.1=none/\p.1≠X.env.locals/\p.1∉X.fs/\∀v,p.2.data≠.cell v
 hok:nO X.prog X.w H s.heap
 len:σ.length=X.N.length
section
variable{X:Cx}{pins:bh}{σ:List (Option V)}{H H':Hp}{s:Vm}{h':Vq}
theorem Cx.Ok.nofr(ok:X.Ok){b:Vj}{o:Obj}(e:X.base.get? b=some o):b∉X.fs:=λhb=>by
 have:=(ok.funs.mem hb).1
 rw[e]at this;cases this
theorem Inv.bs(I:Inv X pins σ H s):∀b o,X.base.get? b=some o->s.heap.get? b=some o/\H b=none:=λb o e=>
 ⟨I.base.keep b o (I.ok.bs b o e).1 (I.ok.bs b o e).2 (I.ok.nofr e) (I.ok.noex b o e),I.base.free b o (I.ok.bs b o e).1 (I.ok.bs b o e).2 (I.ok.noex b o e)⟩
theorem Inv.bk(I:Inv X pins σ H s):∀b o,X.base.get? b=some o->s.heap.get? b=some o:=λb o e=>(I.bs b o e).1
theorem Inv.mod(I:Inv X pins σ H s):Mod X.K X.mg X.base:=I.ok.mod
theorem Inv.kIn(I:Inv X pins σ H s):X.K.In s.heap:=I.ok.mod.kin.keeps I.bk
theorem Inv.lt(I:Inv X pins σ H s):X.env.locals<s.heap.objs.size:=let ⟨_,hn,_⟩:=I.loc;hn.lt
theorem Inv.sz(I:Inv X pins σ H s):X.s₀.heap.objs.size<=s.heap.objs.size:=Rq I.ok.above (Rr I.lt)
theorem Inv.nofs(I:Inv X pins σ H s){a:Vj}(h:s.heap.objs.size<=a):a∉X.fs:=λhb=>by
 obtain⟨_,o,ho,_⟩:=I.ok.funs.mem hb;exact absurd (Rm (UW ho) (Rq I.sz h)) (Ro _)
theorem Inv.cne(I:Inv X pins σ H s):∀x c,X.env.cells.lookup x=some c->c≠X.env.locals:=λx c e z=>by
 obtain⟨v,o,ho,hd⟩:=I.cell x c e;obtain⟨m,⟨o',es,ep,ho',hd',_⟩,_⟩:=I.loc;rw[z,ho']at ho;cases ho;rw[hd']at hd;cases hd
theorem Inv.funs(I:Inv X pins σ H s):s.heap.FunFrames X.base X.outer:=by
 have all:∀(l:List Env),(∀b∈frs l,b∈X.fs)->X.s₀.heap.FunFrames X.base l->s.heap.FunFrames X.base l:=by
  intro l
  induction l with
  |nil=>intro _ _;trivial
  |cons env r ih=>
   intro hs hl;obtain⟨hk,⟨L,o,hf,hn,ho,hd⟩,hr⟩:=hl;have hL:L∈X.fs:=hs L (by unfold frs;rw[Rt,hf];exact Ru);obtain⟨sl,e⟩:=I.base.slot L o ho (I.ok.frf L hL) hL λz=>I.ok.exfs L z hL;exact⟨hk,⟨L,_,hf,hn,e,hd⟩,ih (λb hb=>hs b (by unfold frs;rw[Rt,hf];exact Rv _ hb)) hr⟩
 exact all X.outer (λ_ hb=>hb) I.ok.funs
theorem Inv.stack(I:Inv X pins σ H s):s.heap.FunFrames X.base X.stack:=by
 rcases I.ok.stk with e|⟨e,hf⟩
 ·rw[e];exact I.funs
 ·rw[e];obtain⟨m,hn,_⟩:=I.loc;refine .cons (by rw[I.ok.kind];decide) hf hn ?_ I.funs;exact Heap.get?_none_of_le (Rq I.ok.bsz I.ok.above)
theorem Inv.stkSub(I:Inv X pins σ H s):∀b∈frs X.stack,b∈X.env.locals::X.fs:=λb hb=>by
 rcases I.ok.stk with e|⟨e,hf⟩
 ·rw[e]at hb;exact Rv _ hb
 ·rw[e]at hb;unfold frs at hb;rw[Rt,hf]at hb;exact hb
theorem Inv.stkFree(I:Inv X pins σ H s):∀b∈frs X.stack,H b=none:=λb hb=>by
 rcases List.mem_cons.mp (I.stkSub b hb)with e|hb
 ·rw[e];exact I.free
 ·obtain⟨_,o,ho,_⟩:=I.ok.funs.mem hb;exact I.base.free b o ho (I.ok.frf b hb) λz=>I.ok.exfs b z hb
theorem Inv.step{g':Array GenState}{t':Nat}{d':Drawn}{ch:aA}(I:Inv X pins σ H s)
  (hch:∀b∈ch,(b∈X.ex\/X.s₀.heap.objs.size<=b)/\b≠X.env.locals/\(∀x c,X.env.cells.lookup x=some c->c≠b)/\∀p∈X.pn++pins,p.1≠b)
  (keep:∀b o,b≠X.env.locals->b∉X.fs->b∉ch->s.heap.get? b=some o->H b=none->h'.get? b=some o)
  (slot:∀b o,b≠X.env.locals->b∈X.fs->b∉ch->s.heap.get? b=some o->H b=none->∃sl,h'.get? b=some {o with slots:=sl}) (free:∀b o,b∉ch->s.heap.get? b=some o->H b=none->H' b=none)
  (there:∀b o,b∉ch->s.heap.get? b=some o->∃o',h'.get? b=some o')
  (tups:∀b xs,H b=some (.tup xs)->H' b=some (.tup xs)) (frzs:∀b o u,H b=some (.frz o u)->H' b=some (.frz o u)) (tbls:∀b ps,H b=some (.tbl ps)->∃more,H' b=some (.tbl (ps++more)))
  (ns:∀m,s.heap.Ns X.env.locals m->h'.Ns X.env.locals m) (hok:nO X.prog X.w H' h') (hg:AllBare g'):
  Inv X pins σ H' {s with heap:=h',gens:=g',drawn:=d',toks:=t'}:=by
 have neL:∀b o,X.s₀.heap.get? b=some o->b≠X.env.locals:=λb o e=>Rp (Rm (UW e) I.ok.above);have neC:∀b o,X.s₀.heap.get? b=some o->b∉X.ex->b∉ch:=λb o e hx hb=>by
  rcases(hch b hb).1 with z|z
  ·exact hx z
  ·exact absurd (Rm (UW e) z) (Ro _)
 have cellK:∀x c,X.env.cells.lookup x=some c->∀v,s.heap.IsCell c v->h'.IsCell c v:=λx c e v ⟨o,ho,hd⟩=>by
  have nch:c∉ch:=λz=>(hch c z).2.2.1 x c e rfl;by_cases hc:c∈X.fs
  ·obtain⟨sl,q⟩:=slot c o (I.cne x c e) hc nch ho (I.freeC x c e);exact⟨_,q,hd⟩
  ·exact⟨o,keep c o (I.cne x c e) hc nch ho (I.freeC x c e),hd⟩
 refine⟨I.ok,I.os,hg,⟨λb o e n hb hx=>?_,λb o e n hb hx=>?_,λb o e n hx=>?_,λb o e hx=>?_,λb xs e=>tups b xs (I.base.tups b xs e),λb o xs e=>frzs b o xs (I.base.frzs b o xs e),λb ps e=>?_⟩,?_,λx c e=>?_,?_,λx c e=>?_,λp hp=>?_,hok,I.len⟩
 ·exact keep b o (neL b o e) hb (neC b o e hx) (I.base.keep b o e n hb hx) (I.base.free b o e n hx)
 ·obtain⟨sl,e1⟩:=I.base.slot b o e n hb hx;obtain⟨sl',e2⟩:=slot b _ (neL b o e) hb (neC b o e hx) e1 (I.base.free b o e n hx);exact⟨sl',e2⟩
 ·obtain⟨o',e1⟩:=I.base.there b o e hx;exact free b o' (neC b o e hx) e1 (I.base.free b o e n hx)
 ·obtain⟨o',e1⟩:=I.base.there b o e hx;exact there b o' (neC b o e hx) e1
 ·obtain⟨m1,e1⟩:=I.base.tbls b ps e;obtain⟨m2,e2⟩:=tbls b _ e1;exact⟨m1++m2,by rw[e2,Array.append_assoc]⟩
 ·obtain⟨m,hn,hl⟩:=I.loc;refine⟨m,ns m hn,λi x v e1 e2 e3=>?_⟩;obtain⟨u,r,l⟩:=hl i x v e1 e2 e3;refine⟨u,r,?_⟩;rcases l with l|⟨k,c,e,z⟩
  ·exact .inl l
  ·exact .inr ⟨k,c,e,cellK x c e _ z⟩
 ·obtain⟨v,z⟩:=I.cell x c e;exact⟨v,cellK x c e v z⟩
 ·obtain⟨m,⟨o,_,_,ho,_⟩,_⟩:=I.loc;exact free _ o (λz=>(hch _ z).2.1 rfl) ho I.free
 ·obtain⟨v,o,ho,hd⟩:=I.cell x c e;exact free c o (λz=>(hch c z).2.2.1 x c e rfl) ho (I.freeC x c e)
 ·obtain⟨e,n,ne,nf,d⟩:=I.pin p hp;have nch:p.1∉ch:=λz=>(hch p.1 z).2.2.2 p hp rfl;exact⟨keep p.1 p.2 ne nf nch e n,free p.1 p.2 nch e n,ne,nf,d⟩
theorem Inv.un{t':Nat}(I:Inv X pins σ H s)(u:Un X.fs [] H H' s.heap h')(hok:nO X.prog X.w H' h'):Inv X pins σ H' {s with heap:=h',toks:=t'}:=by
 obtain⟨m,⟨o,es,ep,ho,r⟩,_⟩:=id I.loc;obtain⟨sl,hL⟩:=u.any ho I.free (by simp);exact I.step (g':=s.gens) (d':=s.drawn) (ch:=[]) (λ_ z=>nomatch z) (λb o _ hb _ e n=>u.keep b o e n hb (by simp)) (λb o _ hb _ e n=>u.slot b o e n hb (by simp)) (λb o _ e n=>u.free b o e n (by simp)) (λb o _ e=>u.there b o e (by simp)) u.tups u.frzs u.tbls (λm' hm=>by
  obtain⟨o',es',ep',ho',r'⟩:=hm;rw[ho]at ho';cases ho';exact⟨_,es',ep',hL,r'⟩) hok I.bare
theorem Inv.call{g':Array GenState}{t':Nat}{d':Drawn}{ch:aA}(I:Inv X pins σ H s)(u:Un (frs X.stack) ch H H' s.heap h')(hok:nO X.prog X.w H' h')(hg:AllBare g')
  (hch:∀b∈ch,(b∈X.ex\/X.s₀.heap.objs.size<=b)/\b≠X.env.locals/\(∀x c,X.env.cells.lookup x=some c->c≠b)/\∀p∈X.pn++pins,p.1≠b):
  Inv X pins σ H' {s with heap:=h',gens:=g',drawn:=d',toks:=t'}:=by
 obtain⟨m,⟨o,es,ep,ho,r⟩,_⟩:=id I.loc;obtain⟨sl,hL⟩:=u.any ho I.free λz=>(hch _ z).2.1 rfl;exact I.step (ch:=ch) hch (λb o hL hb hc e n=>u.keep b o e n (λz=>(List.mem_cons.mp (I.stkSub b z)).elim hL hb) hc) (λb o _ _ hc e n=>u.any e n hc) (λb o hc e n=>u.free b o e n hc) (λb o hc e=>u.there b o e hc) u.tups u.frzs u.tbls (λm' hm=>by
  obtain⟨o',es',ep',ho',r'⟩:=hm;rw[ho]at ho';cases ho';exact⟨_,es',ep',hL,r'⟩) hok hg
theorem Inv.turned{t':Nat}{it:Vj}(I:Inv X pins σ H s)(k:∀b o,b≠it->s.heap.get? b=some o->h'.get? b=some o)(hn:H it=none)(hL:it≠X.env.locals)
  (h1:it∈X.ex\/X.s₀.heap.objs.size<=it) (h2:∀x c,X.env.cells.lookup x=some c->c≠it) (h3:∀p∈X.pn++pins,p.1≠it):Inv X pins σ H {s with heap:=h',toks:=t'}:=by
 have nit:∀b u,H b=some u->b≠it:=λb u e z=>by rw[z,hn]at e;cases e
 refine I.step (g':=s.gens) (d':=s.drawn) (ch:=[it]) (λb hb=>?_) (λb o _ _ hc e _=>k b o (λz=>hc (by simp[z])) e) (λb o _ _ hc e _=>⟨o.slots,k b o (λz=>hc (by simp[z])) e⟩) (λ_ _ _ _ n=>n)
  (λb o hc e=>⟨o,k b o (λz=>hc (by simp[z])) e⟩) (λ_ _ e=>e) (λ_ _ _ e=>e) (λb ps e=>⟨#[],by rw[e];simp⟩) (λm hm=>?_) (λb u e=>?_) I.bare
 ·have e:b=it:=by simpa using hb
  subst e;exact⟨h1,hL,h2,h3⟩
 ·obtain⟨o,es,ep,ho,r⟩:=hm;exact⟨o,es,ep,k _ o (Ne.symm hL) ho,r⟩
 ·refine(I.hok b u e).stay (λc v hc q=>k c v ?_ q) (λ_ q=>q) λ_ _ q=>q;rcases hc with z|z
  ·rw[z];exact nit b u e
  ·exact nit c _ z
theorem Inv.tok(I:Inv X pins σ H s)(t:Nat):Inv X pins σ H {s with toks:=t}:=I.un (h':=s.heap) (t':=t) Un.refl I.hok
theorem Inv.kept{t':Nat}(I:Inv X pins σ H s)(k:∀b u,s.heap.get? b=some u->h'.get? b=some u):Inv X pins σ H {s with heap:=h',toks:=t'}:=I.un (Un.kept k) (I.hok.kept k)
theorem Inv.laid{a:Vj}{o:HO}{t':Nat}(I:Inv X pins σ H s)(k:∀b u,s.heap.get? b=some u->h'.get? b=some u)(hp:s.heap.objs.size<=a)(new:cG X.prog X.w (upd H a o) h' a o):
  Inv X pins σ (upd H a o) {s with heap:=h',toks:=t'}:=I.un (Un.laid k hp (I.hok.fresh hp)) (I.hok.laid k hp new)
theorem Inv.write{x e:Vj}{o:HO}{t':Nat}(I:Inv X pins σ H s)(mu:KH (H x))(he:e=x\/H e=some (.own x))(k:∀b u,b≠e->s.heap.get? b=some u->h'.get? b=some u)(heo:∃u,h'.get? e=some u)
  (new:cG X.prog X.w (upd H x o) h' x o):Inv X pins σ (upd H x o) {s with heap:=h',toks:=t'}:=I.un (Un.write mu he k heo) (I.hok.write mu he k heo new)
theorem Inv.pins_of{pins':bh}(I:Inv X pins σ H s)(h:∀p∈pins',s.heap.get? p.1=some p.2/\H p.1=none/\p.1≠X.env.locals/\p.1∉X.fs/\∀v,p.2.data≠.cell v):Inv X pins' σ H s:=
 ⟨I.ok,I.os,I.bare,I.base,I.loc,I.cell,I.free,I.freeC,λp hp=>(List.mem_append.mp hp).elim (λz=>I.pin p (Rx _ z)) (h p),I.hok,I.len⟩
theorem vw{N:av}(hN:N.Nodup){i j:Nat}{x:Str}(a:N[i]?=some x)(b:N[j]?=some x):i=j:=by
 obtain⟨h1,e1⟩:=List.getElem?_eq_some_iff.mp a;obtain⟨h2,e2⟩:=List.getElem?_eq_some_iff.mp b;exact(List.getElem_inj hN).mp (e1.trans e2.symm)
theorem rV{M:Vw}{A:Vu}{E:bT}{i:Nat}{x:Str}{v:V}{u:Vh}{Q:Unit->dj}(I:Inv X pins σ H s)(hN:X.N.Nodup)(hi:X.N[i]?=some x)(hx:Loc X.env.scope x)(r:RelV v u)
  (h:∀s',Inv X pins (σ.set i (some v)) H s'->(∃a,UX a s.heap s'.heap/\(a=X.env.locals\/X.env.cells.lookup x=some a))->Q () s') (hf:X.fn x=true\/X.env.scope.names.lookup x=some .local:=by first|exact .inl rfl|exact .inr rfl|assumption):Vx M A (storeName X.env x u) Q E s:=by
 obtain⟨m,hn,hl⟩:=id I.loc;have hcls:(X.env.scope.kind==.class||(X.env.scope.kind==.module&&X.env.locals !=X.env.globals))=false:=by rw[I.ok.kind];rfl
 have hiσ:i<σ.length:=by rw[I.len];exact(List.getElem?_eq_some_iff.mp hi).1
 have cne:=I.cne;have tracked:∀{a:Vj}{h':Vq},(∃o,s.heap.get? a=some o/\H a=none)->UX a s.heap h'->nO X.prog X.w H h':=λ{a h'} ha hs b ob e=>by
  obtain⟨_,_,hfree⟩:=ha;refine(I.hok b ob e).stay (λc w' hc q=>(hs.2 c ?_).trans q) (λ_ q=>q) λ_ _ q=>q;rintro rfl;rcases hc with rfl|hc
  ·rw[hfree]at e;cases e
  ·rw[hfree]at hc;cases hc
 rcases hx with hk|hk
 ·refine wpAny_storeName_local hk hn (λh' hn' hs=>?_) hcls;obtain⟨oL,_,_,hoL,_⟩:=id hn;refine h _ ⟨I.ok,I.os,I.bare,⟨λb o e n hb hx=>?_,λb o e n hb hx=>?_,I.base.free,λb o e hx=>?_,I.base.tups,I.base.frzs,I.base.tbls⟩,⟨_,hn',λj y v' e1 e2 e3=>?_⟩,λy c e=>?_,I.free,I.freeC,λp hp=>?_,tracked ⟨oL,hoL,I.free⟩ hs,by simpa using I.len⟩ ⟨_,hs,.inl rfl⟩
  ·exact(hs.2 b (Rp (Rm (UW e) I.ok.above))).trans (I.base.keep b o e n hb hx)
  ·obtain⟨sl,e1⟩:=I.base.slot b o e n hb hx;exact⟨sl,(hs.2 b (Rp (Rm (UW e) I.ok.above))).trans e1⟩
  ·obtain⟨o',e1⟩:=I.base.there b o e hx;exact⟨o',(hs.2 b (Rp (Rm (UW e) I.ok.above))).trans e1⟩
  ·by_cases hj:j=i
   ·subst hj;rw[hi]at e1;cases e1;rw[Ry hiσ]at e2;cases e2;exact⟨u,r,.inl ⟨hk,by simp⟩⟩
   ·rw[Rz (Ne.symm hj)]at e2;obtain⟨u',r',q⟩:=hl j y v' e1 e2 e3;refine⟨u',r',?_⟩;rcases q with⟨k,e⟩|⟨k,c,e,z⟩
    ·refine .inl ⟨k,?_⟩
     have:y≠x:=λe=>hj (vw hN e1 (e ▸ hi))
     simp[this,e]
    ·exact .inr ⟨k,c,e,z.sameBut hs (cne y c e)⟩
  ·obtain⟨w',z⟩:=I.cell y c e;exact⟨w',z.sameBut hs (cne y c e)⟩
  ·obtain⟨e,n,ne,nf,d⟩:=I.pin p hp;exact⟨(hs.2 p.1 ne).trans e,n,ne,nf,d⟩
 ·have hfn:X.fn x=true:=by
   rcases hf with z|z
   ·exact z
   ·rw[z]at hk;cases hk
  obtain⟨c,hc⟩:=I.ok.has x (.inl hk);obtain⟨w',z⟩:=I.cell x c hc;refine wpAny_storeName_cell I.ok.kind hk hc z (λh' hc' hs=>?_);obtain⟨oc,hoc,hocd⟩:=id z;refine h {s with heap:=h'} ⟨I.ok,I.os,I.bare,⟨λb o e n hb hx=>?_,λb o e n hb hx=>?_,I.base.free,λb o e hx=>?_,I.base.tups,I.base.frzs,I.base.tbls⟩,⟨m,hn.sameBut hs (Ne.symm (cne x c hc)),λj y v' e1 e2 e3=>?_⟩,λy c' e=>?_,I.free,I.freeC,λp hp=>?_,tracked ⟨oc,hoc,I.freeC x c hc⟩ hs,by simpa using I.len⟩ ⟨c,hs,.inr hc⟩
  ·exact(hs.2 b (Rp (Rm (UW e) (I.ok.cab x c hfn hc)))).trans (I.base.keep b o e n hb hx)
  ·obtain⟨sl,e1⟩:=I.base.slot b o e n hb hx;exact⟨sl,(hs.2 b (Rp (Rm (UW e) (I.ok.cab x c hfn hc)))).trans e1⟩
  ·obtain⟨o',e1⟩:=I.base.there b o e hx;exact⟨o',(hs.2 b (Rp (Rm (UW e) (I.ok.cab x c hfn hc)))).trans e1⟩
  ·by_cases hj:j=i
   ·subst hj;rw[hi]at e1;cases e1;rw[Ry hiσ]at e2;cases e2;exact⟨u,r,.inr ⟨.inl hk,c,hc,hc'⟩⟩
   ·rw[Rz (Ne.symm hj)]at e2;obtain⟨u',r',q⟩:=hl j y v' e1 e2 e3;refine⟨u',r',?_⟩;rcases q with q|⟨k,c',e,z'⟩
    ·exact .inl q
    ·refine .inr ⟨k,c',e,z'.sameBut hs ?_⟩;rintro rfl;exact hj (vw hN e1 (I.ok.inj _ _ _ e hc ▸ hi))
  ·by_cases hcc:c'=c
   ·subst hcc;exact⟨_,hc'⟩
   ·obtain⟨w2,z2⟩:=I.cell y c' e;exact⟨w2,z2.sameBut hs hcc⟩
  ·obtain⟨e,n,ne,nf,d⟩:=I.pin p hp;refine⟨(hs.2 p.1 ?_).trans e,n,ne,nf,d⟩;intro q;rw[q,hoc]at e;have q':oc=p.2:=Option.some.inj e;exact d w' (by rw[<-q'];exact hocd)
theorem vM{M:Vw}{A:Vu}{E:bT}{i:Nat}{x:Str}{v:V}{u:Vh}{Q:Unit->dj}(I:Inv X pins σ H s)(hN:X.N.Nodup)(hi:X.N[i]?=some x)(hx:Loc X.env.scope x)(r:RelV v u)
  (h:∀s',Inv X pins (σ.set i (some v)) H s'->Q () s') (hf:X.fn x=true\/X.env.scope.names.lookup x=some .local:=by first|exact .inl rfl|exact .inr rfl|assumption):Vx M A (storeName X.env x u) Q E s:=
 rV I hN hi hx r (λs' I' _=>h s' I') hf
theorem Inv.call'{s':Vm}{ch:aA}(I:Inv X pins σ H s)(ho:s'.os=s.os)(u:Un (frs X.stack) ch H H' s.heap s'.heap)(hok:nO X.prog X.w H' s'.heap)(hg:AllBare s'.gens)
  (hch:∀b∈ch,(b∈X.ex\/X.s₀.heap.objs.size<=b)/\b≠X.env.locals/\(∀x c,X.env.cells.lookup x=some c->c≠b)/\∀p∈X.pn++pins,p.1≠b):Inv X pins σ H' s':=by
 obtain⟨h',g',d',t',o'⟩:=s';have e:o'=s.os:=ho;subst e;exact I.call (g':=g') (t':=t') (d':=d') u hok hg hch
end
noncomputable abbrev XK:=Vh->Option Vj->Hp->Prop
noncomputable abbrev St:=List (Option V)
noncomputable abbrev VK:=V->Hp->Prop
noncomputable abbrev TE:=St->Hp->VK->Prop
noncomputable abbrev TT:=St->Hp->(Bool->Hp->Prop)->Prop
noncomputable abbrev TA:=St->Hp->(aF->Hp->Prop)->Prop
structure Ends where
 nx:St->Hp->Prop
 rt:VK
 bk:St->Hp->Prop:=λ_ _=>False
 ct:St->Hp->Prop:=λ_ _=>False
noncomputable abbrev TS:=Ends->St->Hp->Prop
noncomputable def EP(X:Cx)(pins:bh)(σ:St)(Q:VK)(u:Vh)(s':Vm):Prop:=∃v H',Inv X pins σ H' s'/\RelV v u/\Q v H'
noncomputable def TP(X:Cx)(pins:bh)(σ:St)(Q:Bool->Hp->Prop)(b:Bool)(s':Vm):Prop:=∃H',Inv X pins σ H' s'/\Q b H'
noncomputable def AP(X:Cx)(pins:bh)(σ:St)(Q:aF->Hp->Prop)(us:bc)(s':Vm):Prop:=∃vs H',Inv X pins σ H' s'/\Vals vs us/\Q vs H'
noncomputable def SP(X:Cx)(pins:bh)(D:Ends)(f:Flow)(s':Vm):Prop:=
 match f with
 |.next=>∃σ' H',Inv X pins σ' H' s'/\D.nx σ' H'
 |.brk=>∃σ' H',Inv X pins σ' H' s'/\D.bk σ' H'
 |.cont=>∃σ' H',Inv X pins σ' H' s'/\D.ct σ' H'
 |.ret u=>∃v σ' H',Inv X pins σ' H' s'/\RelV v u/\D.rt v H'
noncomputable def PE(X:Cx)(e:Vk)(t:TE):Prop:=
 ∀(pins:bh)(s:Vm)(σ:St)(H:Hp)(Q:VK),Inv X pins σ H s->t σ H Q->Vx (model X.prog X.w) X.A (eval e X.env) (EP X pins σ Q) X.xe s
noncomputable def PT(X:Cx)(e:Vk)(t:TT):Prop:=
 ∀(pins:bh)(s:Vm)(σ:St)(H:Hp)(Q:Bool->Hp->Prop),Inv X pins σ H s->t σ H Q->Vx (model X.prog X.w) X.A (isTrue e X.env (eval e X.env)) (TP X pins σ Q) X.xe s
noncomputable def PW(X:Cx)(e:Vk)(t:TT):Prop:=
 ∀(whole:Sem Vh)(pins:bh)(s:Vm)(σ:St)(H:Hp)(Q:Bool->Hp->Prop),Inv X pins σ H s->t σ H Q->Vx (model X.prog X.w) X.A (isTrue e X.env whole) (TP X pins σ Q) X.xe s
theorem PW.pt{X:Cx}{e:Vk}{t:TT}(h:PW X e t):PT X e t:=h _
noncomputable def PA(X:Cx)(es:bx)(t:TA):Prop:=
 ∀(pos:Pos)(pins:bh)(s:Vm)(σ:St)(H:Hp)(Q:aF->Hp->Prop),Inv X pins σ H s->t σ H Q->Vx (model X.prog X.w) X.A (spliced (backTo pos (Vy es X.env))) (AP X pins σ Q) X.xe s
noncomputable def PS(X:Cx)(st:Vl)(t:TS):Prop:=
 ∀(pins:bh)(s:Vm)(σ:St)(H:Hp)(D:Ends),Inv X pins σ H s->t D σ H->Vx (model X.prog X.w) X.A (exec st X.env) (SP X pins D) X.xe s
noncomputable def vW(X:Cx)(st:dZ)(t:TS):Prop:=
 ∀(pins:bh)(s:Vm)(σ:St)(H:Hp)(D:Ends),Inv X pins σ H s->t D σ H->Vx (model X.prog X.w) X.A (execs st X.env) (SP X pins D) X.xe s
theorem cE{α:Type}{t:Sem α}{Q Q':α->dj}{M:Vw}{A:Vu}{E:bT}{s:Vm}(h:Vx M A t Q E s)(hQ:∀a s,Q a s->Q' a s):Vx M A t Q' E s:=Vz h hQ λ_ _ x=>x
section
variable{X:Cx}
noncomputable def ua(i:Nat):TE:=λσ H Q=>∃v,σ[i]?=some (some v)/\Q v H
noncomputable def tC(v:V):TE:=λ_ H Q=>Q v H
theorem Il{i:Nat}{x:Str}{pos:Pos}(hN:X.N[i]?=some x)(hv:Kh X.env.scope x)(hd:(x==("__debug__":Str))=false:=by decide)(hcd:(x==("__classdict__":Str))=false:=by decide):PE X (.Name x pos) (ua i):=by
 intro pins s σ H Q I h;obtain⟨v,e,h⟩:=h;obtain⟨m,hn,hl⟩:=I.loc;obtain⟨u,r,l⟩:=hl i x v hN e hv;have fin:EP X pins σ Q u s:=⟨v,H,I,r,h⟩
 rcases l with⟨hk,hm⟩|⟨hk,c,hc,hcell⟩
 ·exact wpAny_Name (wpAny_loadName_local I.ok.kind hk hn hm fin) hd
 ·rcases hk with hk|hk
  ·exact wpAny_Name (wpAny_loadName_cell I.ok.kind hk hc hcell fin) hd
  ·exact wpAny_Name (wpAny_loadName_free I.ok.kind hk hc hcell fin hcd) hd
theorem Js{i j pos}:PE X (.Constant (.int i) j pos) (tC (.int i)):=λ_ _ _ H _ I h=>wpAny_Constant_int ⟨.int i,H,I.tok _,⟨_,rfl⟩,h⟩
theorem Kr{b j pos}:PE X (.Constant (.bool b) j pos) (tC (.bl b)):=λ_ _ _ H _ I h=>Constant_bool ⟨.bl b,H,I,rfl,h⟩
theorem Iq{j pos}:PE X (.Constant .none j pos) (tC .non):=λ_ _ _ H _ I h=>Constant_none ⟨.non,H,I,rfl,h⟩
theorem JB{x j pos}:PE X (.Constant (.str x) j pos) (tC (.str x)):=λ_ _ _ H _ I h=>Calls.Constant_str ⟨.str x,H,I.tok _,⟨_,rfl⟩,h⟩
noncomputable def Gl(X:Cx)(x:Str):Prop:=X.env.kindOf x=some .globalImplicit
theorem pW{E:bT}{pins:bh}{s:Vm}{σ:St}{H:Hp}{x:Str}{u:Vh}{pos:Pos}{Q:bT}(I:Inv X pins σ H s)(hg:Gl X x)(hm:X.mg x=some u)(h:Q u s)
  (hd:(x==("__debug__":Str))=false:=by decide):Vx (model X.prog X.w) X.A (eval (.Name x pos) X.env) Q E s:=
 Calls.Name_function_global I.ok.kind hg (Calls.loadGlobal_global (by rw[I.ok.glob];exact I.mod.glob.keeps I.bk) hm h) hd
theorem kC{E:bT}{pins:bh}{s:Vm}{σ:St}{H:Hp}{x:Str}{u:Vh}{pos:Pos}{Q:bT}(I:Inv X pins σ H s)(hg:Gl X x)(hm:X.mg x=none)(hv:Vt x=some u)(h:Q u s)
  (hn:x≠"__name__":=by decide) (hd:(x==("__debug__":Str))=false:=by decide):Vx (model X.prog X.w) X.A (eval (.Name x pos) X.env) Q E s:=by
 obtain⟨mb,h1,h2⟩:=I.mod.blt;exact Calls.Name_function_global I.ok.kind hg (Calls.loadGlobal_builtin (by rw[I.ok.glob];exact I.mod.glob.keeps I.bk) hm (by rw[I.ok.blt];exact h1.keeps I.bk) ((h2 x hn).trans hv) h) hd
theorem EW{x:Str}{v:V}{u:Vh}{pos:Pos}(hg:Gl X x)(hm:X.mg x=some u)(r:RelV v u)(hd:(x==("__debug__":Str))=false:=by decide):PE X (.Name x pos) (tC v):=
 λ_ _ _ H _ I h=>pW I hg hm ⟨v,H,I,r,h⟩ hd
theorem EB{x:Str}{v:V}{u:Vh}{pos:Pos}(hg:Gl X x)(hm:X.mg x=none)(hv:Vt x=some u)(r:RelV v u)(hn:x≠"__name__":=by decide)(hd:(x==("__debug__":Str))=false:=by decide):PE X (.Name x pos) (tC v):=
 λ_ _ _ H _ I h=>kC I hg hm hv ⟨v,H,I,r,h⟩ hn hd
variable{a b:Vk}{ta tb:TE}{pos:Pos}
noncomputable def PC(X:Cx)(op:VA)(a b:Vk)(t:TE):Prop:=
 ∀(pins:bh)(s:Vm)(σ:St)(H:Hp)(Q:VK),Inv X pins σ H s->t σ H Q->
  Vx (model X.prog X.w) X.A (eval a X.env) (λv s₁=>Vx (model X.prog X.w) X.A (eval b X.env) (λu s₂=>Vx (model X.prog X.w) X.A (VB op v u) (EP X pins σ Q) X.xe s₂) X.xe s₁) X.xe s
theorem vJ(b:Vk){op:VA}(h:op≠.In)(h2:op≠.NotIn):VC op b=false:=by
 have e1:(op==CmpOp.In)=false:=by cases op<;>first|rfl|exact absurd rfl h
 have e2:(op==CmpOp.NotIn)=false:=by cases op<;>first|rfl|exact absurd rfl h2
 cases b<;>simp[VC,e1,e2]
noncomputable def Nj(ta:TE):TE:=λσ H Q=>ta σ H λx H1=>Q (.bl (decide (x=.non))) H1
theorem RelV.none_iff{x:V}{v:Vh}(r:RelV x v):(v==Value.none)=decide (x=.non):=by
 cases x with
 |non=>cases r;rfl
 |bl _=>cases r;rfl
 |int _=>obtain⟨t,rfl⟩:=r;rfl
 |str _=>obtain⟨t,rfl⟩:=r;rfl
 |byt _=>obtain⟨t,rfl⟩:=r;rfl
 |flt _=>obtain⟨t,rfl⟩:=r;rfl
 |ref _=>cases r;rfl
 |ty _=>cases r;rfl
theorem CT{j pos'}(ha:PE X a ta):PC X .Is a (.Constant .none j pos') (Nj ta):=by
 intro pins s σ H Q I h;refine cE (ha pins s σ H _ I h) λv s1 ⟨x,H1,I1,r1,q1⟩=>?_;exact Constant_none (is_none_gen ⟨.bl _,H1,I1,by rw[r1.none_iff];rfl,q1⟩)
noncomputable def tB(t:TE):TT:=λσ H Q=>t σ H λx H1=>∃c,x=.bl c/\Q c H1
theorem IC{op:VA}{t:TE}(h:PC X op a b t)(h1:VC op b=false:=by first|exact vJ _ (by decide) (by decide)|rfl):PE X (.Compare a [op] [b] pos) t:=λpins s σ H Q I hw=>wpAny_Compare1 (h pins s σ H Q I hw) h1
theorem HB{op:VA}{t:TE}(h:PC X op a b t)(h1:VC op b=false:=by first|exact vJ _ (by decide) (by decide)|rfl):PT X (.Compare a [op] [b] pos) (tB t):=by
 intro pins s σ H Q I hw;refine wpAny_isTrue_Compare1 (cE (h pins s σ H _ I hw) λv s1 h1=>cE h1 λu s2 h2=>cE h2 λc s3 ⟨x,H1,I1,r1,q1⟩=>?_) h1;obtain⟨d,rfl,q⟩:=q1;cases r1;exact VD ⟨H1,I1,q⟩
variable{tA tB':TT}{rest:bx}
noncomputable def NW(t u:TT):TT:=λσ H Q=>t σ H λc H1=>if c=true then u σ H1 Q else Q false H1
noncomputable def Qy(t u:TT):TT:=λσ H Q=>t σ H λc H1=>if c=true then Q true H1 else u σ H1 Q
noncomputable def Nm(t:TT):TT:=λσ H Q=>t σ H λc H1=>Q (!c) H1
theorem D9(ha:PT X a tA):PW X (.BoolOp .And [a] pos) tA:=by
 intro wh pins s σ H Q I h;refine isTrue_and (cE (ha pins s σ H Q I h) λc s1 e=>?_);cases c with
 |true=>exact isTrue_and_nil e
 |false=>exact e
theorem Je(ha:PT X a tA):PW X (.BoolOp .Or [a] pos) tA:=by
 intro wh pins s σ H Q I h;refine isTrue_or (cE (ha pins s σ H Q I h) λc s1 e=>?_);cases c with
 |false=>exact isTrue_or_nil e
 |true=>exact e
theorem HQ(ha:PT X a tA)(hb:PW X (.BoolOp .And (b::rest) pos) tB'):PW X (.BoolOp .And (a::b::rest) pos) (NW tA tB'):=by
 intro wh pins s σ H Q I h;refine isTrue_and (cE (ha pins s σ H _ I h) λc s1 ⟨H1,I1,q1⟩=>?_);cases c with
 |true=>exact hb wh pins s1 σ H1 Q I1 q1
 |false=>exact⟨H1,I1,q1⟩
theorem LA(ha:PT X a tA)(hb:PW X (.BoolOp .Or (b::rest) pos) tB'):PW X (.BoolOp .Or (a::b::rest) pos) (Qy tA tB'):=by
 intro wh pins s σ H Q I h;refine isTrue_or (cE (ha pins s σ H _ I h) λc s1 ⟨H1,I1,q1⟩=>?_);cases c with
 |true=>exact⟨H1,I1,q1⟩
 |false=>exact hb wh pins s1 σ H1 Q I1 q1
theorem HU(ha:PT X a tA):PT X (.UnaryOp .Not a pos) (Nm tA):=by
 intro pins s σ H Q I h;exact isTrue_not (ha pins s σ H (λc H1=>Q (!c) H1) I h)
noncomputable def LU(ta tb:TE):TE:=λσ H Q=>ta σ H λx H1=>∃c,x=.bl c/\if c=true then tb σ H1 Q else Q (.bl false) H1
noncomputable def OZ(ta tb:TE):TE:=λσ H Q=>ta σ H λx H1=>∃c,x=.bl c/\if c=true then Q (.bl true) H1 else tb σ H1 Q
noncomputable def L5(ta:TE):TE:=λσ H Q=>ta σ H λx H1=>∃c,x=.bl c/\Q (.bl (!c)) H1
theorem J2{op}{t:TE}(h:PE X a t):PE X (.BoolOp op [a] pos) t:=λpins s σ H Q I hw=>BoolOp_one (h pins s σ H Q I hw)
theorem Ip(ha:PE X a ta)(hb:PE X (.BoolOp .And (b::rest) pos) tb):PE X (.BoolOp .And (a::b::rest) pos) (LU ta tb):=by
 intro pins s σ H Q I h;refine BoolOp_and (cE (ha pins s σ H _ I h) λv s1 ⟨x,H1,I1,r1,q1⟩=>?_);obtain⟨c,rfl,q1⟩:=q1;cases r1;refine VD ?_;cases c with
 |true=>exact hb pins s1 σ H1 Q I1 q1
 |false=>exact⟨.bl false,H1,I1,rfl,q1⟩
theorem Le(ha:PE X a ta)(hb:PE X (.BoolOp .Or (b::rest) pos) tb):PE X (.BoolOp .Or (a::b::rest) pos) (OZ ta tb):=by
 intro pins s σ H Q I h;refine BoolOp_or (cE (ha pins s σ H _ I h) λv s1 ⟨x,H1,I1,r1,q1⟩=>?_);obtain⟨c,rfl,q1⟩:=q1;cases r1;refine VD ?_;cases c with
 |false=>exact hb pins s1 σ H1 Q I1 q1
 |true=>exact⟨.bl true,H1,I1,rfl,q1⟩
theorem Jy(ha:PE X a ta):PE X (.UnaryOp .Not a pos) (L5 ta):=by
 intro pins s σ H Q I h;refine UnaryOp_ (cE (ha pins s σ H _ I h) λv s1 ⟨x,H1,I1,r1,q1⟩=>?_);obtain⟨c,rfl,q1⟩:=q1;cases r1;exact not_of (VD ⟨.bl (!c),H1,I1,rfl,q1⟩)
noncomputable def P0(t:TT)(ta tb:TE):TE:=λσ H Q=>t σ H λc H1=>if c=true then ta σ H1 Q else tb σ H1 Q
theorem Dd{c:Vk}(hc:PT X c tA)(ha:PE X a ta)(hb:PE X b tb):PE X (.IfExp c a b pos) (P0 tA ta tb):=by
 intro pins s σ H Q I h;refine wpAny_IfExp (cE (hc pins s σ H _ I h) λd s1 ⟨H1,I1,q1⟩=>?_);cases d with
 |true=>exact ha pins s1 σ H1 Q I1 q1
 |false=>exact hb pins s1 σ H1 Q I1 q1
end
noncomputable def mJ(K:Ug)(H:Hp)(a:Vj)(xs:aF):Prop:=
 Rd H a (.lst xs) \/
  ∃(o:Obj)(its:Array Vh)(n:Nat),K.lookup a=some o/\o.cls=.type "list"/\o.dict=none/\o.data=.seq its n/\its.size<=Vr/\Vals xs its.toList
noncomputable def oJ(K:Ug)(H:Hp)(a:Vj)(xs:aF):Prop:=
 Rd H a (.tup xs) \/
  ∃(o:Obj)(its:Array Vh)(n:Nat),K.lookup a=some o/\o.cls=.type "tuple"/\o.data=.seq its n/\its.size<=Vr/\Vals xs its.toList
noncomputable def Oo:Vh->Option V
 |.none=>some .non
 |.bool b=>some (.bl b)
 |.int i _=>some (.int i)
 |.str x _=>some (.str x)
 |.bytes b _=>some (.byt b)
 |.float b _=>some (.flt b)
 |.ref a=>some (.ref a)
 |.type n=>some (.ty n)
 |_=>none
theorem RelV.abs{x:V}{u:Vh}(r:RelV x u):Oo u=some x:=by
 cases x with
 |non=>cases r;rfl
 |bl _=>cases r;rfl
 |int _=>obtain⟨t,rfl⟩:=r;rfl
 |str _=>obtain⟨t,rfl⟩:=r;rfl
 |byt _=>obtain⟨t,rfl⟩:=r;rfl
 |flt _=>obtain⟨t,rfl⟩:=r;rfl
 |ref _=>cases r;rfl
 |ty _=>cases r;rfl
theorem RelV.inj{x y:V}{u:Vh}(r:RelV x u)(q:RelV y u):x=y:=Option.some.inj (r.abs.symm.trans q.abs)
theorem Vals.inj:∀{xs ys:aF}{us:bc},Vals xs us->Vals ys us->xs=ys
 |_,_,_,.nil,.nil=>rfl
 |_,_,_,.cons r t,.cons r' t'=>by rw[r.inj r',Vals.inj t t']
section
variable{X:Cx}{pins:bh}{σ:St}{H:Hp}{s:Vm}{a:Vj}{xs ys:aF}
theorem mJ.of{K:Ug}(h:H a=some (.lst xs)):mJ K H a xs:=.inl (.inl h)
theorem oJ.of{K:Ug}(h:H a=some (.tup xs)):oJ K H a xs:=.inl (.inl h)
theorem Inv.list(I:Inv X pins σ H s)(h:mJ X.K H a xs):∃its:bc,Vals xs its/\PlainL s.heap a its.toArray/\xs.length<=Vr:=by
 rcases h with h|⟨o,its,n,hk,hc,hd,hs,hz,r⟩
 ·obtain⟨z,its,n,r,e⟩:=h.ok I.hok;exact⟨its,r,⟨_,n,e,rfl,rfl,rfl⟩,z⟩
 ·refine⟨its.toList,r,⟨o,n,I.kIn a o hk,hc,hd,by simpa using hs⟩,?_⟩;have e:=r.length;simp only[Array.length_toList]at e;omega
theorem Inv.tuple(I:Inv X pins σ H s)(h:oJ X.K H a xs):∃its:bc,Vals xs its/\IsTup s.heap a its.toArray/\xs.length<=Vr:=by
 rcases h with h|⟨o,its,n,hk,hc,hs,hz,r⟩
 ·obtain⟨z,its,r,p⟩:=h.ok I.hok;exact⟨its,r,p,z⟩
 ·refine⟨its.toList,r,⟨o,I.kIn a o hk,hc,n,by simpa using hs⟩,?_⟩;have e:=r.length;simp only[Array.length_toList]at e;omega
theorem Inv.list_inj(I:Inv X pins σ H s)(h:mJ X.K H a xs)(h':mJ X.K H a ys):xs=ys:=by
 obtain⟨its,r,⟨o,n,e,_,_,d⟩,_⟩:=I.list h;obtain⟨its',r',⟨o',n',e',_,_,d'⟩,_⟩:=I.list h';rw[e]at e';cases e';rw[d]at d';injection d' with d1 _
 have:its=its':=by simpa using congrArg Array.toList d1
 subst this;exact r.inj r'
theorem Inv.tuple_inj(I:Inv X pins σ H s)(h:oJ X.K H a xs)(h':oJ X.K H a ys):xs=ys:=by
 obtain⟨its,r,⟨o,e,_,n,d⟩,_⟩:=I.tuple h;obtain⟨its',r',⟨o',e',_,n',d'⟩,_⟩:=I.tuple h';rw[e]at e';cases e';rw[d]at d';injection d' with d1 _
 have:its=its':=by simpa using congrArg Array.toList d1
 subst this;exact r.inj r'
end
noncomputable abbrev Cx.wish(X:Cx)(E:bT):Cx:={X with xe:=E}
noncomputable abbrev Cx.nox(X:Cx):Cx:=X.wish λ_ _=>False
theorem Cx.Ok.wish{X:Cx}(ok:X.Ok)(E:bT):(X.wish E).Ok:=
 ⟨ok.mod,ok.kind,ok.glob,ok.blt,ok.above,ok.inj,ok.has,ok.cab,ok.hd,ok.frames,ok.stk,ok.exf,ok.bs,ok.bsz,ok.noex,ok.exfs,ok.funs,ok.frf⟩
theorem Cx.Ok.unwish{X:Cx}{E:bT}(ok:(X.wish E).Ok):X.Ok:=
 ⟨ok.mod,ok.kind,ok.glob,ok.blt,ok.above,ok.inj,ok.has,ok.cab,ok.hd,ok.frames,ok.stk,ok.exf,ok.bs,ok.bsz,ok.noex,ok.exfs,ok.funs,ok.frf⟩
section
variable{X:Cx}{pins:bh}{σ:St}{H:Hp}{s:Vm}{E:bT}
theorem Inv.wish(I:Inv X pins σ H s)(E:bT):Inv (X.wish E) pins σ H s:=⟨I.ok.wish E,I.os,I.bare,I.base,I.loc,I.cell,I.free,I.freeC,I.pin,I.hok,I.len⟩
theorem Inv.unwish(I:Inv (X.wish E) pins σ H s):Inv X pins σ H s:=⟨I.ok.unwish,I.os,I.bare,I.base,I.loc,I.cell,I.free,I.freeC,I.pin,I.hok,I.len⟩
theorem SP.unwish{D:Ends}{f:Flow}{s':Vm}(h:SP (X.wish E) pins D f s'):SP X pins D f s':=by
 cases f with
 |next=>obtain⟨σ',H',I,q⟩:=h;exact⟨σ',H',I.unwish,q⟩
 |brk=>obtain⟨σ',H',I,q⟩:=h;exact⟨σ',H',I.unwish,q⟩
 |cont=>obtain⟨σ',H',I,q⟩:=h;exact⟨σ',H',I.unwish,q⟩
 |ret u=>obtain⟨v,σ',H',I,r,q⟩:=h;exact⟨v,σ',H',I.unwish,r,q⟩
theorem vW.nox{st:dZ}{t:TS}(h:vW X.nox st t):vW X st t:=λpins s σ H D I hw=>
 Vz (h pins s σ H D (I.wish _) hw) (λ_ _ q=>q.unwish) λ_ _ z=>False.elim z
end
section
variable{X:Cx}{st:Vl}{rest:dZ}{t u:TS}{e:Vk}{te:TE}{pos:Pos}
noncomputable def BI:TS:=λD σ H=>D.nx σ H
noncomputable def N7(t u:TS):TS:=λD σ H=>t {D with nx:=u D} σ H
theorem EZ:vW X [] BI:=λ_ _ σ H _ I h=>VE ⟨σ,H,I,h⟩
theorem uW(h1:PS X st t)(h2:vW X rest u):vW X (st::rest) (N7 t u):=by
 intro pins s σ H D I h;refine wpAny_execs_cons (cE (h1 pins s σ H {D with nx:=u D} I h) λf s1 q=>?_);cases f with
 |next=>
  obtain⟨σ',H',I',q⟩:=q;exact h2 pins s1 σ' H' D I' q
 |ret v=>exact q
 |brk=>exact q
 |cont=>exact q
theorem xN(h1:PS X st t):vW X [st] t:=by
 intro pins s σ H D I h;refine wpAny_execs_cons (cE (h1 pins s σ H D I h) λf s1 q=>?_);cases f with
 |next=>exact VE q
 |ret v=>exact q
 |brk=>exact q
 |cont=>exact q
theorem EV:PS X (.Pass pos) BI:=λ_ _ σ H _ I h=>wpAny_Pass ⟨σ,H,I,h⟩
theorem Inv.quiet{pins:bh}{σ:St}{H:Hp}{s:Vm}(I:Inv X pins σ H s):interactive X.env=false:=by simp[interactive,I.ok.kind]
theorem Ir{x j pos pos'}:PS X (.Expr (.Constant (.str x) j pos) pos') BI:=λ_ s σ H _ I h=>wpAny_Expr (Calls.Constant_str (show SP X _ _ .next {s with toks:=s.toks+1}from⟨σ,H,I.tok _,h⟩)) I.quiet
noncomputable def K3(te:TE):TS:=λD σ H=>te σ H λ_ H1=>D.nx σ H1
theorem xJ(he:PE X e te)(hs:swapsWith e none pos.line X.env=pure false:=by rfl):PS X (.Expr e pos) (K3 te):=by
 intro pins s σ H D I h;exact wpAny_Expr_any (cE (he pins s σ H _ I h) λv s1 ⟨x,H1,I1,r1,q1⟩=>⟨σ,H1,I1,q1⟩) I.quiet hs
noncomputable def OB(te:TE):TS:=λD σ H=>te σ H D.rt
theorem HC(he:PE X e te):PS X (.Return (some e) pos) (OB te):=by
 intro pins s σ H D I h;exact wpAny_Return_some (cE (he pins s σ H _ I h) λv s1 ⟨x,H1,I1,r1,q1⟩=>⟨x,σ,H1,I1,r1,q1⟩)
noncomputable def NX(c:TT)(t u:TS):TS:=λD σ H=>c σ H λb H1=>if b=true then t D σ H1 else u D σ H1
theorem K5{c:Vk}{a b:dZ}{tc:TT}(hc:PT X c tc)(ha:vW X a t)(hb:vW X b u):PS X (.If c a b pos) (NX tc t u):=by
 intro pins s σ H D I h;refine wpAny_If (cE (hc pins s σ H _ I h) λd s1 ⟨H1,I1,q1⟩=>?_);cases d with
 |true=>exact ha pins s1 σ H1 D I1 q1
 |false=>exact hb pins s1 σ H1 D I1 q1
end
noncomputable abbrev TG:=V->St->Hp->(St->Hp->Prop)->Prop
noncomputable abbrev G9:=List V->St->Hp->(St->Hp->Prop)->Prop
noncomputable def PG(X:Cx)(target:Vk)(t:TG):Prop:=
 ∀(pins:bh)(s:Vm)(σ:St)(H:Hp)(v:V)(u:Vh)(Q:St->Hp->Prop),Inv X pins σ H s->RelV v u->t v σ H Q->
  Vx (model X.prog X.w) X.A (assign target X.env u) (λ_ s'=>∃σ' H',Inv X pins σ' H' s'/\Q σ' H') X.xe s
noncomputable def LX(X:Cx)(ts:bx)(t:G9):Prop:=
 ∀(pins:bh)(s:Vm)(σ:St)(H:Hp)(vs:aF)(us:bc)(Q:St->Hp->Prop),Inv X pins σ H s->Vals vs us->t vs σ H Q->
  Vx (model X.prog X.w) X.A (assignInOrder ((assignEach ts X.env).map (·.2)) us) (λ_ s'=>∃σ' H',Inv X pins σ' H' s'/\Q σ' H') X.xe s
noncomputable abbrev IP:=V->V->V->Hp->(Hp->Prop)->Prop
noncomputable def KA(X:Cx)(t:IP):Prop:=
 ∀(pins:bh)(s:Vm)(σ:St)(H:Hp)(o i v:V)(ov iv u:Vh)(Q:Hp->Prop),Inv X pins σ H s->RelV o ov->RelV i iv->RelV v u->t o i v H Q->
  Vx (model X.prog X.w) X.A (setItem ov iv u) (λ_ s'=>∃H',Inv X pins σ H' s'/\Q H') X.xe s
section
variable{X:Cx}{pos:Pos}
noncomputable def tM(i:Nat):TG:=λv σ H Q=>Q (σ.set i (some v)) H
theorem GJ{i:Nat}{x:Str}(hN:X.N.Nodup)(hi:X.N[i]?=some x)(hx:Loc X.env.scope x)(hf:X.fn x=true\/X.env.scope.names.lookup x=some .local:=by first|exact .inl rfl|exact .inr rfl|assumption):PG X (.Name x pos) (tM i):=by
 intro pins s σ H v u Q I r h;exact wpAny_assign_Name (vM I hN hi hx r (λs' I'=>⟨_,H,I',h⟩) hf)
noncomputable def NZ:G9:=λvs σ H Q=>vs=[]/\Q σ H
noncomputable def KZ(t:TG)(u:G9):G9:=λvs σ H Q=>∃v r,vs=v::r/\t v σ H λσ' H'=>u r σ' H' Q
theorem FC:LX X [] NZ:=by
 intro pins s σ H vs us Q I r h;obtain⟨e,h⟩:=h;subst e;cases r;exact assignInOrder_nil ⟨σ,H,I,h⟩
theorem Bc{e:Vk}{es:bx}{t:TG}{u:G9}(h1:PG X e t)(h2:LX X es u)
  (hs:(assignEach (e::es) X.env).map (·.2)=assign e X.env::(assignEach es X.env).map (·.2):=by rfl):LX X (e::es) (KZ t u):=by
 intro pins s σ H vs us Q I r h;obtain⟨v,vr,e1,h⟩:=h;subst e1;cases r with
 |cons r rr=>
  rw[hs];refine assignInOrder_cons (cE (h1 pins s σ H _ _ _ I r h) λ_ s1 ⟨σ1,H1,I1,q1⟩=>?_);exact h2 pins s1 σ1 H1 _ _ Q I1 rr q1
noncomputable def OI(K:Ug)(n:Nat)(t:G9):TG:=λv σ H Q=>∃a xs,v=.ref a/\oJ K H a xs/\xs.length=n/\t xs σ H Q
theorem HF{es:bx}{k:Nat}{t:G9}{n:Nat}(hc:X.calm=true)(h:LX X es t)
  (hn:(assignEach es X.env).length=n:=by rfl) (hst:(assignEach es X.env).findIdx? (·.1)=none:=by rfl):PG X (.Tuple es k pos) (OI X.K n t):=by
 intro pins s σ H v u Q I r hw;obtain⟨a,xs,e1,hq,hl,hw⟩:=hw;subst e1;cases r;obtain⟨its,rv,ht,hz⟩:=I.tuple hq;refine assign_Tuple_tuple (I.ok.hd hc) ht (by simp[hn,<-hl,rv.length]) hst λh' hx=>?_;have I1:Inv X pins σ H {s with heap:=h'}:=I.kept (t':=s.toks) λb o e=>hx b o (Rp (UW e)) e;exact h pins _ σ H xs _ Q I1 (by simpa using rv) hw
noncomputable def rB(to ti:TE)(t:IP):TG:=λv σ H Q=>to σ H λo H1=>ti σ H1 λi H2=>t o i v H2 λH3=>Q σ H3
theorem IU{o i:Vk}{to ti:TE}{t:IP}(ho:PE X o to)(hi:PE X i ti)(hs:KA X t)
  (ha:∀ v,assign (.Subscript o i pos) X.env v=(do
   let ov<-holding [v] (eval o X.env)
   let iv<-holding [v,ov] (eval i X.env)
   standAt pos
   holding [v,ov,iv] (setItem ov iv v)
   release [v,ov,iv] []):=by intro _;rfl):PG X (.Subscript o i pos) (rB to ti t):=by
 intro pins s σ H v u Q I r h;rw[ha];refine VF (VG (cE (ho pins s σ H _ I h) λov s1 ⟨x,H1,I1,r1,q1⟩=>?_));refine VF (VG (cE (hi pins s1 σ H1 _ I1 q1) λiv s2 ⟨y,H2,I2,r2,q2⟩=>?_));refine VF (VH (VF (VG (cE (hs pins s2 σ H2 x y v ov iv u _ I2 r1 r2 r q2) λ_ s3 ⟨H3,I3,q3⟩=>?_))));exact wpAny_release ⟨σ,H3,I3,q3⟩
noncomputable def A6(te:TE)(g:TG):TS:=λD σ H=>te σ H λx H1=>g x σ H1 D.nx
theorem DK{tg e:Vk}{te:TE}{g:TG}(he:PE X e te)(hg:PG X tg g)(hs:swapsWithSole [tg] e pos.line X.env=pure false:=by rfl)(hw:swappedStores [tg] e X.env=pure none:=by rfl)
  (h1:(assignEach [tg] X.env).map (·.2)=[assign tg X.env]:=by rfl):PS X (.Assign [tg] e pos) (A6 te g):=by
 intro pins s σ H D I h;refine wpAny_Assign_stores (cE (he pins s σ H _ I h) λv s1 ⟨x,H1,I1,r1,q1⟩=>?_) hs hw;rw[h1];exact cE (hg pins s1 σ H1 x v _ I1 r1 q1) λ_ s2 q=>q
theorem Cz{i:Nat}{x:Str}{e:Vk}{te:TE}{pos':Pos}(hN:X.N.Nodup)(hi:X.N[i]?=some x)(hx:Loc X.env.scope x)(he:PE X e te)(hs:swapsWith e (some (.Name x pos')) pos.line X.env=pure false:=by rfl)(hf:X.fn x=true\/X.env.scope.names.lookup x=some .local:=by first|exact .inl rfl|exact .inr rfl|assumption):
  PS X (.Assign [.Name x pos'] e pos) (A6 te (tM i)):=by
 intro pins s σ H D I h;refine wpAny_Assign_Name (cE (he pins s σ H _ I h) λv s1 ⟨y,H1,I1,r1,q1⟩=>?_) hs;exact vM I1 hN hi hx r1 (λs2 I2=>⟨_,H1,I2,q1⟩) hf
end
structure It where
 go:Nat->Hp->Prop
 yld:Nat->Hp->V->Hp->Prop
 stop:Nat->Hp->Prop
noncomputable def rA(X:Cx)(pins:bh)(H:Hp)(b:Vj):Prop:=
 H b=none/\b≠X.env.locals/\b∉X.fs/\(b∈X.ex\/X.s₀.heap.objs.size<=b)/\(∀x c,X.env.cells.lookup x=some c->c≠b)/\∀p∈X.pn++pins,p.1≠b
theorem Inv.fpOk{X:Cx}{pins:bh}{σ:St}{H H':Hp}{s:Vm}{b:Vj}(I:Inv X pins σ H s)(hb:s.heap.objs.size<=b)(hn:H' b=none):rA X pins H' b:=by
 refine⟨hn,RA (Rm I.lt hb),I.nofs hb,.inr (Rq I.sz hb),λx c e z=>?_,λp hp z=>?_⟩
 ·obtain⟨v,q⟩:=I.cell x c e;exact absurd (Rm q.lt (by rw[z];exact hb)) (Ro _)
 ·exact absurd (Rm (UW (I.pin p hp).1) (by rw[z];exact hb)) (Ro _)
structure Turn(P:Vo)(w:Vn)(K:Ug)(tg:Vk)(J:It)(fp:aA)(it:Vj)(tn:Nat->Vq->Prop):Prop where
 mem:it∈fp
 obj:∀i h,tn i h->∀b∈fp,∃o,h.get? b=some o/\∀v,o.data≠.cell v
 keep:∀i h h',tn i h->(∀b∈fp,∀o,h.get? b=some o->h'.get? b=some o)->tn i h'
 item:∀(X:Cx),X.prog=P->X.w=w->X.K=K->X.calm=true->∀(i:Nat)(pins:bh)(s:Vm)(σ:St)(H:Hp)(E:bT),Inv X pins σ H s->(∀b∈fp,rA X pins H b)->tn i s.heap->J.go i H->
  Vx (model P w) X.A (pyNext (.ref it)) (λr s1=>∃u,r=some u/\
   Vx (model P w) X.A (letOwnedTupleGo tg (.ref it) u) (λ_ s2=>∃x H',Inv X pins σ H' s2/\RelV x u/\J.yld i H x H'/\tn (i+1) s2.heap/\∀b∈fp,H' b=none) E s1) E s
 done:∀(X:Cx),X.prog=P->X.w=w->X.K=K->X.calm=true->∀(i:Nat)(pins:bh)(s:Vm)(σ:St)(H:Hp)(E:bT),Inv X pins σ H s->(∀b∈fp,rA X pins H b)->tn i s.heap->J.stop i H->
  Vx (model P w) X.A (pyNext (.ref it)) (λr s1=>r=none/\Inv X pins σ H s1) E s
 self:∀(A:Vu)(i:Nat)(s:Vm)(Q:bT)(E:bT),tn i s.heap->Q (.ref it) s->Vx (model P w) A (pyIter (.ref it)) Q E s
noncomputable abbrev TI:=St->Hp->(It->Hp->Prop)->Prop
noncomputable def PIE(X:Cx)(pins:bh)(σ:St)(tg:Vk)(R:It->Hp->Prop)(itv:Vh)(s2:Vm):Prop:=
 ∃(it:Vj)(fp:aA)(tn:Nat->Vq->Prop)(J:It)(H':Hp),itv=.ref it/\Inv X pins σ H' s2/\Turn X.prog X.w X.K tg J fp it tn/\tn 0 s2.heap/\(∀b∈fp,rA X pins H' b)/\R J H'
noncomputable def PI(X:Cx)(tg iter:Vk)(wi:TI):Prop:=
 ∀(pins:bh)(s:Vm)(σ:St)(H:Hp)(R:It->Hp->Prop),Inv X pins σ H s->wi σ H R->
  Vx (model X.prog X.w) X.A (eval iter X.env) (λv s1=>Vx (model X.prog X.w) X.A (pyIter v) (PIE X pins σ tg R) X.xe s1) X.xe s
theorem yz{M:Vw}{A:Vu}{E:bT}{s:Vm}{tg:Vk}{it:Vj}{u:Vh}{o:Obj}{n:String}{vs:Array Vh}{Q:Unit->dj}(ho:s.heap.get? it=some o)(hc:o.cls=.type n)(hd:o.data=.fields vs)
    (hn:["enumerate","zip","dict_itemiterator","dict_reverseitemiterator","odict_iterator","itertools.zip_longest","itertools.pairwise"].contains n=false) (hQ:Q () s):Vx M A (letOwnedTupleGo tg (.ref it) u) Q E s:=by
  unfold letOwnedTupleGo;cases tg<;>first
    |exact VI hQ
    | (cases u <;> first
        |exact VI hQ
        | (refine VF (wpAny_load ho ?_)
           rw[hc,hd];show Vx M A (if(["enumerate","zip","dict_itemiterator","dict_reverseitemiterator","odict_iterator","itertools.zip_longest","itertools.pairwise"].contains n&&vs[0]?==some (rawInt _))=true then _ else _) Q E s;rw[if_neg (by intro h;rw[hn,Bool.false_and]at h;cases h)];exact VI hQ))
noncomputable def NY(K:Ug)(a:Vj):It:=
 ⟨λi H=>∃xs x,mJ K H a xs/\xs[i]?=some x,λi H x H'=>H'=H/\∀xs,mJ K H a xs->xs[i]?=some x,λi H=>∃xs,mJ K H a xs/\xs.length<=i⟩
noncomputable def O8(K:Ug)(a:Vj):It:=
 ⟨λi H=>∃xs x,oJ K H a xs/\xs[i]?=some x,λi H x H'=>H'=H/\∀xs,oJ K H a xs->xs[i]?=some x,λi H=>∃xs,oJ K H a xs/\xs.length<=i⟩
noncomputable def K8(lo:Int)(n:Nat):It:=⟨λi _=>i<n,λi H x H'=>H'=H/\x=.int (lo+i),λi _=>n<=i⟩
theorem yW{P:Vo}{w:Vn}{K:Ug}{tg:Vk}(a it:Vj):Turn P w K tg (NY K a) [it] it (λi h=>h.IsListIter it a i)where
 mem:=by simp
 obj:=λi h st b hb=>by
  have e:b=it:=by simpa using hb
  subst e;obtain⟨o,e,c,d⟩:=st;exact⟨o,e,λv z=>by rw[d]at z;cases z⟩
 keep:=λi h h' st k=>st.at λo e=>k it (by simp) o e
 item:=by
  intro X hP hw hK hc i pins s σ H E I hf st hg;subst hP hw hK;obtain⟨xs,x,hq,hx⟩:=hg;obtain⟨its,rv,p,hz⟩:=I.list hq;obtain⟨u,hu,ru⟩:=rv.get hx;obtain⟨f0,f1,f2,f3,f4,f5⟩:=hf it (by simp);refine wpAny_pyNext_list_item st p.isList (x:=u) (by simpa using hu) λh' st' sb=>?_;have I1:Inv X pins σ H {s with heap:=h'}:=I.turned (t':=s.toks) (λb o hb e=>(sb.2 b hb).trans e) f0 f1 f3 f4 f5;obtain⟨o,e,c,d⟩:=id st';exact⟨u,rfl,yz (s:={s with heap:=h'}) e c d (by decide) ⟨x,H,I1,ru,⟨rfl,λys hy=>by rw[I.list_inj hy hq];exact hx⟩,st',λb hb=>(hf b hb).1⟩⟩
 done:=by
  intro X hP hw hK hc i pins s σ H E I hf st hg;subst hP hw hK;obtain⟨xs,hq,hx⟩:=hg;obtain⟨its,rv,p,hz⟩:=I.list hq;obtain⟨f0,f1,f2,f3,f4,f5⟩:=hf it (by simp);have hl:=rv.length;exact wpAny_pyNext_list_end (I.ok.hd hc) st p.isList (by simp;omega) λh' eb=>⟨rfl,I.turned (t':=s.toks) (λb o hb e=>eb b o hb e) f0 f1 f3 f4 f5⟩
 self:=λ_ _ _ _ _ st h=>wpAny_pyIter_listiter st h
theorem xu{P:Vo}{w:Vn}{K:Ug}{tg:Vk}(a it:Vj):Turn P w K tg (O8 K a) [it] it (λi h=>h.IsTupleIter it a i)where
 mem:=by simp
 obj:=λi h st b hb=>by
  have e:b=it:=by simpa using hb
  subst e;obtain⟨o,e,c,d⟩:=st;exact⟨o,e,λv z=>by rw[d]at z;cases z⟩
 keep:=λi h h' st k=>st.at λo e=>k it (by simp) o e
 item:=by
  intro X hP hw hK hc i pins s σ H E I hf st hg;subst hP hw hK;obtain⟨xs,x,hq,hx⟩:=hg;obtain⟨its,rv,p,hz⟩:=I.tuple hq;obtain⟨u,hu,ru⟩:=rv.get hx;obtain⟨f0,f1,f2,f3,f4,f5⟩:=hf it (by simp);refine wpAny_pyNext_tuple_item st (show s.heap.IsTuple a its.toArray from p) (x:=u) (by simpa using hu) λh' st' sb=>?_;have I1:Inv X pins σ H {s with heap:=h'}:=I.turned (t':=s.toks) (λb o hb e=>(sb.2 b hb).trans e) f0 f1 f3 f4 f5;obtain⟨o,e,c,d⟩:=id st';exact⟨u,rfl,yz (s:={s with heap:=h'}) e c d (by decide) ⟨x,H,I1,ru,⟨rfl,λys hy=>by rw[I.tuple_inj hy hq];exact hx⟩,st',λb hb=>(hf b hb).1⟩⟩
 done:=by
  intro X hP hw hK hc i pins s σ H E I hf st hg;subst hP hw hK;obtain⟨xs,hq,hx⟩:=hg;obtain⟨its,rv,p,hz⟩:=I.tuple hq;obtain⟨f0,f1,f2,f3,f4,f5⟩:=hf it (by simp);have hl:=rv.length;exact wpAny_pyNext_tuple_end (I.ok.hd hc) st (show s.heap.IsTuple a its.toArray from p) (by simp;omega) λh' eb=>⟨rfl,I.turned (t':=s.toks) (λb o hb e=>eb b o hb e) f0 f1 f3 f4 f5⟩
 self:=λ_ _ _ _ _ st h=>wpAny_pyIter_tupleiter st h
theorem xt{P:Vo}{w:Vn}{K:Ug}{tg:Vk}(it:Vj)(lo:Int)(n:Nat):Turn P w K tg (K8 lo n) [it] it (λi h=>VJ h it (lo+(i:Nat)*1) ((n:Int)-(i:Nat)) 1)where
 mem:=by simp
 obj:=λi h st b hb=>by
  have e:b=it:=by simpa using hb
  subst e;exact⟨_,st,λv z=>by
   have z':Data.fields _=Data.cell v:=z;cases z'⟩
 keep:=λi h h' st k=>k it (by simp) _ st
 item:=by
  intro X hP hw hK hc i pins s σ H E I hf st hg;subst hP hw hK;obtain⟨f0,f1,f2,f3,f4,f5⟩:=hf it (by simp);have W:=Walks.range (prog:=X.prog) (w:=X.w) (I.ok.hd hc) it lo 1 n;refine W.item i s _ _ hg st λv h' tk hv st' kk=>?_;obtain⟨t,rfl⟩:=hv;have I1:Inv X pins σ H {s with heap:=h',toks:=tk}:=I.turned (λb o hb e=>kk b o (by simpa using hb) e) f0 f1 f3 f4 f5;refine⟨_,rfl,yz (s:={s with heap:=h',toks:=tk}) (n:="range_iterator") st' rfl rfl (by decide) ⟨.int (lo+i),H,I1,⟨t,?_⟩,⟨rfl,rfl⟩,st',λb hb=>(hf b hb).1⟩⟩;rw[Int.mul_one]
 done:=by
  intro X hP hw hK hc i pins s σ H E I hf st hg;subst hP hw hK;obtain⟨f0,f1,f2,f3,f4,f5⟩:=hf it (by simp);exact wpAny_pyNext_range_end (I.ok.hd hc) st (by have:n<=i:=hg;omega) λh' eb=>⟨rfl,I.turned (t':=s.toks) (λb o hb e=>eb b o hb e) f0 f1 f3 f4 f5⟩
 self:=λ_ _ _ _ _ st h=>wpAny_pyIter_rangeiter st h
section
variable{X:Cx}{tg:Vk}
noncomputable def LC(K:Ug)(tl:TE):TI:=λσ H R=>tl σ H λx H1=>∃a,x=.ref a/\(∃xs,mJ K H1 a xs)/\R (NY K a) H1
noncomputable def Od(K:Ug)(tl:TE):TI:=λσ H R=>tl σ H λx H1=>∃a,x=.ref a/\(∃xs,oJ K H1 a xs)/\R (O8 K a) H1
theorem yy{l:Vk}{tl:TE}(hl:PE X l tl):PI X tg l (LC X.K tl):=by
 intro pins s σ H R I h;refine cE (hl pins s σ H _ I h) λv s1 ⟨x,H1,I1,r1,q1⟩=>?_;obtain⟨a,e,⟨xs,hq⟩,q⟩:=q1;subst e;cases r1;obtain⟨its,rv,p,hz⟩:=I1.list hq;refine VL p.isList ?_;refine⟨s1.heap.objs.size,[s1.heap.objs.size],_,_,H1,rfl,I1.kept (t':=s1.toks) λb o e=>UY _ e,yW a _,⟨_,UZ _ rfl,rfl,rfl⟩,λb hb=>?_,q⟩;have e:b=s1.heap.objs.size:=by simpa using hb
 subst e;exact I1.fpOk (RB _) (I1.hok.fresh (RB _))
theorem HA{l:Vk}{tl:TE}(hl:PE X l tl):PI X tg l (Od X.K tl):=by
 intro pins s σ H R I h;refine cE (hl pins s σ H _ I h) λv s1 ⟨x,H1,I1,r1,q1⟩=>?_;obtain⟨a,e,⟨xs,hq⟩,q⟩:=q1;subst e;cases r1;obtain⟨its,rv,p,hz⟩:=I1.tuple hq;refine wpAny_pyIter_tuple (show s1.heap.IsTuple a its.toArray from p) ?_;refine⟨s1.heap.objs.size,[s1.heap.objs.size],_,_,H1,rfl,I1.kept (t':=s1.toks) λb o e=>UY _ e,xu a _,⟨_,UZ _ rfl,rfl,rfl⟩,λb hb=>?_,q⟩;have e:b=s1.heap.objs.size:=by simpa using hb
 subst e;exact I1.fpOk (RB _) (I1.hok.fresh (RB _))
theorem vZ{pins:bh}{σ:St}{H:Hp}{s:Vm}{R:It->Hp->Prop}{E:bT}{lo hi:Int}{t u v:Tok}{tk:Nat}(I:Inv X pins σ H s)(h1:-(2^62)<=lo)(h2:lo<2^62)(h3:-(2^62)<=hi)(h4:hi<2^62)
  (q:R (K8 lo (hi-lo).toNat) H):Vx (model X.prog X.w) X.A (pyIter (.ref s.heap.objs.size)) (PIE X pins σ tg R) E {s with heap:=s.heap.push {cls:=.type "range",data:=.fields #[.int lo t,.int hi u,.int 1 v]},toks:=tk}:=by
 refine wpAny_pyIter_range (IsRange.new ..) (small_one h1 h2 h3 h4) ?_;have I1:Inv X pins σ H {s with heap:=s.heap.push {cls:=.type "range",data:=.fields #[.int lo t,.int hi u,.int 1 v]},toks:=tk}:=I.kept λb o e=>UY _ e;refine⟨(s.heap.push {cls:=.type "range",data:=.fields #[.int lo t,.int hi u,.int 1 v]}).objs.size,[(s.heap.push {cls:=.type "range",data:=.fields #[.int lo t,.int hi u,.int 1 v]}).objs.size],_,_,H,rfl,
  I1.kept (t':=tk) λb o e=>UY _ e,xt _ lo (hi-lo).toNat,?_,λb hb=>?_,q⟩
 ·have e1:lo+((0:Nat):Int)*1=lo:=by simp
  have e2:(((hi-lo).toNat:Nat):Int)-((0:Nat):Int)=Builtin.Range.rangeSize lo hi 1:=by rw[rangeSize_one];split<;>omega
  show VJ _ _ (lo+((0:Nat):Int)*1) ((((hi-lo).toNat:Nat):Int)-((0:Nat):Int)) 1;rw[e1,e2];exact UZ _ rfl
 ·have e:b=(s.heap.push {cls:=.type "range",data:=.fields #[.int lo t,.int hi u,.int 1 v]}).objs.size:=by simpa using hb
  subst e;exact I1.fpOk (RB _) (I1.hok.fresh (RB _))
noncomputable def Kt(ta:TA):TI:=λσ H R=>ta σ H λvs H1=>∃j:Int,vs=[.int j]/\-(2^62)<=j/\j<2^62/\R (K8 0 j.toNat) H1
noncomputable def Mf(ta:TA):TI:=λσ H R=>ta σ H λvs H1=>∃i j:Int,vs=[.int i,.int j]/\(-(2^62)<=i/\i<2^62/\-(2^62)<=j/\j<2^62)/\R (K8 i (j-i).toNat) H1
theorem Ah{a:Vk}{ta:TA}{p pos:Pos}(hg:Gl X "range")(hm:X.mg "range"=none)(ha:PA X [a] ta)(hs:Vy [a] X.env=[(false,eval a X.env)]:=by rfl):PI X tg (.Call (.Name "range" p) [a] [] pos) (Kt ta):=by
 intro pins s σ H R I h;refine Call_ (kC I hg hm boot_range (U5 (cE (ha pos pins s σ H _ I h) λus s1 ⟨vs,H1,I1,r1,q1⟩=>?_) hs rfl));obtain⟨j,e,q1,q2,q⟩:=q1;subst e;cases r1 with
 |cons r rr=>
  cases rr;obtain⟨t,rfl⟩:=r;exact call_range_1 (vZ I1 ‹0› ‹0› q1 q2 (by simpa using q))
theorem zX{a b:Vk}{ta:TA}{p pos:Pos}(hg:Gl X "range")(hm:X.mg "range"=none)(ha:PA X [a,b] ta)(hs:Vy [a,b] X.env=[(false,eval a X.env),(false,eval b X.env)]:=by rfl)(hs2:Vy [b] X.env=[(false,eval b X.env)]:=by rfl):
  PI X tg (.Call (.Name "range" p) [a,b] [] pos) (Mf ta):=by
 intro pins s σ H R I h;refine Call_ (kC I hg hm boot_range (U5 (cE (ha pos pins s σ H _ I h) λus s1 ⟨vs,H1,I1,r1,q1⟩=>?_) (by rw[hs,hs2]) (by rw[hs2];rfl)));obtain⟨i,j,e,⟨q1,q2,q3,q4⟩,q⟩:=q1;subst e;cases r1 with
 |cons r rr=>
  cases rr with
  |cons r' rr=>
   cases rr;obtain⟨t,rfl⟩:=r;obtain⟨t',rfl⟩:=r';exact call_range_2 (vZ I1 q1 q2 q3 q4 q)
noncomputable def Og(wi:TI)(g:TG)(tb:TS):TS:=λD σ H=>wi σ H λJ H1=>∃W:Nat->Nat->St->Hp->Prop,(∃m,W 0 m σ H1)/\∀i m σ H,W i m σ H->
 (J.stop i H/\D.nx σ H)\/(J.go i H/\∃N:St->Hp->Prop,(∀σ' H',N σ' H'->∃m',m'<m/\W (i+1) m' σ' H')/\∀x H',J.yld i H x H'->g x σ H' λσ2 H2=>tb {D with nx:=N,ct:=N,bk:=D.nx} σ2 H2)
noncomputable def rd(fp:aA)(h:Vq):bh:=fp.filterMap λb=>(h.get? b).map λo=>(b,o)
theorem jI{fp:aA}{h:Vq}{b:Vj}{o:Obj}(hb:b∈fp)(e:h.get? b=some o):(b,o)∈rd fp h:=List.mem_filterMap.mpr ⟨b,hb,by rw[e];rfl⟩
theorem AI{fp:aA}{h:Vq}{p:Vj×Obj}(hp:p∈rd fp h):p.1∈fp/\h.get? p.1=some p.2:=by
 obtain⟨b,hb,e⟩:=List.mem_filterMap.mp hp;cases q:h.get? b with
 |none=>rw[q]at e;cases e
 |some o=>
  rw[q]at e;have e':(b,o)=p:=Option.some.inj e;subst e';exact⟨hb,q⟩
theorem Inv.pinned{pins:bh}{σ:St}{H:Hp}{s:Vm}{fp:aA}(I:Inv X pins σ H s)(hf:∀b∈fp,rA X pins H b)(ho:∀b∈fp,∃o,s.heap.get? b=some o/\∀v,o.data≠.cell v):Inv X (pins++rd fp s.heap) σ H s:=
 I.pins_of λp hp=>(List.mem_append.mp hp).elim (λz=>I.pin p (RC _ z)) λz=>by
  obtain⟨hb,e⟩:=AI z;obtain⟨f0,f1,f2,_⟩:=hf p.1 hb;obtain⟨o,e',d⟩:=ho p.1 hb;rw[e]at e';cases e';exact⟨e,f0,f1,f2,d⟩
theorem Inv.unpinned{pins pl:bh}{σ:St}{H:Hp}{s:Vm}(I:Inv X (pins++pl) σ H s):Inv X pins σ H s:=I.pins_of λp hp=>I.pin p (RC _ (Rx _ hp))
theorem HG{iter:Vk}{body:dZ}{wi:TI}{g:TG}{tb:TS}{pos:Pos}(hp:VM (model X.prog X.w) X.A X.env X.xe)(hc:X.calm=true)(hi:PI X tg iter wi)(hg:PG X tg g)(hb:vW X body tb)
  (hs:∀x,VN iter X.env x=pure x:=by intro _;rfl):PS X (.For tg iter body [] pos) (Og wi g tb):=by
 intro pins s σ H D I h;refine wpAny_For (cE (hi pins s σ H _ I h) λv s1 h1=>cE h1 λitv s2 h2=>?_) hs;obtain⟨it,fp,tn,J,H2,e,I2,T,st2,f2,W,⟨m0,w0⟩,turn⟩:=h2;subst e;have stat:∀{H':Hp},(∀b∈fp,H' b=none)->∀b∈fp,rA X pins H' b:=λhn b hb=>⟨hn b hb,(f2 b hb).2⟩
 refine codeAny_forLoop_any (λn s'=>∃i σ' H',Inv X pins σ' H' s'/\tn i s'.heap/\(∀b∈fp,H' b=none)/\W i n σ' H') ?_ m0 ⟨0,σ,H2,I2,st2,λb hb=>(f2 b hb).1,w0⟩;rintro n s3 ⟨i,σ3,H3,I3,st3,fr3,w3⟩;rcases turn i n σ3 H3 w3 with⟨stop,qn⟩|⟨go,N,hN,step⟩
 ·refine VO hp (cE (T.done X rfl rfl rfl hc i pins s3 σ3 H3 X.xe I3 (stat fr3) st3 stop) λr s4 ⟨hr,I4⟩=>?_);subst hr;exact VE ⟨σ3,H3,I4,qn⟩
 ·refine VO hp (cE (T.item X rfl rfl rfl hc i pins s3 σ3 H3 X.xe I3 (stat fr3) st3 go) λr s4 ⟨u,hr,h4⟩=>?_);subst hr;refine VO hp (cE h4 λ_ s5 ⟨x,H5,I5,r5,y5,st5,fr5⟩=>?_);have I5':=I5.pinned (stat fr5) (T.obj _ _ st5);refine VO hp (cE (hg _ s5 σ3 H5 x u _ I5' r5 (step x H5 y5)) λ_ s6 ⟨σ6,H6,I6,q6⟩=>?_);refine VO hp (cE (hb _ s6 σ6 H6 _ I6 q6) λf s7 q7=>?_);have again:∀{σ7:St}{H7:Hp},Inv X (pins++rd fp s5.heap) σ7 H7 s7->N σ7 H7->∃m,m<n/\∃i σ' H',Inv X pins σ' H' s7/\tn i s7.heap/\(∀b∈fp,H' b=none)/\W i m σ' H':=λ{σ7 H7} I7 n7=>by
   obtain⟨m',hm,w7⟩:=hN σ7 H7 n7;refine⟨m',hm,i+1,σ7,H7,I7.unpinned,T.keep _ _ _ st5 λb hb o e=>(I7.pin (b,o) (RC _ (RC _ (jI hb e)))).1,λb hb=>?_,w7⟩;obtain⟨o,e,d⟩:=T.obj _ _ st5 b hb;exact(I7.pin (b,o) (RC _ (RC _ (jI hb e)))).2.1
  cases f with
  |next=>obtain⟨σ7,H7,I7,n7⟩:=q7;exact again I7 n7
  |cont=>obtain⟨σ7,H7,I7,n7⟩:=q7;exact again I7 n7
  |brk=>obtain⟨σ7,H7,I7,q7⟩:=q7;exact⟨σ7,H7,I7.unpinned,q7⟩
  |ret v=>obtain⟨x7,σ7,H7,I7,r7,q7⟩:=q7;exact⟨x7,σ7,H7,I7.unpinned,r7,q7⟩
end
noncomputable abbrev R2:=V->V->Hp->VK->Prop
noncomputable def iK(X:Cx)(f:Vh->Vh->Sem Vh)(r:R2):Prop:=
 ∀(pins:bh)(s:Vm)(σ:St)(H:Hp)(x y:V)(v u:Vh)(Q:VK),Inv X pins σ H s->RelV x v->RelV y u->r x y H Q->
  Vx (model X.prog X.w) X.A (f v u) (EP X pins σ Q) X.xe s
noncomputable def M8(X:Cx)(f:Vh->Sem Vh)(r:V->Hp->VK->Prop):Prop:=
 ∀(pins:bh)(s:Vm)(σ:St)(H:Hp)(x:V)(v:Vh)(Q:VK),Inv X pins σ H s->RelV x v->r x H Q->
  Vx (model X.prog X.w) X.A (f v) (EP X pins σ Q) X.xe s
noncomputable def dg(X:Cx)(f:Vh)(r:aF->Hp->VK->Prop):Prop:=
 ∀(pins:bh)(s:Vm)(σ:St)(H:Hp)(xs:aF)(us:bc)(Q:VK),Inv X pins σ H s->Vals xs us->r xs H Q->
  Vx (model X.prog X.w) X.A (call f us) (EP X pins σ Q) X.xe s
noncomputable def Ot(X:Cx)(r:V->Hp->(Bool->Hp->Prop)->Prop):Prop:=
 ∀(pins:bh)(s:Vm)(σ:St)(H:Hp)(x:V)(v:Vh)(Q:Bool->Hp->Prop),Inv X pins σ H s->RelV x v->r x H Q->
  Vx (model X.prog X.w) X.A (truthy v) (TP X pins σ Q) X.xe s
noncomputable def Lh(r:R2)(ta tb:TE):TE:=λσ H Q=>ta σ H λx H1=>tb σ H1 λy H2=>r x y H2 Q
noncomputable def PB(r:V->Hp->VK->Prop)(ta:TE):TE:=λσ H Q=>ta σ H λx H1=>r x H1 Q
noncomputable def rI(C:Int->Int->Prop)(g:Int->Int->V):R2:=λx y H Q=>∃i j,x=.int i/\y=.int j/\C i j/\Q (g i j) H
noncomputable def AK(g:Int->Int->V):R2:=λx y H Q=>∃i j,x=.int i/\y=.int j/\Q (g i j) H
noncomputable def rU(g:Int->V):V->Hp->VK->Prop:=λx H Q=>∃i,x=.int i/\Q (g i) H
section
variable{X:Cx}{a b c:Vk}{ta tb tc:TE}{pos:Pos}
theorem Jz(ha:PE X a ta)(hb:PE X b tb){pins:bh}{s:Vm}{σ:St}{H:Hp}{R:V->V->Hp->Prop}(I:Inv X pins σ H s)
  (h:ta σ H λx H1=>tb σ H1 λy H2=>R x y H2) {Q:bT} {f:Vh->Vh->Sem Vh}
  (hf:∀v u s2 x y H2,Inv X pins σ H2 s2->RelV x v->RelV y u->R x y H2->Vx (model X.prog X.w) X.A (f v u) Q X.xe s2):
  Vx (model X.prog X.w) X.A (eval a X.env) (λv s₁=>Vx (model X.prog X.w) X.A (eval b X.env) (λu s₂=>Vx (model X.prog X.w) X.A (f v u) Q X.xe s₂) X.xe s₁) X.xe s:=by
 refine cE (ha pins s σ H _ I h) λv s1 ⟨x,H1,I1,r1,q1⟩=>?_;refine cE (hb pins s1 σ H1 _ I1 q1) λu s2 ⟨y,H2,I2,r2,q2⟩=>?_;exact hf v u s2 x y H2 I2 r1 r2 q2
theorem LO{op:Operator}{r:R2}(ho:iK X (VP op) r)(ha:PE X a ta)(hb:PE X b tb):PE X (.BinOp a op b pos) (Lh r ta tb):=by
 intro pins s σ H Q I h;exact wpAny_BinOp (Jz ha hb I h λv u s2 x y H2 I2 rx ry q=>ho pins s2 σ H2 x y v u Q I2 rx ry q)
theorem LD{op:UnaryOp}{r:V->Hp->VK->Prop}(ho:M8 X (unaryOp op) r)(ha:PE X a ta):PE X (.UnaryOp op a pos) (PB r ta):=by
 intro pins s σ H Q I h;exact UnaryOp_ (cE (ha pins s σ H _ I h) λv s1 ⟨x,H1,I1,r1,q1⟩=>ho pins s1 σ H1 x v Q I1 r1 q1)
theorem K7{f:Vh->Vh->Sem Vh}{C:Int->Int->Prop}{g:Int->Int->Int}
  (rule:∀(i j:Int)(t u:Tok)(s:Vm)(Q:bT)(E:bT),C i j->Q (.int (g i j) s.toks) {s with toks:=s.toks+1}->Vx (model X.prog X.w) X.A (f (.int i t) (.int j u)) Q E s):
  iK X f (rI C λi j=>.int (g i j)):=by
 intro pins s σ H x y v u Q I rx ry h;obtain⟨i,j,rfl,rfl,hc,q⟩:=h;obtain⟨t,rfl⟩:=rx;obtain⟨t',rfl⟩:=ry;exact rule i j t t' s _ _ hc ⟨.int (g i j),H,I.tok _,⟨_,rfl⟩,q⟩
theorem JP{f:Vh->Vh->Sem Vh}{g:Int->Int->Int}
  (rule:∀(i j:Int)(t u:Tok)(s:Vm)(Q:bT)(E:bT),Q (.int (g i j) s.toks) {s with toks:=s.toks+1}->Vx (model X.prog X.w) X.A (f (.int i t) (.int j u)) Q E s):
  iK X f (AK λi j=>.int (g i j)):=by
 intro pins s σ H x y v u Q I rx ry h;obtain⟨i,j,rfl,rfl,q⟩:=h;obtain⟨t,rfl⟩:=rx;obtain⟨t',rfl⟩:=ry;exact rule i j t t' s _ _ ⟨.int (g i j),H,I.tok _,⟨_,rfl⟩,q⟩
theorem HK{f:Vh->Vh->Sem Vh}{g:Int->Int->Bool}
  (rule:∀(i j:Int)(t u:Tok)(s:Vm)(Q:bT)(E:bT),Q (.bool (g i j)) s->Vx (model X.prog X.w) X.A (f (.int i t) (.int j u)) Q E s):
  iK X f (AK λi j=>.bl (g i j)):=by
 intro pins s σ H x y v u Q I rx ry h;obtain⟨i,j,rfl,rfl,q⟩:=h;obtain⟨t,rfl⟩:=rx;obtain⟨t',rfl⟩:=ry;exact rule i j t t' s _ _ ⟨.bl (g i j),H,I,rfl,q⟩
noncomputable def Kp(i j:Int):Prop:=0<=j/\j<=1000000/\i.natAbs<2^64
noncomputable def Ji(i j:Int):Prop:=(-(2^64)<i/\i<2^64)\/(-(2^64)<j/\j<2^64)
theorem Ji.ok{i j:Int}(h:Ji i j):IntMulOk i j:=by
 rcases h with⟨h1,h2⟩|⟨h1,h2⟩
 ·exact .of_left (intBits_le_64 h1 h2)
 ·exact .of_right (intBits_le_64 h1 h2)
theorem xh(k:Nat):(0:Int)<=2^k:=by
 rw[two_pow_cast];exact Int.natCast_nonneg _
theorem II:iK X (VP .Add) (AK λi j=>.int (i+j)):=JP λ_ _ _ _ _ _ _ q=>add_int q
theorem IG:iK X (VP .Sub) (AK λi j=>.int (i-j)):=JP λ_ _ _ _ _ _ _ q=>sub_int q
theorem BF:iK X (VP .Mult) (rI Ji λi j=>.int (i*j)):=K7 λ_ _ _ _ _ _ _ hc q=>mul_int q hc.ok
theorem JW:iK X (VP .Mod) (rI (λ_ j=>0<j) λi j=>.int (i%j)):=K7 λi j _ _ _ _ _ hc q=>by
 have h1:(0:Int)<j:=hc;exact mod_int' ‹0› (by rw[Int.fmod_eq_emod_of_nonneg i ‹0›];exact q)
theorem J4:iK X (VP .Pow) (rI Kp λi j=>.int (i^j.toNat)):=K7 λ_ _ _ _ _ _ _ hc q=>pow_int_small hc.1 hc.2.1 hc.2.2 q
theorem HN:iK X (VP .RShift) (rI (λ_ j=>0<=j) λi j=>.int (i/2^j.toNat)):=K7 λi j _ _ _ _ _ hc q=>
 rshift_int hc (by rw[RD i (xh _)];exact q)
theorem JF:iK X (VP .BitAnd) (AK λi j=>.int (Builtin.bitAnd i j)):=JP λ_ _ _ _ _ _ _ q=>and_int q
theorem Qd{f:Vh->Sem Vh}{g:Int->Int}
  (rule:∀(i:Int)(t:Tok)(s:Vm)(Q:bT)(E:bT),Q (.int (g i) s.toks) {s with toks:=s.toks+1}->Vx (model X.prog X.w) X.A (f (.int i t)) Q E s):
  M8 X f (rU λi=>.int (g i)):=by
 intro pins s σ H x v Q I rx h;obtain⟨i,rfl,q⟩:=h;obtain⟨t,rfl⟩:=rx;exact rule i t s _ _ ⟨.int (g i),H,I.tok _,⟨_,rfl⟩,q⟩
theorem JX:M8 X (unaryOp .USub) (rU λi=>.int (-i)):=Qd λ_ _ _ _ _ q=>neg_int q
end
section
variable{X:Cx}{a b c:Vk}{ta tb tc:TE}{pos:Pos}
theorem BR{pins:bh}{σ:St}{H:Hp}{s:Vm}{Q:VK}{k k':Bool}(I:Inv X pins σ H s)(q:Q (.bl k) H)(e:k=k'):EP X pins σ Q (.bool k') s:=by
 subst e;exact⟨.bl k,H,I,rfl,q⟩
theorem KN:iK X (VB .Lt) (AK λi j=>.bl (decide (i<j))):=HK λ_ _ _ _ _ _ _ q=>lt_int q
theorem sP:iK X (VB .LtE) (AK λi j=>.bl (decide (i<=j))):=HK λ_ _ _ _ _ _ _ q=>le_int q
theorem Hh:iK X (VB .Gt) (AK λi j=>.bl (decide (j<i))):=HK λ_ _ _ _ _ _ _ q=>gt_int q
theorem zi:iK X (VB .Lt) (λx y H Q=>∃i j,x=.str i/\y=.str j/\Q (.bl (decide (i.cps.toList<j.cps.toList))) H):=by
 intro pins s σ H x y v u Q I rx ry h;obtain⟨i,j,rfl,rfl,q⟩:=h;obtain⟨t,rfl⟩:=rx;obtain⟨t',rfl⟩:=ry;exact lt_str (BR I q rfl)
theorem iH(b:Vk){op:VA}(h:op≠.In:=by decide)(h2:op≠.NotIn:=by decide):VC op b=false:=by
 have e1:(op==CmpOp.In)=false:=by cases op<;>first|rfl|exact absurd rfl h
 have e2:(op==CmpOp.NotIn)=false:=by cases op<;>first|rfl|exact absurd rfl h2
 cases b<;>simp[VC,e1,e2]
theorem Gx{op:VA}{r:R2}(ho:iK X (VB op) r)(ha:PE X a ta)(hb:PE X b tb)(hm:VC op b=false):PE X (.Compare a [op] [b] pos) (Lh r ta tb):=by
 intro pins s σ H Q I h;exact wpAny_Compare1 (Jz ha hb I h λv u s2 x y H2 I2 rx ry q=>ho pins s2 σ H2 x y v u Q I2 rx ry q) hm
noncomputable def A4(t:TE):TT:=λσ H Q=>t σ H λx H'=>∃k,x=.bl k/\Q k H'
theorem EY{op:VA}{r:R2}(ho:iK X (VB op) r)(ha:PE X a ta)(hb:PE X b tb)(hm:VC op b=false):PT X (.Compare a [op] [b] pos) (A4 (Lh r ta tb)):=by
 intro pins s σ H Q I h;refine wpAny_isTrue_Compare1 (cE (ha pins s σ H _ I h) λv s1 ⟨x,H1,I1,r1,q1⟩=>cE (hb pins s1 σ H1 _ I1 q1) λu s2 ⟨y,H2,I2,r2,q2⟩=>
  cE (ho pins s2 σ H2 x y v u _ I2 r1 r2 q2) λc s3 ⟨z,H3,I3,r3,k,e,q3⟩=>?_) hm
 subst e;cases r3;exact VD ⟨H3,I3,q3⟩
noncomputable def wB(r r':R2)(ta tb tc:TE):TE:=λσ H Q=>ta σ H λx H1=>tb σ H1 λy H2=>r x y H2 λz H3=>∃k,z=.bl k/\
 (if k=true then tc σ H3 λw' H4=>r' y w' H4 Q else Q (.bl false) H3)
theorem CG{op op':VA}{r r':R2}(ho:iK X (VB op) r)(ho':iK X (VB op') r')(ha:PE X a ta)(hb:PE X b tb)(hc:PE X c tc)
  (hm:lastMarks [op,op'] [b,c]=false:=by with_unfolding_all rfl):PE X (.Compare a [op,op'] [b,c] pos) (wB r r' ta tb tc):=by
 intro pins s σ H Q I h;refine Compare_chain (cE (ha pins s σ H _ I h) λv s1 ⟨x,H1,I1,r1,q1⟩=>chain_link (cE (hb pins s1 σ H1 _ I1 q1) λu s2 ⟨y,H2,I2,r2,q2⟩=>
  cE (ho pins s2 σ H2 x y v u _ I2 r1 r2 q2) λd s3 ⟨z,H3,I3,r3,k,e,q3⟩=>?_)) hm
 subst e;cases r3;refine VD ?_;cases k with
 |false=>exact ite_ff ⟨.bl false,H3,I3,rfl,q3⟩
 |true=>exact ite_tt (chain_last (cE (hc pins s3 σ H3 _ I3 q3) λw' s4 ⟨z',H4,I4,r4,q4⟩=>ho' pins s4 σ H4 y z' u w' Q I4 r2 r4 q4))
theorem DT{op op':VA}{r r':R2}(ho:iK X (VB op) r)(ho':iK X (VB op') r')(ha:PE X a ta)(hb:PE X b tb)(hc:PE X c tc)
  (hm:lastMarks [op,op'] [b,c]=false:=by with_unfolding_all rfl):PT X (.Compare a [op,op'] [b,c] pos) (A4 (wB r r' ta tb tc)):=by
 intro pins s σ H Q I h;refine isTrue_chain (cE (ha pins s σ H _ I h) λv s1 ⟨x,H1,I1,r1,q1⟩=>test_link (cE (hb pins s1 σ H1 _ I1 q1) λu s2 ⟨y,H2,I2,r2,q2⟩=>
  cE (ho pins s2 σ H2 x y v u _ I2 r1 r2 q2) λd s3 ⟨z,H3,I3,r3,k,e,q3⟩=>?_)) hm
 subst e;cases r3;refine VD ?_;cases k with
 |false=>
  obtain⟨k',e',q'⟩:=q3;cases e';exact ite_ff ⟨H3,I3,q'⟩
 |true=>
  refine ite_tt (test_last (cE (hc pins s3 σ H3 _ I3 q3) λw' s4 ⟨z',H4,I4,r4,q4⟩=>cE (ho' pins s4 σ H4 y z' u w' _ I4 r2 r4 q4) λd' s5 ⟨z2,H5,I5,r5,k2,e2,q5⟩=>?_));subst e2;cases r5;exact VD ⟨H5,I5,q5⟩
noncomputable def KW(K:Ug)(x:V)(H:Hp)(k:Bool):Prop:=
 match x with
 |.non=>k=false
 |.bl b=>k=b
 |.int i=>k=(i !=0)
 |.str y=>y.length<=Vr/\k=((y.length:Int) !=0)
 |.byt y=>y.size<=Vr/\k=((y.size:Int) !=0)
 |.ref p=>(∃xs,mJ K H p xs/\k=!xs.isEmpty)\/(∃xs,oJ K H p xs/\k=!xs.isEmpty)\/∃kvs,H p=some (.dK kvs)/\k=!kvs.isEmpty
 |_=>False
theorem xg{κ:Type}{kvs:List (κ×V)}{vs:List (κ×Vh)}(r:KV kvs vs):(!vs.isEmpty)=!kvs.isEmpty:=by
 cases r<;>rfl
theorem qt{xs:aF}{its:bc}(r:Vals xs its):(!its.toArray.isEmpty)=!xs.isEmpty:=by
 cases r<;>simp
theorem mw:(Vr:Nat)<2^63:=by rw[VQ];decide
theorem HP:Ot X (λx H Q=>∃k,KW X.K x H k/\Q k H):=by
 intro pins s σ H x v Q I rx h;obtain⟨k,e,q⟩:=h;have hl:=mw;have hs:Vr=16777216:=VQ;cases x with
 |non=>
  cases rx;have e':k=false:=e;subst e';exact truthy_none ⟨H,I,q⟩
 |bl b=>
  cases rx;have e':k=b:=e;subst e';exact VD ⟨H,I,q⟩
 |int i=>
  obtain⟨t,rfl⟩:=rx;have e':k=(i !=0):=e;subst e';exact PySem.P.truthy_int ⟨H,I,q⟩
 |str y=>
  obtain⟨t,rfl⟩:=rx;obtain⟨hy,e'⟩:y.length<=Vr/\k=((y.length:Int) !=0):=e;subst e';exact PySem.P.truthy_str ‹0› ⟨H,I.tok _,q⟩
 |byt y=>
  obtain⟨t,rfl⟩:=rx;obtain⟨hy,e'⟩:y.size<=Vr/\k=((y.size:Int) !=0):=e;subst e';exact PySem.W.truthy_bytes ‹0› ⟨H,I.tok _,q⟩
 |ref p=>
  cases rx;have e':(∃xs,mJ X.K H p xs/\k=!xs.isEmpty)\/(∃xs,oJ X.K H p xs/\k=!xs.isEmpty)\/∃kvs,H p=some (.dK kvs)/\k=!kvs.isEmpty:=e;rcases e' with⟨xs,hx,e'⟩|⟨xs,hx,e'⟩|⟨kvs,hx,e'⟩
  ·subst e';obtain⟨its,r,pl,hz⟩:=I.list hx;have hlen:=r.length;exact wpAny_truthy_list pl.isList (by simp only[RE];omega) ⟨H,I.tok _,by rw[qt r];exact q⟩
  ·subst e';obtain⟨its,r,pl,hz⟩:=I.tuple hx;have hlen:=r.length;exact truthy_tuple pl (by simp only[RE];omega) ⟨H,I.tok _,by rw[qt r];exact q⟩
  ·subst e';obtain⟨hz,hS,vs,r,m⟩:kvs.length<=Vr/\(p==sysModules)=false/\∃vs,KV kvs vs/\s.heap.DictOf (cw X.prog X.w) p vs:=I.hok p _ hx;have hlen:kvs.length=vs.length:=Paired.length r;exact wpAny_truthy_dict hS m ‹0› ⟨H,I.tok _,by rw[xg r];exact q⟩
 |_=>exact(show False from e).elim
theorem Bq(ha:PE X a ta)(he:∀whole,isTrue a X.env whole=(do let v<-whole;standAt a.pos;holding [v] (truthy v))):
  PT X a (λσ H Q=>ta σ H λx H'=>∃k,KW X.K x H' k/\Q k H'):=by
 intro pins s σ H Q I h;exact isTrue_plain (cE (ha pins s σ H _ I h) λv s1 ⟨x,H1,I1,r1,q1⟩=>HP pins s1 σ H1 x v Q I1 r1 q1) (he _)
theorem wH:iK X (VP .Add) (λx y H Q=>∃i j,x=.str i/\y=.str j/\i.length+j.length<=Vr/\Q (.str (i++j)) H):=by
 intro pins s σ H x y v u Q I rx ry h;obtain⟨i,j,rfl,rfl,hz,q⟩:=h;obtain⟨t,rfl⟩:=rx;obtain⟨t',rfl⟩:=ry;exact add_str (λt' tk=>⟨.str (i++j),H,I.tok _,⟨_,rfl⟩,q⟩) hz
theorem vals1{x:V}{us:bc}(r:Vals [x] us):∃u,us=[u]/\RelV x u:=by
 cases r with
 |cons r1 r2=>cases r2;exact⟨_,rfl,r1⟩
theorem vals2{x y:V}{us:bc}(r:Vals [x,y] us):∃u w',us=[u,w']/\RelV x u/\RelV y w':=by
 cases r with
 |cons r1 r2=>
  cases r2 with
  |cons r3 r4=>cases r4;exact⟨_,_,rfl,r1,r3⟩
theorem Ak(hc:X.calm=true):dg X (.builtin "max") (λxs H Q=>∃i j,xs=[.int i,.int j]/\Q (.int (if j>i then j else i)) H):=by
 intro pins s σ H xs us Q I r h;obtain⟨i,j,rfl,q⟩:=h;obtain⟨u,w',rfl,⟨t,rfl⟩,⟨t',rfl⟩⟩:=vals2 r;refine max_two_ints (I.ok.hd hc) λh' tk k=>⟨_,H,I.kept k,?_,q⟩
 by_cases hj:j>i
 ·rw[if_pos hj,if_pos hj];exact⟨_,rfl⟩
 ·rw[if_neg hj,if_neg hj];exact⟨_,rfl⟩
theorem zy(hc:X.calm=true):dg X (.builtin "min") (λxs H Q=>∃i j,xs=[.int i,.int j]/\Q (.int (if j<i then j else i)) H):=by
 intro pins s σ H xs us Q I r h;obtain⟨i,j,rfl,q⟩:=h;obtain⟨u,w',rfl,⟨t,rfl⟩,⟨t',rfl⟩⟩:=vals2 r;refine min_two_ints (I.ok.hd hc) λh' tk k=>⟨_,H,I.kept k,?_,q⟩
 by_cases hj:j<i
 ·rw[if_pos hj,if_pos hj];exact⟨_,rfl⟩
 ·rw[if_neg hj,if_neg hj];exact⟨_,rfl⟩
theorem tL:dg X (.type "int") (λxs H Q=>(∃i,xs=[.int i]/\Q (.int i) H)\/∃k,xs=[.bl k]/\Q (.int (if k then 1 else 0)) H):=by
 intro pins s σ H xs us Q I r h;rcases h with⟨i,rfl,q⟩|⟨k,rfl,q⟩
 ·obtain⟨u,rfl,t,rfl⟩:=vals1 r;exact call_int_int ⟨.int i,H,I,⟨_,rfl⟩,q⟩
 ·obtain⟨u,rfl,r1⟩:=vals1 r;cases r1;exact call_int_bool ⟨.int (if k then 1 else 0),H,I.tok _,⟨_,rfl⟩,q⟩
theorem uz:dg X (.type "str") (λxs H Q=>∃i,xs=[.int i]/\i.natAbs.log2<1920/\Q (.str (toString i)) H):=by
 intro pins s σ H xs us Q I r h;obtain⟨i,rfl,hz,q⟩:=h;obtain⟨u,rfl,t,rfl⟩:=vals1 r;exact PySem.P.str_of_int hz ⟨.str _,H,I.tok _,⟨_,rfl⟩,q⟩
end
structure zU(h:Vq)(x dx C:Vj)(mA:cN):Prop where
 obj:h.get? x=some (Ud C dx)
 ns:h.Ns1 dx mA
 ne:dx≠x
theorem yU{h:Vq}{dx:Vj}{mA:cN}(n:h.Ns1 dx mA):∃od,h.get? dx=some od/\∀name,Uh name od=some (mA name):=by
 obtain⟨o,es,ep,ho,hd,hk,_,hm⟩:=n;refine⟨o,ho,λname=>?_⟩;have e:=hm name;unfold nsFind findBy at e;rw[<-Array.find?_toList]at e;unfold Uh;rw[hd];dsimp only;split
 ·rename_i y q;rw[q]at e;exact congrArg some e
 ·rename_i q;rw[q]at e;have a:es.toList.any (·.refKey)=false:=by
   rw[List.any_eq_false];intro y hy;obtain⟨z,t,hkey⟩:=hk y (Array.mem_toList_iff.mp hy);simp[DictEntry.refKey,hkey]
  have a':¬es.toList.any (·.refKey)=true:=by rw[a];exact RF
  rw[if_neg a'];exact congrArg some e
theorem zU.look{h:Vq}{x dx C:Vj}{mA:cN}(I:zU h x dx C mA):∃od,PySem.W.InstAt h x (Ud C dx) C (some od)/\∀name,Uh name od=some (mA name):=
 let ⟨od,ho,hl⟩:=yU I.ns
 ⟨od,⟨I.obj,rfl,rfl,ho⟩,hl⟩
section
variable{prog:Vo}{w:Vn}{A:Vu}{E:bT}{s:Vm}{K:Ug}{x dx C f:Vj}{mA:cN}{name:Str}{v:Vh}
theorem E7{expr:Bool}{Q:bT}(X:K.In s.heap)(I:zU s.heap x dx C mA)(hg:Ui K C name=true)(hh:Uj K C=true)
  (ha:Uk K (.ref C) name=some none) (hv:mA name=some v) (hv':Ul v=true) (h:Q v {s with toks:=s.toks+1}):
  Vx (model prog w) A (getAttr (.ref x) name expr) Q E s:=by
 obtain⟨od,J,hl⟩:=I.look;exact PySem.W.get_value X J (Um hg).1 (PySem.W.findObj_own hh ha rfl (by rw[hl,hv])) hv' h
theorem C9{pl:Sem Bool}{Q:Vh×List Vh->dj}(X:K.In s.heap)(I:zU s.heap x dx C mA)(hg:Ui K C name=true)
  (hf:Uk K (.ref C) name=some (some (.ref f))) (ht:Uo K (.ref f)=true) (hv:mA name=none) (h:Q (.ref f,[.ref x]) s):
  Vx (model prog w) A (getMethod (.ref x) name pl) Q E s:=by
 obtain⟨od,J,hl⟩:=I.look;exact PySem.W.method_fn X J (Um hg).1 (Um hg).2 hf (beq_iff_eq.mp ht) (by show(Uh name od).map (·.isSome)=some false;rw[hl,hv];rfl) h
theorem Ey{ns:av}{Q:Unit->dj}(X:K.In s.heap)(I:zU s.heap x dx C mA)
  (hs:Uk K (.ref C) "__setattr__"=some (some (.builtin "object.__setattr__"))) (hp:Uq K C=true) (ht:Ur K C name=some none) (hh:Uj K C=true)
  (hw:PySem.Within mA ns) (hsz:ns.length<=Vr)
  (h:∀h',zU h' x dx C (λy=>if y=name then some v else mA y)->UX dx s.heap h'->Q () {s with heap:=h',toks:=s.toks+2}):
  Vx (model prog w) A (setAttr (.ref x) name v) Q E s:=by
 obtain⟨od,J,hl⟩:=I.look;refine PySem.W.set_plain X J hs (PySem.W.osa_open (s:={s with toks:=s.toks+1}) (r:=none) X J hp ht λb=>?_);obtain⟨cd,hc,hd'⟩:=Us hh;have hx:s.heap.get? x=some ⟨.ref C,some dx,.plain,#[]⟩:=I.obj;refine VF (VI (VF (VF (wpAny_loadPart hx (VF (PySem.W.Looks.here (s:={s with toks:=s.toks+1}) (PySem.W.looks_clsIn X hc) ?_))))));rw[hd'];refine VI (a:=some dx) (VF (VI (VF ?_)));refine wpAny_nsSet1 (s:={s with toks:=s.toks+1}) I.ns λh' hn2 hs2=>?_;obtain⟨oD,esD,epD,hoD,hdD,hcD⟩:=hn2.count (PySem.Within.cons name v hw);refine VF (wpAny_lookBehind hoD (by rw[hdD];exact pastItsLine_dict (Rq hcD (by rw[RG];omega))) ?_);exact VI (h _ ⟨(hs2.2 _ (Ne.symm I.ne)).trans I.obj,hn2,I.ne⟩ hs2)
theorem DI{R:Result->dj}{vs:bc}{kw:List (Str×Vh)}(X:K.In s.heap)(hm:Ut K C=true)
  (hi:Uk K (.ref C) "__init__"=some (some (.ref f))) (hf:Uu K (.ref f)=some (.type "function"))
  (h:VR (model prog w) (A.under (.builtin "type.__call__" ⟨.ref C::vs,kw⟩)) (.call (.ref f) ⟨.ref (s.heap.objs.size+1)::vs,kw⟩) (Uv (s.heap.objs.size+1) R)
   {s with heap:=(s.heap.push Uw).push (Ud C s.heap.objs.size)}):
  VR (model prog w) A (.call (.ref C) ⟨vs,kw⟩) R s:=by
 obtain⟨hh,g,d,t,os⟩:=s;exact Ux (Uy X hm) (Uz X hi) (λself=>PySem.W.bind_fn X self hf) (.inl rfl) h
theorem zF{R:Result->dj}(X:K.In s.heap)(hm:Ut K C=true)
  (hi:Uk K (.ref C) "__init__"=some (some (.builtin "object.__init__")))
  (hb:∀self,UA (model prog w) s.heap (bindSpecial (.builtin "object.__init__") self) (.builtin "object.__init__",[self]))
  (h:VR (model prog w) (A.under (.builtin "type.__call__" ⟨[.ref C],[]⟩)) (.call (.builtin "object.__init__") ⟨[.ref (s.heap.objs.size+1)],[]⟩) (Uv (s.heap.objs.size+1) R)
   {s with heap:=(s.heap.push Uw).push (Ud C s.heap.objs.size)}):
  VR (model prog w) A (.call (.ref C) ⟨[],[]⟩) R s:=by
 obtain⟨hh,g,d,t,os⟩:=s;exact Ux (Uy X hm) (Uz X hi) hb (.inr ⟨rfl,rfl⟩) h
end
noncomputable def jS(f:Str)(v:V):List (Str×V)->List (Str×V)
 |[]=>[(f,v)]
 |(g,x)::r=>if g=f then(g,v)::r else(g,x)::jS f v r
theorem pE(f g:Str)(v:V):∀fs:List (Str×V),(jS f v fs).lookup g=if g=f then some v else fs.lookup g
 |[]=>by
  show List.lookup g [(f,v)]=_;by_cases h:g=f
  ·have hb:(g==f)=true:=beq_iff_eq.mpr h;simp only[List.lookup,hb,if_pos h]
  ·have hb:(g==f)=false:=beq_eq_false_iff_ne.mpr h;simp only[List.lookup,hb,if_neg h]
 |(k,x)::r=>by
  have ih:=pE f g v r;rw[show jS f v ((k,x)::r)=(if k=f then(k,v)::r else(k,x)::jS f v r)from rfl];by_cases hk:k=f
  ·rw[if_pos hk];by_cases h:g=k
   ·have hb:(g==k)=true:=beq_iff_eq.mpr h;simp only[List.lookup,hb,if_pos (h.trans hk)]
   ·have hb:(g==k)=false:=beq_eq_false_iff_ne.mpr h;simp only[List.lookup,hb,if_neg (λe:g=f=>h (e.trans hk.symm))]
  ·rw[if_neg hk];by_cases h:g=k
   ·have hb:(g==k)=true:=beq_iff_eq.mpr h;simp only[List.lookup,hb,if_neg (λe:g=f=>hk (h.symm.trans e))]
   ·have hb:(g==k)=false:=beq_eq_false_iff_ne.mpr h;simp only[List.lookup,hb];exact ih
theorem n6(f:Str)(v:V):∀fs:List (Str×V),f∈(jS f v fs).map (·.1)/\∀g,g∈fs.map (·.1)->g∈(jS f v fs).map (·.1)
 |[]=>⟨by simp[jS],λg h=>by simp at h⟩
 |(k,x)::r=>by
  obtain⟨i1,i2⟩:=n6 f v r;rw[show jS f v ((k,x)::r)=(if k=f then(k,v)::r else(k,x)::jS f v r)from rfl];by_cases hk:k=f
  ·rw[if_pos hk];subst hk;exact⟨by simp,λg h=>by simpa using h⟩
  ·rw[if_neg hk];refine⟨?_,λg h=>?_⟩
   ·rw[RH];exact Rv _ i1
   ·rw[RH]at h ⊢;rcases List.mem_cons.mp h with e|e
    ·exact List.mem_cons.mpr (.inl e)
    ·exact Rv _ (i2 g e)
theorem pA(f:Str)(v:V):∀fs:List (Str×V),(jS f v fs).length<=fs.length+1
 |[]=>by simp[jS]
 |(k,x)::r=>by
  have ih:=pA f v r;rw[show jS f v ((k,x)::r)=(if k=f then(k,v)::r else(k,x)::jS f v r)from rfl];by_cases hk:k=f
  ·rw[if_pos hk,RG,RG];omega
  ·rw[if_neg hk,RG,RG];omega
theorem t7.some_of{v:V}{o:Option Vh}(r:t7 (some v) o):∃u,o=some u/\RelV v u:=by
 cases o with
 |none=>exact(show False from r).elim
 |some u=>exact⟨u,rfl,r⟩
theorem t7.none_of{o:Option Vh}(r:t7 none o):o=none:=by
 cases o with
 |none=>rfl
 |some u=>exact(show False from r).elim
theorem AH{v:V}{u:Vh}(r:RelV v u):Ul u=true:=by
 cases v with
 |non=>cases(show u=Value.none from r);rfl
 |bl b=>cases(show u=Value.bool b from r);rfl
 |int i=>obtain⟨t,e⟩:=(show∃t,u=Value.int i t from r);cases e;rfl
 |str x=>obtain⟨t,e⟩:=(show∃t,u=Value.str x t from r);cases e;rfl
 |byt b=>obtain⟨t,e⟩:=(show∃t,u=Value.bytes b t from r);cases e;rfl
 |flt b=>obtain⟨t,e⟩:=(show∃t,u=Value.float b t from r);cases e;rfl
 |ref a=>cases(show u=Value.ref a from r);rfl
 |ty n=>cases(show u=Value.type n from r);rfl
section
variable{P:Vo}{w:Vn}{H H':Hp}{h h':Vq}{a C dx:Vj}{fs fs':List (Str×V)}
theorem qd(hok:nO P w H h)(e:H a=some (.ins C dx fs)):∃mA,zU h a dx C mA/\(∀f,t7 (fs.lookup f) (mA f))/\PySem.Within mA (fs.map (·.1))/\fs.length<=1000/\H dx=some (.own a):=by
 obtain⟨d,z,ne,ob,mA,n,r,q⟩:=(show cG P w H h a (.ins C dx fs)from hok a _ e)
 exact⟨mA,⟨ob,n,ne⟩,r,q,z,d⟩
end
structure mG(K:Ug)(C:Vj):Prop where
 pg:Ui K C Str.empty=true
 hd:Uj K C=true
 po:Uq K C=true
 sa:Uk K (.ref C) "__setattr__"=some (some (.builtin "object.__setattr__"))
theorem mG.get{K:Ug}{C:Vj}(c:mG K C)(f:Str):Ui K C f=true:=c.pg
noncomputable def fD(K:Ug)(C:Vj)(f:Str):Prop:=Uk K (.ref C) f=some none
theorem fD.taker{K:Ug}{C:Vj}{f:Str}(n:fD K C f):Ur K C f=some none:=by
 unfold Ur;rw[show Uk K (.ref C) f=some none from n];rfl
structure Meth(K:Ug)(C:Vj)(m:Str)(f:Vj):Prop where
 at_:Uk K (.ref C) m=some (some (.ref f))
 fn:Uo K (.ref f)=true
 kp:UB K (.ref f)=true
section
variable{X:Cx}{pins:bh}{σ:St}{H:Hp}{s:Vm}{a C dx:Vj}{fs:List (Str×V)}{f:Str}{v:V}{A:Vu}{E:bT}
theorem wt{b:Bool}{Q:bT}(I:Inv X pins σ H s)(e:H a=some (.ins C dx fs))(c:mG X.K C)(n:fD X.K C f)(l:fs.lookup f=some v)
  (h:∀u s',Inv X pins σ H s'->RelV v u->Q u s'):Vx (model X.prog X.w) A (getAttr (.ref a) f b) Q E s:=by
 obtain⟨mA,O,r,_,_,_⟩:=qd I.hok e;obtain⟨u,hu,ru⟩:=t7.some_of (v:=v) (o:=mA f) (by rw[<-l];exact r f);exact E7 I.kIn O (c.get f) c.hd n hu (AH ru) (h u _ (I.tok _) ru)
theorem xf{m:Str}{g:Vj}{pl:Sem Bool}{Q:Vh×List Vh->dj}(I:Inv X pins σ H s)(e:H a=some (.ins C dx fs))(c:mG X.K C)(k:Meth X.K C m g)(l:fs.lookup m=none)
  (h:Q (.ref g,[.ref a]) s):Vx (model X.prog X.w) A (getMethod (.ref a) m pl) Q E s:=by
 obtain⟨mA,O,r,_,_,_⟩:=qd I.hok e;have hn:mA m=none:=t7.none_of (by rw[<-l];exact r m);exact C9 I.kIn O (c.get m) k.at_ k.fn hn h
theorem wa{y:V}{u:Vh}{Q:Unit->dj}(I:Inv X pins σ H s)(e:H a=some (.ins C dx fs))(c:mG X.K C)(n:fD X.K C f)(hl:fs.length<1000)(ry:RelV y u)
  (h:∀s',Inv X pins σ (upd H a (.ins C dx (jS f y fs))) s'->Q () s'):Vx (model X.prog X.w) A (setAttr (.ref a) f u) Q E s:=by
 obtain⟨mA,O,r,wi,_,ho⟩:=qd I.hok e;have hz:(fs.map (·.1)).length<=Vr:=by rw[RJ,VQ];omega
 refine Ey I.kIn O c.sa c.po n.taker c.hd wi hz λh' O' sb=>h _ ?_;have hd:∃o,h'.get? dx=some o:=let ⟨o,_,_,e',_⟩:=O'.ns;⟨o,e'⟩
 refine I.write (x:=a) (e:=dx) (by rw[e];exact True.intro) (.inr ho) (λb q hb z=>(sb.2 b hb).trans z) hd ?_;refine⟨by rw[aM O.ne];exact ho,?_,O.ne,O'.obj,_,O'.ns,λg=>?_,λg hg=>?_⟩
 ·have:=pA f y fs;omega
 ·show t7 ((jS f y fs).lookup g) (if g=f then some u else mA g);rw[pE];by_cases q:g=f
  ·rw[if_pos q,if_pos q];exact ry
  ·rw[if_neg q,if_neg q];exact r g
 ·by_cases q:g=f
  ·rw[q];exact(n6 f y fs).1
  ·refine(n6 f y fs).2 g (wi g λz=>hg ?_);show(if g=f then some u else mA g)=none;rw[if_neg q];exact z
theorem Inv.made(I:Inv X pins σ H s):Inv X pins σ (upd (upd H s.heap.objs.size (.own (s.heap.objs.size+1))) (s.heap.objs.size+1) (.ins C s.heap.objs.size []))
  {s with heap:=(s.heap.push Uw).push (Ud C s.heap.objs.size)}:=by
 have e1:(s.heap.push Uw).get? s.heap.objs.size=some Uw:=UZ s.heap rfl;have e2:((s.heap.push Uw).push (Ud C s.heap.objs.size)).get? (s.heap.objs.size+1)=some (Ud C s.heap.objs.size):=by
  have:=UZ (s.heap.push Uw) (o:=Ud C s.heap.objs.size) rfl
  rwa [U0]at this
 have e3:(s.heap.push Uw).Ns s.heap.objs.size (λ_=>none):=⟨Uw,#[],_,e1,rfl,(λe he=>absurd he (by simp)),λ_=>rfl⟩
 have I1:=I.laid (a:=s.heap.objs.size) (o:=.own (s.heap.objs.size+1)) (h':=s.heap.push Uw) (t':=s.toks) (λb u q=>UY _ q) (RB _) ⟨_,e1⟩;refine I1.laid (a:=s.heap.objs.size+1) (o:=.ins C s.heap.objs.size []) (t':=s.toks) (λb u q=>UY _ q) (RK (U0 _ _)) ?_;have ne:s.heap.objs.size≠s.heap.objs.size+1:=Rp (RL _);refine⟨by rw[aM ne,aH],RM _,ne,e2,λ_=>none,(Heap.Ns1.of_empty e3).at λo q=>UY _ q,λ_=>True.intro,λy hy=>absurd rfl hy⟩
theorem Gg{prog:Vo}{w:Vn}{env:Env}{e:Vk}{f:Str}{pos:Pos}{s:Vm}{Q:bT}(hb:VS e f env (eval e env)=eval e env)
  (h:Vx (model prog w) A (eval e env) (λo s₁=>Vx (model prog w) A (getAttr o f true) Q E s₁) E s):Vx (model prog w) A (eval (.Attribute e f pos) env) Q E s:=
 Attribute_any_ h (by rw[arm_eval_Attribute,hb])
end
noncomputable def Ov(K:Ug)(ta:TE)(f:Str):TE:=λσ H Q=>ta σ H λx H1=>∃a C dx fs v,x=.ref a/\H1 a=some (.ins C dx fs)/\mG K C/\fD K C f/\fs.lookup f=some v/\Q v H1
noncomputable def M6(K:Ug)(ta tv:TE)(f:Str):TS:=λD σ H=>tv σ H λy H1=>ta σ H1 λx H2=>∃a C dx fs,x=.ref a/\H2 a=some (.ins C dx fs)/\mG K C/\fD K C f/\fs.length<1000/\
 D.nx σ (upd H2 a (.ins C dx (jS f y fs)))
section
variable{X:Cx}{o e value:Vk}{f:Str}{pos pos' tpos:Pos}{ta tv:TE}
theorem J3(he:PE X e ta)(hb:VS e f X.env (eval e X.env)=eval e X.env):PE X (.Attribute e f pos) (Ov X.K ta f):=by
 intro pins s σ H Q I h;refine Gg hb (cE (he pins s σ H _ I h) λu s1 ⟨x,H1,I1,rx,a,C,dx,fs,v,ex,ea,c,n,l,q⟩=>?_);subst ex;obtain rfl:u=Value.ref a:=rx;exact wt I1 ea c n l λu' s2 I2 ru=>⟨v,H1,I2,ru,q⟩
theorem C8(ha:PE X o ta)(hv:PE X value tv)(hs:swapsWith value (some (.Attribute o f pos')) pos.line X.env=pure false):PS X (.Assign [.Attribute o f pos'] value pos) (M6 X.K ta tv f):=by
 intro pins s σ H D I h;refine plainObj_wpAny_Assign_Attribute (cE (hv pins s σ H _ I h) λu s1 ⟨y,H1,I1,ry,q⟩=>cE (ha pins s1 σ H1 _ I1 q) λov s2 h2=>?_) hs;obtain⟨x,H2,I2,rx,a,C,dx,fs,ex,ea,c,n,l,q2⟩:=h2;subst ex;obtain rfl:ov=Value.ref a:=rx;exact wa I2 ea c n l ry λs3 I3=>⟨σ,_,I3,q2⟩
theorem vC{pl:Sem Bool}{m:Str}{apos:Pos}{args:bx}{pins:bh}{s:Vm}{σ:St}{H:Hp}{Q:bT}{te:TE}(he:PE X e te)(I:Inv X pins σ H s)
  (h:te σ H fun x H1=>∃ a C dx fs g,x=.ref a/\H1 a=some (.ins C dx fs)/\mG X.K C/\Meth X.K C m g/\fs.lookup m=none /\
   ∀s1,Inv X pins σ H1 s1->Vx (model X.prog X.w) X.A (VU pos (.ref g) [.ref a] (backTo pos (Vy args X.env)) (backToKw pos (VW [] X.env))) Q X.xe s1)
  (ht:eval (.Call (.Attribute e m apos) args [] pos) X.env=(do
   let ov<-eval e X.env
   standAt apos.atName
   let (f,first)<-holding [ov] (getMethod ov m pl)
   VU pos f first (backTo pos (Vy args X.env)) (backToKw pos (VW [] X.env)))):
  Vx (model X.prog X.w) X.A (eval (.Call (.Attribute e m apos) args [] pos) X.env) Q X.xe s:=by
 refine PySem.W.methodCall_KW (pl:=pl) (cE (he pins s σ H _ I h) λu s1 ⟨x,H1,I1,rx,a,C,dx,fs,g,ex,ea,c,k,l,q⟩=>?_) ht;subst ex;obtain rfl:u=Value.ref a:=rx;exact xf I1 ea c k l (q s1 I1)
end
structure gD(k:Nat)(A:Vu):Prop where
 hd:A.handled=none
 dp:A.depth+3*k+5<recursionLimit
 un:A.units+16*k+200<VX
theorem gD.mono{j k:Nat}{A:Vu}(r:gD k A)(h:j<=k):gD j A:=⟨r.hd,by have:=r.dp;omega,by have:=r.un;omega⟩
theorem gD.deeper{k:Nat}{A:Vu}(r:gD (k+1) A)(env:Env):gD k (A.deeper env):=
 ⟨r.hd,by have:=r.dp;show A.depth+1+3*k+5<_;omega,by have:=r.un;show A.units+3+16*k+200<_;omega⟩
theorem xn{A:Vu}{C:Vj}{us:bc}{kw:List (Str×Vh)}:(A.under (.builtin "type.__call__" ⟨.ref C::us,kw⟩)).depth=A.depth+1:=by
 first|rfl|simp[Around.under,Code.weight,Code.isCreation,Code.isGuard,Code.isCaller,Code.frames,Code.isFrame,guardIds]
theorem xF{A:Vu}{C:Vj}{us:bc}{kw:List (Str×Vh)}:(A.under (.builtin "type.__call__" ⟨.ref C::us,kw⟩)).units=A.units+1:=by
 first|rfl|simp[Around.under,Code.cUnits,Code.frames,Code.isFrame]
theorem gD.make{k:Nat}{A:Vu}(r:gD (k+1) A)(C:Vj)(us:bc)(kw:List (Str×Vh)):gD k (A.under (.builtin "type.__call__" ⟨.ref C::us,kw⟩)):=
 ⟨r.hd,by have:=r.dp;rw[xn];omega,by have:=r.un;rw[xF];omega⟩
theorem gD.depth{k:Nat}{A:Vu}(r:gD k A):A.depth<recursionLimit:=by have:=r.dp;omega
theorem gD.units{k:Nat}{A:Vu}(r:gD k A):A.units+64<VX:=by have:=r.un;omega
noncomputable def O1:TA:=λ_ H Q=>Q [] H
noncomputable def LI(ta:TE)(tr:TA):TA:=λσ H Q=>ta σ H λx H1=>tr σ H1 λxs H2=>Q (x::xs) H2
section
variable{X:Cx}{e:Vk}{es:bx}{te:TE}{t:TA}{pos:Pos}
theorem xm:PA X [] O1:=λ_ _ _ _ H Q I h=>Calls.spliced_nil ⟨[],H,I,.nil,h⟩
theorem nD(ha:PE X e te)(hr:PA X es t)(hs:Vy (e::es) X.env=(false,eval e X.env)::Vy es X.env:=by rfl):PA X (e::es) (LI te t):=by
 intro pos pins s σ H Q I h;rw[hs];show Vx _ _ (spliced ((false,eval e X.env)::backTo pos (Vy es X.env))) _ _ s;refine Calls.spliced_cons (cE (ha pins s σ H _ I h) λu s1 ⟨x,H1,I1,r1,q1⟩=>?_);exact cE (hr pos pins s1 σ H1 _ I1 q1) λus s2 ⟨xs,H2,I2,r2,q2⟩=>⟨x::xs,H2,I2,.cons r1 r2,q2⟩
noncomputable def Ni(t:TA):TE:=λσ H Q=>t σ H λxs H1=>xs.length<=Vr/\∀p,H1 p=none->Q (.ref p) (upd H1 p (.tup xs))
noncomputable def Np(t:TA):TE:=λσ H Q=>t σ H λxs H1=>xs.length<=Vr/\∀p,H1 p=none->Q (.ref p) (upd H1 p (.lst xs))
theorem JH{x1}(h:PA X es t):PE X (.Tuple es x1 pos) (Ni t):=by
 intro pins s σ H Q I hq;refine wpAny_Tuple_spliced (cE (h pos pins s σ H _ I hq) λus s1 ⟨xs,H1,I1,r,z,q⟩=>⟨by rw[<-r.length];exact z,?_⟩);have hf:H1 s1.heap.objs.size=none:=I1.hok.fresh (RB _);refine⟨.ref s1.heap.objs.size,upd H1 s1.heap.objs.size (.tup xs),I1.laid (t':=s1.toks) (λb u e=>UY _ e) (RB _) ?_,rfl,q _ hf⟩;exact⟨z,us,r,⟨_,UZ _ rfl,rfl,_,rfl⟩⟩
theorem AW(h:PA X es t):PE X (.List es pos) (Np t):=by
 intro pins s σ H Q I hq;refine wpAny_List_spliced (cE (h pos pins s σ H _ I hq) λus s1 ⟨xs,H1,I1,r,z,q⟩=>⟨by rw[<-r.length];exact z,?_⟩);have hf:H1 s1.heap.objs.size=none:=I1.hok.fresh (RB _);refine⟨.ref s1.heap.objs.size,upd H1 s1.heap.objs.size (.lst xs),I1.laid (t':=s1.toks) (λb u e=>UY _ e) (RB _) ?_,rfl,q _ hf⟩;exact⟨z,us,0,r,UZ _ rfl⟩
end
noncomputable abbrev Sp:=List V->Hp->VK->XK->Prop
noncomputable abbrev wx:=List Env->Hp->Vm->XK->bT
structure za(P:Vo)(w:Vn)(K:Ug)(mg:cN)(base:Vq)(A:Vu)(outer:List Env)(s:Vm)(H:Hp):Prop where
 frames:A.frames=some outer
 mod:Mod K mg base
 bs:∀b o,base.get? b=some o->s.heap.get? b=some o/\H b=none
 bsz:base.objs.size<=s.heap.objs.size
 funs:s.heap.FunFrames base outer
 frf:∀b∈frs outer,H b=none
 hok:nO P w H s.heap
 bare:AllBare s.gens
noncomputable def CE(outer:List Env)(P:Vo)(w:Vn)(H:Hp)(s:Vm)(Q:VK)(u:Vh)(s':Vm):Prop:=
 ∃v H',s'.os=s.os/\AllBare s'.gens/\Un (frs outer) [] H H' s.heap s'.heap/\nO P w H' s'.heap/\RelV v u/\Q v H'
noncomputable def CR(CX:wx)(outer:List Env)(P:Vo)(w:Vn)(H:Hp)(s:Vm)(Q:VK)(E:XK)(r:Result)(s':Vm):Prop:=
 match r with
 |.ok (.ret u)=>CE outer P w H s Q u s'
 |.ok _=>False
 |.error e=>CX outer H s E e s'
structure ig(P:Vo)(w:Vn)(K:Ug)(mg:cN)(base:Vq)(CX:wx)(k:Nat)(f:Vj)(fd:VY)(ps:av)(sp:Sp):Prop where
 len:∀vs H Q E,sp vs H Q E->vs.length=ps.length
 run:∀(A:Vu)(outer:List Env)(s:Vm)(H:Hp)(args:Args)(us:bc)(vs:aF)(Q:VK)(E:XK),gD k A->za P w K mg base A outer s H->VZ s fd args (ps.zip us)->Vals vs us->sp vs H Q E->
  VR (model P w) A (.call (.ref f) args) (CR CX outer P w H s Q E) s
theorem ig.mono{P:Vo}{w:Vn}{K:Ug}{mg:cN}{base:Vq}{CX:wx}{j k:Nat}{f:Vj}{fd:VY}{ps:av}{sp:Sp}(F:ig P w K mg base CX j f fd ps sp)(h:j<=k):
  ig P w K mg base CX k f fd ps sp:=⟨F.len,λA outer s H args us vs Q E hr=>F.run A outer s H args us vs Q E (hr.mono h)⟩
theorem za.make{P:Vo}{w:Vn}{K:Ug}{mg:cN}{base:Vq}{A:Vu}{outer:List Env}{s:Vm}{H:Hp}(e:za P w K mg base A outer s H)(C:Vj)(us:bc)(kw:List (Str×Vh)):
  za P w K mg base (A.under (.builtin "type.__call__" ⟨.ref C::us,kw⟩)) outer s H:=⟨by first|exact e.frames|(simpa [Around.under,Code.envs,Code.isFrame,pushEnvs]using e.frames),e.mod,e.bs,e.bsz,e.funs,e.frf,e.hok,e.bare⟩
section
variable{X:Cx}{pins:bh}{σ:St}{H:Hp}{s s':Vm}
theorem Inv.env0(I:Inv X pins σ H s):za X.prog X.w X.K X.mg X.base X.A X.stack s H:=
 ⟨I.ok.frames,I.ok.mod,I.bs,Rq I.ok.bsz I.sz,I.stack,I.stkFree,I.hok,I.bare⟩
theorem Inv.after{Q:VK}{u:Vh}(I:Inv X pins σ H s)(h:CE X.stack X.prog X.w H s Q u s'):EP X pins σ Q u s':=by
 obtain⟨v,H',os,bare,un,hok,r,q⟩:=h;obtain⟨hh,g,d,t,os'⟩:=s';obtain rfl:os'=s.os:=os;exact⟨v,H',I.call (h':=hh) (g':=g) (d':=d) (t':=t) (ch:=[]) un hok bare (λb z=>absurd z (by simp)),r,q⟩
end
noncomputable def L6(C:Vj)(sp:Sp)(dvs:aF)(E:XK)(t:TA):TE:=λσ H Q=>t σ H λvs H1=>∀x dx,H1 x=none->H1 dx=none->dx≠x->
 sp (.ref x::(vs++dvs)) (upd (upd H1 dx (.own x)) x (.ins C dx [])) (λv H2=>v=.non/\Q (.ref x) H2) E
noncomputable def Binds(K:Ug)(fd:VY)(ps:av)(ds:bc):Prop:=
 ∀(s:Vm)(us:bc),K.In s.heap->(us++ds).length=ps.length->VZ s fd ⟨us,[]⟩ (ps.zip (us++ds))
theorem Binds.all{K:Ug}{fd:VY}{ps:av}(h:∀us:bc,us.length=ps.length->bindArgs fd ⟨us,[]⟩=pure (ps.zip us)):Binds K fd ps []:=λs us _ hl=>by
 rw[RN]at hl ⊢;exact .of_eq (h us hl)
noncomputable def wX(CX:wx)(X:Cx)(E:XK):Prop:=∀(pins:bh)(σ:St)(H:Hp)(s:Vm)(e:Vh)(s':Vm),Inv X pins σ H s->CX X.stack H s E e s'->X.xe e s'
section
variable{X:Cx}{CX:wx}{k:Nat}{f C:Vj}{fd:VY}{ps:av}{sp:Sp}{dvs:aF}{ds:bc}{E:XK}{x m:Str}{p pos apos:Pos}{e o:Vk}{es:bx}{ta:TE}{t:TA}
structure Mk(K:Ug)(C f:Vj):Prop where
 makes:Ut K C=true
 init:Uk K (.ref C) "__init__"=some (some (.ref f))
 fn:Uo K (.ref f)=true
 kp:UB K (.ref C)=true
theorem Di{pins:bh}{σ:St}{H:Hp}{s:Vm}{Q:VK}{us:bc}{vs:aF}(M:Mk X.K C f)(F:ig X.prog X.w X.K X.mg X.base CX k f fd ps sp)(hr:gD (k+1) X.A)(hb:Binds X.K fd ps ds)(hd:Vals dvs ds)
  (hx:wX CX X E) (I:Inv X pins σ H s) (r:Vals vs us)
  (h:∀x dx,H x=none->H dx=none->dx≠x->sp (.ref x::(vs++dvs)) (upd (upd H dx (.own x)) x (.ins C dx [])) (λv H2=>v=.non/\Q (.ref x) H2) E):
  Vx (model X.prog X.w) X.A (call (.ref C) us) (EP X pins σ Q) X.xe s:=by
 have hq:=h (s.heap.objs.size+1) s.heap.objs.size (I.hok.fresh (RO _)) (I.hok.fresh (RB _)) (Rp (RL _));have I2:=Inv.made (C:=C) I;have r2:Vals (V.ref (s.heap.objs.size+1)::(vs++dvs)) (Value.ref (s.heap.objs.size+1)::(us++ds)):=.cons rfl (r.append hd);have hl:(Value.ref (s.heap.objs.size+1)::us++ds).length=ps.length:=by
  have e:=r2.length;rw[F.len _ _ _ _ hq]at e;exact e.symm
 refine V0 (DI (f:=f) I.kIn M.makes M.init (beq_iff_eq.mp M.fn) (V1 (F.run _ X.stack _ _ ⟨Value.ref (s.heap.objs.size+1)::us,[]⟩ (Value.ref (s.heap.objs.size+1)::(us++ds)) _ _ E (hr.make C us [])
  (I2.env0.make C us []) (hb _ (Value.ref (s.heap.objs.size+1)::us) I2.kIn hl) r2 hq) λr s' hq'=>?_))
 cases r with
 |error e=>exact hx pins σ _ _ e s' I2 hq'
 |ok fl=>
  cases fl with
  |ret u=>
   obtain⟨v,H',I3,rv,ev,q3⟩:=I2.after hq';subst ev;exact⟨rv,⟨V.ref (s.heap.objs.size+1),H',I3,rfl,q3⟩⟩
  |next=>exact False.elim hq'
  |brk=>exact False.elim hq'
  |cont=>exact False.elim hq'
theorem Gy(M:Mk X.K C f)(F:ig X.prog X.w X.K X.mg X.base CX k f fd ps sp)(hr:gD (k+1) X.A)(hg:Gl X x)(hm:X.mg x=some (.ref C))(hb:Binds X.K fd ps ds)(hd:Vals dvs ds)(hx:wX CX X E)
  (ha:PA X (e::es) t) (hdb:(x==("__debug__":Str))=false:=by decide) (he:Vy (e::es) X.env=(false,eval e X.env)::Vy es X.env:=by rfl) (hpl:(backTo pos (Vy es X.env)).any (·.1)=false:=by rfl):
  PE X (.Call (.Name x p) (e::es) [] pos) (L6 C sp dvs E t):=by
 intro pins s σ H Q I h;refine V2 (pW I hg hm ?_ hdb);refine UC (h₀:=X.base) I.ok.mod.kin M.kp (cE (ha pos pins s σ H _ I h) λus s1 ⟨vs,H1,I1,r,q⟩=>⟨I1.kIn,?_⟩) he hpl;exact Di M F hr hb hd hx I1 r q
end
structure cR(N P:av)(sc:Vv):Prop where
 kind:sc.kind=.function
 co:sc.isCoroutine=false
 gen:sc.isGenerator=false
 nd:N.Nodup
 pre:N.take P.length=P
 par:∀x∈P,sc.names.lookup x=some .local\/sc.names.lookup x=some .cell
 nofree:∀y∈sc.names,y.2≠.free
theorem sY{kindOf:Str->Option Vi}{x:Str}:∀{binds:List (Str×Vh)}{m:cN},(∀v,(x,v)∉binds)->bindL kindOf binds m x=m x
 |[],_,_=>rfl
 |(n,v)::r,m,h=>by
  unfold bindL;rw[sY λw hw=>h w (Rv _ hw)];split
  ·have:x≠n:=(by rintro rfl;exact h v Ru);simp[this]
  ·rfl
theorem tO{kindOf:Str->Option Vi}{x:Str}:∀{binds:List (Str×Vh)}{m:cN},(∀v,(x,v)∉binds)->bindC kindOf binds m x=m x
 |[],_,_=>rfl
 |(n,v)::r,m,h=>by
  unfold bindC;rw[tO λw hw=>h w (Rv _ hw)];split
  ·rfl
  ·have:x≠n:=(by rintro rfl;exact h v Ru);simp[this]
theorem sR{kindOf:Str->Option Vi}{x:Str}{v:Vh}:∀{P:av}{vs:bc}{i:Nat}{m:cN},P.Nodup->P[i]?=some x->vs[i]?=some v->kindOf x=some .local->
  bindL kindOf (P.zip vs) m x=some v
 |[],_,_,_,_,h,_,_=>by simp at h
 |_::_,[],_,_,_,_,h,_=>by simp at h
 |p::P,w::vs,0,m,nd,h1,h2,hk=>by
  simp at h1 h2;subst h1;subst h2;show bindL kindOf ((p,w)::P.zip vs) m p=_;unfold bindL;rw[sY λv hv=>(List.nodup_cons.mp nd).1 (RP hv).1,if_pos hk];simp
 |p::P,w::vs,i+1,m,nd,h1,h2,hk=>by
  show bindL kindOf ((p,w)::P.zip vs) m x=_;unfold bindL;exact sR (i:=i) (List.nodup_cons.mp nd).2 (by simpa using h1) (by simpa using h2) hk
theorem se{kindOf:Str->Option Vi}{x:Str}{v:Vh}:∀{P:av}{vs:bc}{i:Nat}{m:cN},P.Nodup->P[i]?=some x->vs[i]?=some v->kindOf x≠some .local->
  bindC kindOf (P.zip vs) m x=some v
 |[],_,_,_,_,h,_,_=>by simp at h
 |_::_,[],_,_,_,_,h,_=>by simp at h
 |p::P,w::vs,0,m,nd,h1,h2,hk=>by
  simp at h1 h2;subst h1;subst h2;show bindC kindOf ((p,w)::P.zip vs) m p=_;unfold bindC;rw[tO λv hv=>(List.nodup_cons.mp nd).1 (RP hv).1,if_neg hk];simp
 |p::P,w::vs,i+1,m,nd,h1,h2,hk=>by
  show bindC kindOf ((p,w)::P.zip vs) m x=_;unfold bindC;exact se (i:=i) (List.nodup_cons.mp nd).2 (by simpa using h1) (by simpa using h2) hk
noncomputable def start(N:av)(vs:aF):St:=vs.map some++List.replicate (N.length-vs.length) none
noncomputable def jZ(CX:wx)(P:Vo)(w:Vn)(K:Ug)(mg:cN)(base:Vq)(N:av)(qual:Str)(scope:Vv)(f:Vj)(cd:Vh)(A:Vu)(outer:List Env)(s:Vm)(H:Hp)(E:XK):Cx where
 prog:=P
 w:=w
 K:=K
 mg:=mg
 base:=base
 A:=A.deeper (envOfC qual scope s.heap.objs.size f cd)
 N:=N
 s₀:=s
 H₀:=H
 env:=envOfC qual scope s.heap.objs.size f cd
 outer:=outer
 stack:=envOfC qual scope s.heap.objs.size f cd::outer
 ex:=[]
 calm:=true
 fn:=λ_=>true
 pn:=[]
 xe:=λe s'=>Vx (model P w) (A.deeper (envOfC qual scope s.heap.objs.size f cd)) (leaving (envOfC qual scope s.heap.objs.size f cd) e) (λ_ s''=>CX outer H s E e s'') (λe' s''=>CX outer H s E e' s'') s'
theorem vQ{sc:Vv}{n:Nat}{x:Str}(h:sc.names.lookup x=some .cell):∃c,(cellsFrom n sc.names []).lookup x=some c:=by
 have q:=UD sc.names n [] (.inl h);exact Option.isSome_iff_exists.mp q
theorem y9{CX:wx}{P:Vo}{w:Vn}{K:Ug}{mg:cN}{base:Vq}{N ps:av}{qual:Str}{scope:Vv}{f:Vj}{cd:Vh}{A:Vu}{outer:List Env}{s s1:Vm}{H:Hp}{E:XK}{us:bc}{vs:aF}
  (S:cR N ps scope) (hd:A.handled=none) (e0:za P w K mg base A outer s H) (hl:vs.length=ps.length) (r:Vals vs us)
  (x:InCallC s s.heap.objs.size (bindL (envOfC qual scope s.heap.objs.size f cd).kindOf (ps.zip us) λ_=>none) (cellsFrom (s.heap.objs.size+1) scope.names []) (bindC (envOfC qual scope s.heap.objs.size f cd).kindOf (ps.zip us) λ_=>none) s1):
  Inv (jZ CX P w K mg base N qual scope f cd A outer s H E) [] (start N vs) H s1:=by
 have hpl:ps.length<=N.length:=by have:=congrArg List.length S.pre;rw[RQ]at this;omega
 obtain⟨h1,tk,rfl,hk⟩:=x.done;have noA:∀b:Vj,b∉(jZ CX P w K mg base N qual scope f cd A outer s H E).ex:=λb z=>absurd (show b∈([]:aA)from z) (by simp);refine⟨⟨e0.mod,S.kind,rfl,rfl,RB _,λy z c h1 h2=>?_,λy hy=>?_,λy c _ h=>?_,λ_=>hd,Around.frames_deeper e0.frames,.inr ⟨rfl,rfl⟩,λb z=>absurd z (noA b),e0.bs,e0.bsz,λb _ _=>noA b,λb z=>absurd z (noA b),e0.funs,e0.frf⟩,
  rfl,e0.bare,Un.kept hk,⟨_,x.toInCall.ns,λi y v h1 h2 h3=>?_⟩,λy c h=>⟨_,x.cell y c h⟩,e0.hok.fresh (RB _),λy c h=>?_,λp hp=>absurd (show p∈([]:bh)from hp) (by simp),e0.hok.kept hk,?_⟩
 ·exact name_of_addr x.apart (PySem.mem_of_lookup h1) (PySem.mem_of_lookup h2)
 ·have hy:scope.names.lookup y=some .cell\/scope.names.lookup y=some .free:=hy;rcases hy with hy|hy
  ·exact vQ hy
  ·exact absurd rfl (S.nofree _ (PySem.mem_of_lookup hy))
 ·exact Rr (x.above y c (PySem.mem_of_lookup h))
 ·have hi:i<vs.length:=by
   unfold start at h2;by_cases hi:i<vs.length
   ·exact hi
   ·rw[RU (by simpa using hi)]at h2;rw[RV]at h2;split at h2<;>cases h2
  have ha:vs[i]?=some v:=by
   unfold start at h2;rw[RW (by simpa using hi),RX]at h2;cases e:vs[i]? with
   |none=>rw[e]at h2;cases h2
   |some a=>rw[e]at h2;cases h2;rfl
  obtain⟨u,hu,rv⟩:=r.get ha;have hp:ps[i]?=some y:=by
   rw[<-S.pre,List.getElem?_take_of_lt ‹0›];exact h1
  have ndP:ps.Nodup:=by rw[<-S.pre];exact S.nd.sublist (List.take_sublist _ _)
  refine⟨u,rv,?_⟩;rcases S.par y (RY hp)with k|k
  ·exact .inl ⟨k,sR ndP hp hu k⟩
  ·obtain⟨c,e⟩:=vQ (n:=s.heap.objs.size+1) k;refine .inr ⟨.inl k,c,e,?_⟩;have q:=x.cell y c e;rw[se ndP hp hu (by show scope.names.lookup y≠_;rw[k];decide)]at q;exact q
 ·exact e0.hok.fresh (Rr (x.above y c (PySem.mem_of_lookup h)))
 ·unfold start;show _=N.length;rw[RZ,RJ,List.length_replicate];omega
theorem Hx{CX:wx}{P:Vo}{w:Vn}{K:Ug}{mg:cN}{base:Vq}{k:Nat}{f:Vj}{name qual:Str}{params:Arguments}{body:dZ}{scope:Vv}{dV kV doc pm cdv ct oc:Vh}{an od:Option Vj}
  {osl:Array (Option Vh)} {N ps:av} {sp:Sp} (lk:K.lookup f=some ⟨oc,od,.func (UE name qual params body scope dV kV doc pm an cdv ct),osl⟩) (hcd:UG K cdv qual=true) (S:cR N ps scope)
  (len:∀vs H Q E,sp vs H Q E->vs.length=ps.length)
  (hbody:∀ (A:Vu) (outer:List Env) (s:Vm) (H:Hp) (vs:aF) (Q:VK) (E:XK),gD k (A.deeper (envOfC qual scope s.heap.objs.size f cdv))->sp vs H Q E ->
   ∃t,vW (jZ CX P w K mg base N qual scope f cdv A outer s H E) body t/\t {nx:=λ_ H'=>Q .non H',rt:=Q} (start N vs) H):
  ig P w K mg base CX (k+1) f (UE name qual params body scope dV kV doc pm an cdv ct) ps sp:=by
 refine⟨len,λA outer s H args us vs Q E hr e0 hb r hsp=>?_⟩;have hl:=len _ _ _ _ hsp;have KX:K.In s.heap:=e0.mod.kin.keeps λb o e=>(e0.bs b o e).1;have lim:s.heap.NoLimit:=e0.mod.nolimit.keeps λb o e=>(e0.bs b o e).1;have hkind:∀y∈ps.zip us,scope.names.lookup y.1=some .local\/(scope.names.lookup y.1=some .cell/\((cellsFrom (s.heap.objs.size+1) scope.names []).lookup y.1).isSome=true):=λ⟨n,v⟩ hy=>by
  rcases S.par n (RP hy).1 with q|q
  ·exact .inl q
  ·exact .inr ⟨q,UD _ _ _ (.inl q)⟩
 refine codeAny_call_function hr.depth (KX _ _ lk) rfl S.co S.gen rfl (PySem.W.codeRec_of KX hcd) (hb _ _ _ _ ?_);refine wpAny_newFunctionEnv_cells S.kind hkind λenv he s1 x=>?_;subst he;refine⟨lim.keeps x.toInCall.keep,codeAny_func ?_⟩;obtain⟨t,ht,hq⟩:=hbody A outer s H vs Q E (hr.deeper _) hsp;have I:Inv (jZ CX P w K mg base N qual scope f cdv A outer s H E) [] (start N vs) H s1:=y9 S hr.hd e0 hl r x;refine Vz (ht [] s1 (start N vs) H _ I hq) (λfl s' hs=>?_) λe s' hs=>hs;have fin:∀{σ':St}{H':Hp}{v:V}{u:Vh},Inv (jZ CX P w K mg base N qual scope f cdv A outer s H E) [] σ' H' s'->RelV v u->Q v H'->CE outer P w H s Q u s':=
  λ{σ' H' v u} J rv q=>⟨v,H',J.os,J.bare,J.base,J.hok,rv,q⟩
 cases fl with
 |ret u=>
  obtain⟨v,σ',H',J,rv,q⟩:=hs;exact fin J rv q
 |next=>
  obtain⟨σ',H',J,q⟩:=hs;exact fin (v:=V.non) (u:=Value.none) J rfl q
 |brk=>
  obtain⟨_,_,_,q⟩:=hs;exact False.elim q
 |cont=>
  obtain⟨_,_,_,q⟩:=hs;exact False.elim q
section
variable{X:Cx}{x:Str}{p pos:Pos}{e:Vk}{es:bx}{t:TA}{id T:String}{r:aF->Hp->VK->Prop}
noncomputable def NB(r:aF->Hp->VK->Prop)(t:TA):TE:=λσ H Q=>t σ H λvs H1=>r vs H1 Q
theorem qF(hc:dg X (.builtin id) r)(hg:Gl X x)(hm:X.mg x=none)(hv:Vt x=some (.builtin id))(ha:PA X (e::es) t)(hn:x≠"__name__":=by decide)(hdb:(x==("__debug__":Str))=false:=by decide)
  (he:Vy (e::es) X.env=(false,eval e X.env)::Vy es X.env:=by rfl) (hpl:(backTo pos (Vy es X.env)).any (·.1)=false:=by rfl):PE X (.Call (.Name x p) (e::es) [] pos) (NB r t):=by
 intro pins s σ H Q I h;refine V2 (kC I hg hm hv ?_ hn hdb);exact PyProof.Rows.callWith_builtin1 (cE (ha pos pins s σ H _ I h) λus s1 ⟨vs,H1,I1,r1,q1⟩=>hc pins s1 σ H1 vs us Q I1 r1 q1) he hpl
theorem tu(hc:dg X (.type T) r)(hg:Gl X x)(hm:X.mg x=none)(hv:Vt x=some (.type T))(ha:PA X (e::es) t)(hn:x≠"__name__":=by decide)(hdb:(x==("__debug__":Str))=false:=by decide)
  (he:Vy (e::es) X.env=(false,eval e X.env)::Vy es X.env:=by rfl) (hpl:(backTo pos (Vy es X.env)).any (·.1)=false:=by rfl):PE X (.Call (.Name x p) (e::es) [] pos) (NB r t):=by
 intro pins s σ H Q I h;refine V2 (kC I hg hm hv ?_ hn hdb);exact U5 (cE (ha pos pins s σ H _ I h) λus s1 ⟨vs,H1,I1,r1,q1⟩=>hc pins s1 σ H1 vs us Q I1 r1 q1) he hpl
end
end L2
namespace HT
open PySem PyProof.Rows
theorem Lx(A:Vu)(s:Vm)(a:Int)(t:Tok)(c:Int)(u:Tok)(prog:Vo)(w:Vn)(E:Vh->Vm->Prop)(Q:Vh->Vm->Prop)(h:Q (.bool (decide (a<c))) s):
  Vx (model prog w) A (richCompare .Lt (.int a t) (.int c u)) Q E s:=
 (PyProof.Rows.lt_int h:Vx (model prog w) A (VB .Lt (.int a t) (.int c u)) Q E s)
section
open PySem.SeqAt
open PySem.AutoSeq1 (wpAny_loadPart')
open PySem.MeetsSeq PySem.MeetsSeq2 PySem.MeetsSeq3
end
section
variable{prog:Vo}{w:Vn}{A:Vu}{E:Vh->Vm->Prop}{s:Vm}
theorem Mm{t b:Vj}{vs ws:List Vh}{Q:Vh->Vm->Prop}(ht:IsTup s.heap t vs.toArray)(hb:IsTup s.heap b ws.toArray)(hv:vs≠[])
  (h1:ws=[]->Q (.ref t) s) (h2:ws≠[]->Q (.ref s.heap.objs.size) {s with heap:=s.heap.push {cls:=.type "tuple",data:=.seq (vs++ws).toArray}})
  (hsz:vs.length+ws.length<=Vr):Vx (model prog w) A (VP .Add (.ref t) (.ref b)) Q E s:=by
 obtain⟨⟨cls,dd,data,sl⟩,ho,hc,n,hd⟩:=id ht;obtain⟨⟨cls2,dd2,data2,sl2⟩,ho2,hc2,n2,hd2⟩:=id hb;simp only at hc hd hc2 hd2;subst hc hd hc2 hd2;have e:vs.toArray++ws.toArray=(vs++ws).toArray:=by simp
 by_cases hw:ws=[]
 ·exact V3 ⟨_,ho,rfl⟩ ⟨_,ho2,rfl⟩ V4 V5 Ve Vf (Vg _ _)
   (tuple_addW1 t b vs.toArray ws.toArray n n2 dd dd2 sl sl2 (by simpa using hv) (by simp[hw])) ⟨ho,ho2,h1 hw⟩
 ·refine V3 ⟨_,ho,rfl⟩ ⟨_,ho2,rfl⟩ V4 V5 Ve Vf (Vg _ _)
   (tuple_addW2 t b vs.toArray ws.toArray n n2 dd dd2 sl sl2 (by simpa using hv) (by simpa using hw) (by rw[RE,RE];exact hsz)) ⟨ho,ho2,?_⟩
  rw[e];exact h2 hw
noncomputable def sIx(n d:Nat):Option Int->Nat
 |none=>d
 |some v=>if v<0 then(v+(n:Int)).toNat else min v.toNat n
theorem Lj(n d:Nat):sIx n d none=d:=rfl
theorem My(n d k:Nat):sIx n d (some (k:Int))=min k n:=by
 show(if(k:Int)<0 then((k:Int)+(n:Int)).toNat else min (k:Int).toNat n)=min k n;rw[if_neg ‹0›,R0]
theorem JO(n d:Nat)(hd:d<=n)(o:Option Int):sIx n d o<=n:=by
 cases o with
 |none=>exact hd
 |some v=>
  show(if v<0 then(v+(n:Int)).toNat else min v.toNat n)<=n;by_cases hv:v<0
  ·rw[if_pos hv];omega
  ·rw[if_neg hv];exact Nat.min_le_right _ _
theorem yG(v:Int)(n d:Nat):(if v<0 then max (v+(n:Int)) 0 else min v (n:Int))=((sIx n d (some v):Nat):Int):=by
 show(if v<0 then max (v+(n:Int)) 0 else min v (n:Int))=(((if v<0 then(v+(n:Int)).toNat else min v.toNat n):Nat):Int)
 by_cases hv:v<0
 ·simp only[if_pos hv];omega
 ·simp only[if_neg hv];omega
theorem wZ(lo hi:Option Int)(n:Nat):Builtin.Slice.sliceAdjust lo hi 1 (n:Int)=(((sIx n 0 lo:Nat):Int),((sIx n n hi:Nat):Int)):=by
 have h1:¬((1:Int)<0):=by omega
 unfold Builtin.Slice.sliceAdjust;simp only[h1,if_false];refine Prod.ext ?_ ?_
 ·cases lo with
  |none=>rfl
  |some v=>exact yG v n 0
 ·cases hi with
  |none=>rfl
  |some v=>exact yG v n n
theorem wW(i j:Nat):Builtin.Slice.slicePlaces (i:Int) (j:Int) 1=j-i:=by
 unfold Builtin.Slice.slicePlaces;have h1:(1:Int)>0:=by omega
 simp only[h1,if_true,Int.ediv_one];split<;>omega
theorem qy{v:Vh}{o:Option Int}{Q:Option Int->Vm->Prop}(p:V6 v o)(h:Q o s):Vx (model prog w) A (Builtin.Slice.slicePartIndex v) Q E s:=by
 cases p with
 |none=>exact slicePart_none h
 |int i t=>exact slicePart_int h
theorem n8{sl:Vj}{vl vu:Vh}{lo hi:Option Int}{n:Nat}{Q:Int×Int×Nat->Vm->Prop}(hs:s.heap.IsSliceOf sl vl vu .none)(pl:V6 vl lo)(pu:V6 vu hi)
  (h:Q (((sIx n 0 lo:Nat):Int),1,sIx n n hi-sIx n 0 lo) s):Vx (model prog w) A (Builtin.Slice.sliceApplied (.ref sl) (pure (n:Int))) Q E s:=by
 obtain⟨os,hos,hcs,hds⟩:=id hs;unfold Builtin.Slice.sliceApplied Builtin.Slice.sliceFields;refine VF (VF (V7 hos hds (x:=vl) rfl (VF (V7 hos hds (x:=vu) rfl (VF (V7 hos hds (x:=.none) rfl (VI ?_)))))));refine VF (slicePart_none ?_);show Vx _ _ (if((1:Int)==0)=true then _ else _) _ _ s;rw[if_neg (by decide)];refine VF (qy pl (VF (qy pu (VF (VI ?_)))));show Vx _ _ (match Builtin.Slice.sliceAdjust lo hi 1 (n:Int)with|(lo,hi)=>pure (lo,(1:Int),Builtin.Slice.slicePlaces lo hi 1)) _ _ s;rw[wZ lo hi n];show Vx _ _ (pure (((sIx n 0 lo:Nat):Int),(1:Int),Builtin.Slice.slicePlaces ((sIx n 0 lo:Nat):Int) ((sIx n n hi:Nat):Int) 1)) _ _ s;rw[wW];exact VI h
theorem Bw(xs:Array Vh)(i k:Nat):((List.range k).filterMap λ(m:Nat)=>xs[((i:Int)+(m:Int)*1).toNat]?).toArray=((xs.toList.drop i).take k).toArray:=by
 have e:(λ(m:Nat)=>xs[((i:Int)+(m:Int)*1).toNat]?)=λm=>xs[i+m]?:=by
  funext m
  have:((i:Int)+(m:Int)*1).toNat=i+m:=by omega
  rw[this]
 rw[e]
 have:=pick_run xs i k
 rw[List.filterMap_map]at this;have e2:((λx=>xs[x]?)∘λx=>i+x)=λm=>xs[i+m]?:=rfl;rw[e2]at this;rw[this]
theorem yA{t sl:Vj}{items:Array Vh}{vl vu:Vh}{lo hi:Option Int}{Q:Vh->Vm->Prop}(ht:IsTup s.heap t items)(hs:s.heap.IsSliceOf sl vl vu .none)(pl:V6 vl lo)(pu:V6 vu hi)
  (hw:¬(sIx items.size 0 lo=0/\sIx items.size items.size hi=items.size))
  (h:Q (.ref s.heap.objs.size) {s with heap:=s.heap.push {cls:=.type "tuple",data:=.seq ((items.toList.drop (sIx items.size 0 lo)).take (sIx items.size items.size hi-sIx items.size 0 lo)).toArray}})
  (hsz:items.size<=Vr):Vx (model prog w) A (getItem (.ref t) (.ref sl)) Q E s:=by
 have htake:sizeOk (.seq ((items.toList.drop (sIx items.size 0 lo)).take (sIx items.size items.size hi-sIx items.size 0 lo)).toArray):=by
  show((items.toList.drop (sIx items.size 0 lo)).take (sIx items.size items.size hi-sIx items.size 0 lo)).toArray.size<=Vr;rw[RE,RQ,R1,Array.length_toList];omega
 have hj:sIx items.size items.size hi<=items.size:=JO _ _ (RB _) hi;obtain⟨os,hos,hcs,hds⟩:=id hs;have hTs:s.TypeIs (.ref sl) "slice":=⟨os,hos,hcs⟩
 unfold getItem
 try with_reducible refine VG ?_
 first|refine VF (VI ?_)|skip
 refine VF (wpAny_sequenceKey ht.typeIs (by decide) ?_);refine VF (V8 (name:=Str.ofString "__getitem__") ht.typeIs U6
  (V9 U6 ht.typeIs entry_tuple_getitem ?_ (args_tuple_getitem _ _)))
 show Vx _ _ (Builtin.Tuple.tupleItemsOf (.ref t) >>= _) _ _ s;refine VF (tupleItemsOf_ ht ?_);refine VF (wpAny_typeOf hTs ?_);rw[if_pos (by decide)];refine VF (n8 hs pl pu ?_);have hno:¬((((sIx items.size 0 lo:Nat):Int)==0&&(1:Int)==1&&(sIx items.size items.size hi-sIx items.size 0 lo)==items.size)=true):=by
  intro q;rw[R3,R3]at q;have q1:((sIx items.size 0 lo:Nat):Int)=0:=eq_of_beq q.1.1;have q2:sIx items.size items.size hi-sIx items.size 0 lo=items.size:=eq_of_beq q.2;exact hw ⟨by omega,by omega⟩
 show Vx _ _ (if(((sIx items.size 0 lo:Nat):Int)==0&&(1:Int)==1&&(sIx items.size items.size hi-sIx items.size 0 lo)==items.size)=true then _ else _) _ _ s;rw[if_neg hno,Bw]
 first
  |exact VF (m:=Builtin.Tuple.tupleExact _) (Wa (VI ⟨_,rfl,VI h⟩) htake)
  |exact VF (m:=Builtin.Tuple.tupleExact _) (Wa (VF (VI (VI ⟨_,rfl,VI h⟩))) htake)
  |exact VF (VF (m:=Builtin.Tuple.tupleExact _) (Wa (VI (VI ⟨_,rfl,VI h⟩)) htake))
  |exact VF (VF (m:=Builtin.Tuple.tupleExact _) (Wa (VI ⟨_,rfl,VI h⟩) htake))
end
end HT
namespace L2
open PySem PySem.Spec PyProof.Rows
noncomputable abbrev TO:=St->Hp->(dA->Hp->Prop)->Prop
noncomputable def PO(X:Cx)(e:Option Vk)(t:TO):Prop:=
 ∀(pins:bh)(s:Vm)(σ:St)(H:Hp)(Q:dA->Hp->Prop),Inv X pins σ H s->t σ H Q->
  Vx (model X.prog X.w) X.A (evalPart e X.env) (λu s'=>∃o H',Inv X pins σ H' s'/\V6 u o/\Q o H') X.xe s
noncomputable def E6:TO:=λ_ H Q=>Q none H
noncomputable def KP(t:TE):TO:=λσ H Q=>t σ H λx H1=>∃i,x=.int i/\Q (some i) H1
section
variable{X:Cx}{e:Vk}{te:TE}{lo hi:Option Vk}{tl th:TO}{pos p2:Pos}
theorem Fg:PO X none E6:=by
 intro pins s σ H Q I h;rw[evalPart_none];exact VI ⟨none,H,I,.none,h⟩
theorem Fv(h:PE X e te):PO X (some e) (KP te):=by
 intro pins s σ H Q I hw;rw[evalPart_some];refine cE (h pins s σ H _ I hw) λu s1 ⟨x,H1,I1,r1,q1⟩=>?_;obtain⟨i,rfl,q⟩:=q1;obtain⟨t,rfl⟩:=r1;exact⟨some i,H1,I1,.int i t,q⟩
noncomputable def MH(X:Cx)(r:V->dA->dA->Hp->VK->Prop):Prop:=
 ∀(pins:bh)(s:Vm)(σ:St)(H:Hp)(x:V)(v vl vu:Vh)(lo hi:dA)(sl:Vj)(Q:VK),Inv X pins σ H s->RelV x v->s.heap.IsSliceOf sl vl vu .none->V6 vl lo->V6 vu hi->r x lo hi H Q->
  ∃T id,typeLookup (.type T) "__getitem__"=pure (some (.builtin id))/\s.TypeIs v T/\Vx (model X.prog X.w) X.A (getItem v (.ref sl)) (EP X pins σ Q) X.xe s
noncomputable def Qp(r:V->dA->dA->Hp->VK->Prop)(te:TE)(tl th:TO):TE:=λσ H Q=>te σ H λx H1=>tl σ H1 λl H2=>th σ H2 λu H3=>r x l u H3 Q
theorem Bx{r:V->dA->dA->Hp->VK->Prop}(hr:MH X r)(he:PE X e te)(hl:PO X lo tl)(hu:PO X hi th):PE X (.Subscript e (.Slice lo hi none p2) pos) (Qp r te tl th):=by
 intro pins s σ H Q I h;refine Subscript_ (cE (he pins s σ H _ I h) λv s1 ⟨x,H1,I1,r1,q1⟩=>?_);refine wpAny_Slice (cE (hl pins s1 σ H1 _ I1 q1) λvl s2 ⟨l,H2,I2,pl,q2⟩=>cE (hu pins s2 σ H2 _ I2 q2) λvu s3 ⟨u,H3,I3,pu,q3⟩=>?_);rw[evalPart_none];refine VI ?_;have I4:Inv X pins σ H3 {s3 with heap:=s3.heap.push {cls:=.type "slice",data:=.fields #[vl,vu,.none]}}:=I3.kept (t':=s3.toks) λb ob q=>UY _ q;obtain⟨T,id,hT,ht,hg⟩:=hr pins {s3 with heap:=s3.heap.push {cls:=.type "slice",data:=.fields #[vl,vu,.none]}} σ H3 x v vl vu l u s3.heap.objs.size Q I4 r1 (Heap.IsSliceOf.new ..) pl pu q3;show Vx (model X.prog X.w) X.A (subscriptTail e (.Slice lo hi none p2) v (.ref s3.heap.objs.size)) (EP X pins σ Q) X.xe {s3 with heap:=s3.heap.push {cls:=.type "slice",data:=.fields #[vl,vu,.none]}};exact tail_any (ops:=[.ref s3.heap.objs.size,v]) ht hT hg (by with_unfolding_all rfl)
noncomputable def uS(xs:aF)(lo hi:dA):aF:=(xs.drop (HT.sIx xs.length 0 lo)).take (HT.sIx xs.length xs.length hi-HT.sIx xs.length 0 lo)
theorem pq(xs:aF)(lo hi:dA):(uS xs lo hi).length<=xs.length:=by
 unfold uS;rw[RQ,R1];omega
noncomputable def NI(K:Ug):V->dA->dA->Hp->VK->Prop:=λx lo hi H Q=>∃a xs,x=.ref a/\oJ K H a xs/\
 ¬(HT.sIx xs.length 0 lo=0/\HT.sIx xs.length xs.length hi=xs.length)/\∀p,H p=none->Q (.ref p) (upd H p (.tup (uS xs lo hi)))
theorem J7:MH X (NI X.K):=by
 intro pins s σ H x v vl vu lo hi sl Q I rx hs pl pu h;obtain⟨a,xs,rfl,hx,hw,q⟩:=h;cases rx;obtain⟨its,r,ht,hz⟩:=I.tuple hx;have hlen:its.toArray.size=xs.length:=by rw[RE];exact r.length.symm
 refine⟨"tuple",_,PyProof.Rows.slot_tuple_getitem.lookup,ht.typeIs,?_⟩;refine HT.yA ht hs pl pu (by rw[hlen];exact hw) ?_ (by rw[hlen];exact hz);rw[hlen];refine⟨.ref s.heap.objs.size,_,I.laid (t':=s.toks) (o:=.tup (uS xs lo hi)) (λb ob q=>UY _ q) (RB _) ?_,rfl,q _ (I.hok.fresh (RB _))⟩;exact⟨Rq (pq xs lo hi) hz,_,(r.drop (HT.sIx xs.length 0 lo)).take (HT.sIx xs.length xs.length hi-HT.sIx xs.length 0 lo),IsTup.new _ _⟩
noncomputable def LK(K:Ug):R2:=λx y H Q=>∃a b xs ys,x=.ref a/\y=.ref b/\oJ K H a xs/\oJ K H b ys/\xs≠[]/\xs.length+ys.length<=Vr/\
 (ys=[]->Q (.ref a) H)/\(ys≠[]->∀p,H p=none->Q (.ref p) (upd H p (.tup (xs++ys))))
theorem Vals.nil_iff{xs:aF}{us:bc}(r:Vals xs us):us=[]↔xs=[]:=by
 cases r with
 |nil=>simp
 |cons _ _=>simp
theorem EH:iK X (VP .Add) (LK X.K):=by
 intro pins s σ H x y v u Q I rx ry h;obtain⟨a,b,xs,ys,rfl,rfl,ha,hb,hx,hz,q1,q2⟩:=h;cases rx;cases ry;obtain⟨its,r1,p1,_⟩:=I.tuple ha;obtain⟨its2,r2,p2,_⟩:=I.tuple hb;refine HT.Mm p1 p2 (λz=>hx (r1.nil_iff.mp z)) (λz=>⟨.ref a,H,I,rfl,q1 (r2.nil_iff.mp z)⟩) (λz=>?_) (by rw[<-r1.length,<-r2.length];exact hz);refine⟨.ref s.heap.objs.size,_,I.laid (t':=s.toks) (o:=.tup (xs++ys)) (λb ob q=>UY _ q) (RB _) ?_,rfl,q2 (λw=>z (r2.nil_iff.mpr w)) _ (I.hok.fresh (RB _))⟩;exact⟨by rw[RZ];exact hz,_,r1.append r2,IsTup.new _ _⟩
end
noncomputable def uP(n:Nat)(i:Int):Option Nat:=if 0<=i then(if i<n then some i.toNat else none)else if -(n:Int)<=i then some (i+n).toNat else none
noncomputable def mI{α:Type}(xs:List α)(i:Int):Option α:=(uP xs.length i).bind λj=>xs[j]?
theorem xO{n:Nat}{i:Int}{j:Nat}(h:uP n i=some j):seqIndex? i n=some j/\j<n/\-(n:Int)<=i/\i<n:=by
 unfold uP at h;by_cases h0:0<=i
 ·rw[if_pos h0]at h;by_cases h1:i<n
  ·rw[if_pos h1]at h;have e:i.toNat=j:=Option.some.inj h;exact⟨by rw[seqIndex_of h0 h1,e],by omega,by omega,h1⟩
  ·rw[if_neg h1]at h;cases h
 ·rw[if_neg h0]at h;by_cases h1:-(n:Int)<=i
  ·rw[if_pos h1]at h;have e:(i+n).toNat=j:=Option.some.inj h;exact⟨by rw[seqIndex_neg ‹0› h1,e],by omega,h1,by omega⟩
  ·rw[if_neg h1]at h;cases h
theorem uK{α:Type}{xs:List α}{i:Int}{v:α}(h:mI xs i=some v):∃j,seqIndex? i xs.length=some j/\xs[j]?=some v/\j<xs.length/\-(xs.length:Int)<=i/\i<xs.length:=by
 unfold mI at h;cases e:uP xs.length i with
 |none=>rw[e]at h;cases h
 |some j=>
  rw[e]at h;obtain⟨h1,h2,h3,h4⟩:=xO e;exact⟨j,h1,h,h2,h3,h4⟩
noncomputable def uc(b:Vk):Prop:=∀o i,subscripted b false o i=operate [o,i] (getItem o i)
noncomputable def Kv(X:Cx)(r:R2):Prop:=
 ∀(value slice:Vk)(pins:bh)(s:Vm)(σ:St)(H:Hp)(x y:V)(v u:Vh)(Q:VK),Inv X pins σ H s->RelV x v->RelV y u->r x y H Q->
  subscripted slice false v u=operate [v,u] (getItem v u)->Vx (model X.prog X.w) X.A (subscriptTail value slice v u) (EP X pins σ Q) X.xe s
noncomputable def P7(X:Cx)(id:String)(r:V->aF->Hp->VK->Prop):Prop:=
 ∀(pins:bh)(s:Vm)(σ:St)(H:Hp)(x:V)(xs:aF)(v:Vh)(us:bc)(Q:VK),Inv X pins σ H s->RelV x v->Vals xs us->r x xs H Q->
  Vx (model X.prog X.w) X.A (call (.builtin id) (v::us)) (EP X pins σ Q) X.xe s
section
variable{X:Cx}{a b:Vk}{ta tb:TE}{pos:Pos}
theorem L9{r:R2}(hr:Kv X r)(ha:PE X a ta)(hb:PE X b tb)(hs:uc b):PE X (.Subscript a b pos) (Lh r ta tb):=by
 intro pins s σ H Q I h;exact Subscript_ (Jz ha hb I h λv u s2 x y H2 I2 rx ry q=>hr a b pins s2 σ H2 x y v u Q I2 rx ry q (hs _ _))
noncomputable def OD(K:Ug):R2:=λx y H Q=>∃p xs i v,x=.ref p/\y=.int i/\mJ K H p xs/\mI xs i=some v/\Q v H
noncomputable def M5(K:Ug):R2:=λx y H Q=>∃p xs i v,x=.ref p/\y=.int i/\oJ K H p xs/\mI xs i=some v/\Q v H
noncomputable def OX:R2:=λx y H Q=>∃z i c,x=.str z/\y=.int i/\z.length<=Vr/\mI z.cps.toList i=some c/\Q (.str ⟨#[c]⟩) H
theorem ED:Kv X (OD X.K):=by
 intro value slice pins s σ H x y v u Q I rx ry h hs;obtain⟨p,xs,i,z,rfl,rfl,hq,he,q⟩:=h;cases rx;obtain⟨t,rfl⟩:=ry;obtain⟨its,r,pl,hz⟩:=I.list hq;obtain⟨j,h1,h2,h3,h4,h5⟩:=uK he;obtain⟨w,ew,rw'⟩:=r.get h2;have hl:=r.length;have hn:=mw;have fin:EP X pins σ Q w s:=⟨z,H,I,rw',q⟩
 by_cases h0:0<=i
 ·have hj:i.toNat=j:=by
   rw[seqIndex_of h0 h5]at h1;exact Option.some.inj h1
  exact item_listR pl.isList h0 ‹0› (by rw[hj];simpa using ew) fin hs
 ·have hj:(i+(its.toArray.size:Int)).toNat=j:=by
   rw[seqIndex_neg ‹0› h4]at h1;rw[RE,<-hl];exact Option.some.inj h1
  exact subscriptTail_builtinR (x:=w) pl.isList.typeIs slot_list_getitem.lookup
   (wpAny_getItem_list_neg (Q:=λr s'=>r=w/\EP X pins σ Q r s') pl.isList ‹0› (by rw[RE]<;>omega) ‹0› (by rw[hj];simpa using ew) ⟨rfl,fin⟩) hs
theorem Jx:Kv X (M5 X.K):=by
 intro value slice pins s σ H x y v u Q I rx ry h hs;obtain⟨p,xs,i,z,rfl,rfl,hq,he,q⟩:=h;cases rx;obtain⟨t,rfl⟩:=ry;obtain⟨its,r,pl,hz⟩:=I.tuple hq;obtain⟨j,h1,h2,h3,h4,h5⟩:=uK he;obtain⟨w,ew,rw'⟩:=r.get h2;have hl:=r.length;have hn:=mw;have fin:EP X pins σ Q w s:=⟨z,H,I,rw',q⟩
 exact subscriptTail_builtinR (x:=w) pl.typeIs slot_tuple_getitem.lookup
  (getItem_tuple (j:=j) (Q:=λr s'=>r=w/\EP X pins σ Q r s') pl ‹0› ‹0› (by rw[RE,<-hl];exact h1) (by simpa using ew) ⟨rfl,fin⟩) hs
theorem JT:Kv X OX:=by
 intro value slice pins s σ H x y v u Q I rx ry h hs;obtain⟨z,i,c,rfl,rfl,hz,he,q⟩:=h;obtain⟨t,rfl⟩:=rx;obtain⟨t',rfl⟩:=ry;obtain⟨j,h1,h2,h3,h4,h5⟩:=uK he;have hl:z.cps.toList.length=z.length:=by simp[Str.length]
 rw[hl]at h1 h4 h5;have hn:=mw;exact tail_any (typeIs_str s z t) slot_str_getitem.lookup (getItem_str (c:=c) (by
  have e1:decide (i < -(2^63:Int))=false:=decide_eq_false ‹0›;have e2:decide (i>=2^63)=false:=decide_eq_false ‹0›;rw[e1,e2,Bool.or_false]) (by rw[h1];simpa using h2) ⟨.str ⟨#[c]⟩,H,I.tok _,⟨_,rfl⟩,q⟩) hs
theorem xk(its:bc)(n j:Nat)(u:Vh):Obj.mapSeq (·.setIfInBounds j u) {cls:=.type "list",data:=.seq its.toArray n}={cls:=.type "list",data:=.seq (its.set j u).toArray n}:=by
 simp[Obj.mapSeq]
theorem Inv.lst{pins:bh}{σ:St}{H:Hp}{s:Vm}{p:Vj}{xs:aF}(I:Inv X pins σ H s)(h:H p=some (.lst xs)):
  ∃(its:bc)(n:Nat),Vals xs its/\s.heap.get? p=some {cls:=.type "list",data:=.seq its.toArray n}/\xs.length<=Vr:=by
 obtain⟨z,its,n,r,e⟩:=I.hok p _ h;exact⟨its,n,r,e,z⟩
theorem Inv.lstUpd{pins:bh}{σ:St}{H:Hp}{s:Vm}{p:Vj}{xs ys:aF}{its its':bc}{n n':Nat}{f:Obj->Obj}(I:Inv X pins σ H s)(h:H p=some (.lst xs))
  (ho:s.heap.get? p=some {cls:=.type "list",data:=.seq its.toArray n}) (hf:f {cls:=.type "list",data:=.seq its.toArray n}={cls:=.type "list",data:=.seq its'.toArray n'}) (r:Vals ys its') (hz:ys.length<=Vr) (t:Nat):
  Inv X pins σ (upd H p (.lst ys)) {s with heap:=s.heap.update p f,toks:=t}:=by
 have e:(s.heap.update p f).get? p=some {cls:=.type "list",data:=.seq its'.toArray n'}:=by
  rw[U1 f ho (by rw[hf]<;>rfl),hf]
 refine I.write (x:=p) (e:=p) (by rw[h];trivial) (.inl rfl) (λb u hb q=>(U2 _ _ (Ne.symm hb)).trans q) ⟨_,e⟩ ?_;exact⟨hz,its',n',r,e⟩
noncomputable def Hz:V->V->V->Hp->(Hp->Prop)->Prop:=λo i v H Q=>∃p xs k j,o=.ref p/\i=.int k/\H p=some (.lst xs)/\uP xs.length k=some j/\Q (upd H p (.lst (xs.set j v)))
theorem set_list:KA X Hz:=by
 intro pins s σ H o i v ov iv u Q I ro ri rv h;obtain⟨p,xs,k,j,rfl,rfl,hp,hj,q⟩:=h;cases ro;obtain⟨t,rfl⟩:=ri;obtain⟨its,n,r,ho,hz⟩:=I.lst hp;obtain⟨h1,h2,h3,h4⟩:=xO hj;have hl:=r.length;have hn:=mw;have I':Inv X pins σ (upd H p (.lst (xs.set j v))) {s with heap:=s.heap.update p (Obj.mapSeq (·.setIfInBounds j u))}:=
  I.lstUpd hp ho (xk its n j u) (r.set rv j) (by rw[R4];exact hz) s.toks
 by_cases h0:0<=k
 ·have hk:k.toNat=j:=by
   rw[seqIndex_of h0 h4]at h1;exact Option.some.inj h1
  exact PySem.W.ki_setAt ho h0 ‹0› (by rw[RE,<-hl];exact h4) (by rw[hk];exact⟨_,I',q⟩)
 ·have hk:(k+(its.toArray.size:Int)).toNat=j:=by
   rw[seqIndex_neg ‹0› h3]at h1;rw[RE,<-hl];exact Option.some.inj h1
  exact PySem.W.ki_setBack ho ‹0› (by rw[RE,<-hl];exact h3) ‹0› (by rw[hk];exact⟨_,I',q⟩)
theorem uM(lo hi:dA)(n:Nat):(sliceBounds lo hi none n).1=((HT.sIx n 0 lo:Nat):Int)/\(sliceBounds lo hi none n).2.1=((HT.sIx n n hi:Nat):Int)/\(sliceBounds lo hi none n).2.2=1:=by
 refine⟨?_,?_,rfl⟩
 ·cases lo with
  |none=>simp[sliceBounds,HT.sIx]
  |some i=>
   simp only[sliceBounds,HT.sIx,R5,show(1:Int)>0 by decide,if_true];by_cases h:i<0
   ·simp only[h,if_true]<;>omega
   ·simp only[h,if_false]<;>omega
 ·cases hi with
  |none=>simp[sliceBounds,HT.sIx]
  |some i=>
   simp only[sliceBounds,HT.sIx,R5,show(1:Int)>0 by decide,if_true];by_cases h:i<0
   ·simp only[h,if_true]<;>omega
   ·simp only[h,if_false]<;>omega
theorem rJ(its:bc)(lo hi:dA):slicePick its.toArray lo hi none=((its.drop (HT.sIx its.length 0 lo)).take (HT.sIx its.length its.length hi-HT.sIx its.length 0 lo)).toArray:=by
 obtain⟨h1,h2,h3⟩:=uM lo hi its.toArray.size;unfold slicePick;rw[h1,h2,h3];simp only[sliceRange_one,pick_run,RE]<;>rfl
noncomputable def NQ(K:Ug):V->dA->dA->Hp->VK->Prop:=λx lo hi H Q=>∃a xs,x=.ref a/\mJ K H a xs/\∀p,H p=none->Q (.ref p) (upd H p (.lst (uS xs lo hi)))
theorem Fj:MH X (NQ X.K):=by
 intro pins s σ H x v vl vu lo hi sl Q I rx hs pl pu h;obtain⟨a,xs,rfl,hx,q⟩:=h;cases rx;obtain⟨its,r,ht,hz⟩:=I.list hx;have hlen:=r.length;refine⟨"list",_,slot_list_getitem.lookup,ht.isList.typeIs,?_⟩;refine wpAny_getItem_list_slice ht.isList hs pl pu .none (by simp) ?_ (by rw[RE]<;>omega);rw[rJ,<-hlen];refine⟨.ref s.heap.objs.size,_,I.laid (t':=s.toks) (o:=.lst (uS xs lo hi)) (λb ob q=>UY _ q) (RB _) ?_,rfl,q _ (I.hok.fresh (RB _))⟩;exact⟨Rq (pq xs lo hi) hz,_,0,(r.drop (HT.sIx xs.length 0 lo)).take (HT.sIx xs.length xs.length hi-HT.sIx xs.length 0 lo),UZ _ rfl⟩
noncomputable def DA:V->Bool
 |.non=>true
 |.bl _=>true
 |.int _=>true
 |.str _=>true
 |_=>false
noncomputable def Nq:V->V->Bool
 |.non,.non=>true
 |.bl a,.bl b=>a==b
 |.bl a,.int b=>(if a then 1 else 0)==b
 |.int a,.bl b=>a==(if b then 1 else 0)
 |.int a,.int b=>a==b
 |.str a,.str b=>a==b
 |_,_=>false
theorem IR{A:Vu}{s:Vm}{y x:V}{u v:Vh}(ry:RelV y u)(rx:RelV x v)(fy:DA y=true)(fx:DA x=true):SeqAt.EqAt A s u v (Nq y x):=by
 cases y with
 |non=>
  cases ry;cases x with
  |non=>cases rx;exact SeqAt.EqAt.same _
  |bl b=>cases rx;exact SeqAt.EqAt.none_bool b
  |int b=>obtain⟨t,rfl⟩:=rx;exact SeqAt.EqAt.none_int b t
  |str b=>obtain⟨t,rfl⟩:=rx;exact SeqAt.EqAt.none_str b t
  |_=>exact absurd (show false=true from fx) RF
 |bl a=>
  cases ry;cases x with
  |non=>cases rx;exact SeqAt.EqAt.bool_none a
  |bl b=>cases rx;exact SeqAt.EqAt.bool_bool a b
  |int b=>obtain⟨t,rfl⟩:=rx;exact SeqAt.EqAt.bool_int a b t
  |str b=>obtain⟨t,rfl⟩:=rx;exact SeqAt.EqAt.bool_str a b t
  |_=>exact absurd (show false=true from fx) RF
 |int a=>
  obtain⟨t',rfl⟩:=ry;cases x with
  |non=>cases rx;exact SeqAt.EqAt.int_none a t'
  |bl b=>cases rx;exact SeqAt.EqAt.int_bool a t' b
  |int b=>obtain⟨t,rfl⟩:=rx;exact SeqAt.EqAt.int_int a t' b t
  |str b=>obtain⟨t,rfl⟩:=rx;exact SeqAt.EqAt.int_str a t' b t
  |_=>exact absurd (show false=true from fx) RF
 |str a=>
  obtain⟨t',rfl⟩:=ry;cases x with
  |non=>cases rx;exact SeqAt.EqAt.str_none a t'
  |bl b=>cases rx;exact SeqAt.EqAt.str_bool a t' b
  |int b=>obtain⟨t,rfl⟩:=rx;exact SeqAt.EqAt.str_int a t' b t
  |str b=>obtain⟨t,rfl⟩:=rx;exact SeqAt.EqAt.str_str a t' b t
  |_=>exact absurd (show false=true from fx) RF
 |_=>exact absurd (show false=true from fy) RF
theorem nG:dg X (.builtin "len") (λxs H Q=>∃p ys,xs=[.ref p]/\(mJ X.K H p ys\/oJ X.K H p ys)/\Q (.int ys.length) H):=by
 intro pins s σ H xs us Q I r h;obtain⟨p,ys,rfl,hq,q⟩:=h;obtain⟨u,rfl,rx⟩:=vals1 r;cases rx;have hn:=mw;rcases hq with hq|hq
 ·obtain⟨its,r',pl,hz⟩:=I.list hq;have hlen:=r'.length;exact Calls.call_len_list pl.isList (by simp only[RE]<;>omega) ⟨.int ys.length,H,I.tok _,⟨s.toks+1,by rw[RE,hlen]⟩,q⟩
 ·obtain⟨its,r',pl,hz⟩:=I.tuple hq;have hlen:=r'.length;exact len_tuple pl (by simp only[RE]<;>omega) ⟨.int ys.length,H,I.tok _,⟨s.toks+1,by rw[RE,hlen]⟩,q⟩
theorem tX:dg X (.builtin "len") (λxs H Q=>∃z,xs=[.str z]/\z.length<=Vr/\Q (.int z.length) H):=by
 intro pins s σ H xs us Q I r h;obtain⟨z,rfl,hz,q⟩:=h;obtain⟨u,rfl,t,rfl⟩:=vals1 r;have hn:=mw;exact len_str ‹0› ⟨.int z.length,H,I.tok _,⟨_,rfl⟩,q⟩
theorem jC:dg X (.type "list") (λxs H Q=>∃p ys,xs=[.ref p]/\(mJ X.K H p ys\/oJ X.K H p ys)/\∀l,H l=none->Q (.ref l) (upd H l (.lst ys))):=by
 intro pins s σ H xs us Q I r h;obtain⟨p,ys,rfl,hq,q⟩:=h;obtain⟨u,rfl,rx⟩:=vals1 r;cases rx;have fin:∀(its:bc),Vals ys its->ys.length<=Vr->∀(h':Vq)(c':Nat),(∀b o',s.heap.get? b=some o'->h'.get? b=some o')->
   h'.get? s.heap.objs.size=some {cls:=.type "list",dict:=none,data:=.seq its.toArray c',slots:=#[]}->EP X pins σ Q (.ref s.heap.objs.size) {s with heap:=h'}:=λits r' hz h' c' kp e=>
  ⟨.ref s.heap.objs.size,_,I.laid (t':=s.toks) kp (RB _) (show cG X.prog X.w _ h' _ (.lst ys)from⟨hz,its,c',r',e⟩),rfl,q _ (I.hok.fresh (RB _))⟩
 rcases hq with hq|hq
 ·obtain⟨its,r',pl,hz⟩:=I.list hq;have hlen:=r'.length;obtain⟨o,ho,hc,n,hd⟩:=pl.isList;exact call_list_seq p (.inl rfl) ho hc hd (λh' c' kp e=>fin its r' hz h' c' kp e) (by simp only[RE]<;>omega)
 ·obtain⟨its,r',pl,hz⟩:=I.tuple hq;have hlen:=r'.length;obtain⟨o,ho,hc,n,hd⟩:=pl;exact call_list_seq p (.inr rfl) ho hc hd (λh' c' kp e=>fin its r' hz h' c' kp e) (by simp only[RE]<;>omega)
theorem lR:dg X (.type "tuple") (λxs H Q=>∃p ys,xs=[.ref p]/\((mJ X.K H p ys/\∀l,H l=none->Q (.ref l) (upd H l (.tup ys)))\/(oJ X.K H p ys/\Q (.ref p) H))):=by
 intro pins s σ H xs us Q I r h;obtain⟨p,ys,rfl,h⟩:=h;obtain⟨u,rfl,rx⟩:=vals1 r;cases rx;rcases h with⟨hq,q⟩|⟨hq,q⟩
 ·obtain⟨its,r',pl,hz⟩:=I.list hq;have hlen:=r'.length;refine call_tuple_list pl.isList (λh' kp=>?_) (by simp only[RE]<;>omega);have I1:Inv X pins σ H {s with heap:=h'}:=I.kept (t':=s.toks) kp;have I2:Inv X pins σ (upd H h'.objs.size (.tup ys)) {s with heap:=h'.push {cls:=.type "tuple",data:=.seq its.toArray}}:=
   I1.laid (t':=s.toks) (λb o e=>UY _ e) (RB _) (show cG X.prog X.w _ _ _ (.tup ys)from⟨hz,its,r',IsTup.new _ _⟩)
  exact⟨.ref h'.objs.size,_,I2,rfl,q _ (I1.hok.fresh (RB _))⟩
 ·obtain⟨its,r',pl,hz⟩:=I.tuple hq;exact call_tuple_same pl ⟨.ref p,H,I,rfl,q⟩
noncomputable def PK(K:Ug)(T:String)(x:V)(H:Hp):Prop:=match x with
 |.str _=>T="str"
 |.int _=>T="int"
 |.ref p=>(T="list"/\∃xs,mJ K H p xs)\/(T="tuple"/\∃o,K.lookup p=some o/\o.cls=.type "tuple"/\o.dict=none) \/
   (T="dict"/\((∃kvs,H p=some (.dK kvs))\/∃kvs,H p=some (.dT kvs)))\/(T="set"/\∃S n,H p=some (.set S n))
 |_=>False
theorem HZ{pins:bh}{σ:St}{H:Hp}{s:Vm}{T:String}{x:V}{v:Vh}(I:Inv X pins σ H s)(r:RelV x v)(ty:PK X.K T x H):
  s.TypeIs v T/\∀a,v=.ref a->∃ob,s.heap.get? a=some ob/\ob.dict=none:=by
 cases x with
 |str z=>
  obtain⟨t,rfl⟩:=r;cases(show T="str"from ty);exact⟨typeIs_str s z t,λ_ e=>nomatch e⟩
 |int i=>
  obtain⟨t,rfl⟩:=r;cases(show T="int"from ty);exact⟨typeIs_int s i t,λ_ e=>nomatch e⟩
 |ref p=>
  cases r;rcases ty with⟨rfl,xs,hq⟩|⟨rfl,o,hk,hc,hd⟩|⟨rfl,hk⟩|⟨rfl,S,n,hk⟩
  ·obtain⟨its,_,pl,_⟩:=I.list hq;refine⟨pl.isList.typeIs,λa e=>?_⟩;cases e;obtain⟨o,n,e,c,hd,_⟩:=pl;exact⟨o,e,hd⟩
  ·refine⟨⟨o,I.kIn p o hk,hc⟩,λa e=>?_⟩;cases e;exact⟨o,I.kIn _ o hk,hd⟩
  ·have z:∃o,s.heap.get? p=some o/\o.ExactDict:=by
    rcases hk with⟨kvs,hk⟩|⟨kvs,hk⟩
    ·obtain⟨_,_,_,_,o,_,_,e,ex,_⟩:=I.hok p _ hk;exact⟨o,e,ex⟩
    ·obtain⟨_,_,_,_,o,_,_,e,ex,_⟩:=I.hok p _ hk;exact⟨o,e,ex⟩
   obtain⟨o,e,ex⟩:=z;refine⟨⟨o,e,ex.1⟩,λa e2=>?_⟩;cases e2;exact⟨o,e,ex.2.1⟩
  ·obtain⟨o,_,_,_,e,ex,_⟩:=I.hok p _ hk;refine⟨⟨o,e,ex.1⟩,λa e2=>?_⟩;cases e2;exact⟨o,e,ex.2.1⟩
 |_=>exact False.elim ty
noncomputable def QH(K:Ug)(T:String)(r:V->aF->Hp->VK->Prop)(to:TE)(t:TA):TE:=λσ H Q=>to σ H λx H1=>PK K T x H1/\t σ H1 λxs H2=>r x xs H2 Q
variable{o e:Vk}{es:bx}{to:TE}{t:TA}{name:Str}{apos cpos:Pos}{T id:String}{r:V->aF->Hp->VK->Prop}
theorem LY(pa:PlainAttrs T)(slot:Slot T name id)(hty:typeOf (.builtin id)=pure (.type "method_descriptor"))(hm:P7 X id r)(ho:PE X o to)(ha:PA X (e::es) t)
  (hbase:VS o name X.env (eval o X.env)=eval o X.env:=by rfl)
  (hfew:((backTo cpos (Vy (e::es) X.env)).all (fun x=>!x.1) && (backToKw cpos (VW [] X.env)).all (fun x=>x.1.isSome)
   && decide ((e::es).length+([]:List Keyword).length+(if([]:List Keyword).isEmpty then 0 else 1)<30))=true:=by rfl)
  (hline:(apos.endLine==cpos.line)=true:=by rfl) (hs:Vy (e::es) X.env=(false,eval e X.env)::Vy es X.env:=by rfl) (hplain:(backTo cpos (Vy es X.env)).any (·.1)=false:=by rfl):
  PE X (.Call (.Attribute o name apos) (e::es) [] cpos) (QH X.K T r to t):=by
 intro pins s σ H Q I h;refine wpAny_Call_method_late hbase hfew hline rfl (cE (ho pins s σ H _ I h) λv s1 ⟨x,H1,I1,r1,ty,q1⟩=>?_);obtain⟨h1,h2⟩:=HZ I1 r1 ty;refine⟨T,id,pa,slot,hty,h1,h2,?_⟩;have hA:=ha cpos pins s1 σ H1 _ I1 q1;rw[hs]at hA ⊢;refine Calls.callWith_builtin (by show(false||(backTo cpos (Vy es X.env)).any (·.1))=false;rw[hplain]<;>rfl) (Calls.evalArgs_plain ?_);exact cE hA λus s2 ⟨vs,H2,I2,r2,q2⟩=>hm pins s2 σ H2 x vs v us Q I2 r1 r2 q2
end
noncomputable def Pk(X:Cx)(id:String)(r:V->aF->Hp->VK->Prop):Prop:=
 ∀(pins:bh)(s:Vm)(σ:St)(H:Hp)(x:V)(xs:aF)(v:Vh)(us:bc)(Q:VK),Inv X pins σ H s->RelV x v->Vals xs us->r x xs H Q->
  Vx (model X.prog X.w) X.A (call (.builtin id) (v::us)) (EP X pins σ Q) X.xe s
theorem Vals.one:∀{x:V}{us:bc},Vals [x] us->∃u,us=[u]/\RelV x u
 |_,_,.cons r .nil=>⟨_,rfl,r⟩
section
variable{X:Cx}{pins:bh}{σ:St}{H:Hp}{s:Vm}{l b:Vj}{xs ys zs:aF}
theorem Inv.lset{its its':bc}{n:Nat}{f:Array Vh->Array Vh}{t':Nat}(I:Inv X pins σ H s)(hH:H l=some (.lst xs))
  (e:s.heap.get? l=some {cls:=.type "list",data:=.seq its.toArray n}) (hf:f its.toArray=its'.toArray) (hv:Vals ys its') (hz:ys.length<=Vr):
  Inv X pins σ (upd H l (.lst ys)) {s with heap:=s.heap.update l (Obj.mapSeq f),toks:=t'}:=by
 have q:=PySem.IsL.update e f;rw[hf]at q;refine I.write (x:=l) (e:=l) (by rw[hH];exact trivial) (.inl rfl) (λb' u hb hu=>(U2 s.heap (Obj.mapSeq f) (Ne.symm hb)).trans hu) ⟨_,q⟩ ?_;exact⟨hz,its',_,hv,q⟩
theorem Inv.lnew{its:bc}{t':Nat}(I:Inv X pins σ H s)(hv:Vals ys its)(hz:ys.length<=Vr):
  Inv X pins σ (upd H s.heap.objs.size (.lst ys)) {s with heap:=s.heap.push {cls:=.type "list",data:=.seq its.toArray},toks:=t'}:=
 I.laid (λ_ _ q=>UY _ q) (RB _) ⟨hz,its,0,hv,UZ _ rfl⟩
theorem Inv.fresh(I:Inv X pins σ H s):H s.heap.objs.size=none:=I.hok.fresh (RB _)
theorem Inv.lstM(I:Inv X pins σ H s)(hH:H l=some (.lst xs)):xs.length<=Vr/\∃(its:bc)(n:Nat),Vals xs its/\xs.length=its.length/\s.heap.get? l=some {cls:=.type "list",data:=.seq its.toArray n}:=by
 obtain⟨z,its,n,r,e⟩:=I.hok l _ hH;exact⟨z,its,n,r,r.length,e⟩
end
section
variable{X:Cx}
noncomputable def xS:V->aF->Hp->VK->Prop:=λx vs H Q=>∃l xs y,x=.ref l/\vs=[y]/\H l=some (.lst xs)/\xs.length<Vr/\Q .non (upd H l (.lst (xs++[y])))
theorem sI:Pk X "list.append" xS:=by
 intro pins s σ H x vs v us Q I rx rv h;obtain⟨l,xs,y,rfl,rfl,hH,hz,q⟩:=h;cases rx;obtain⟨u,rfl,ru⟩:=rv.one;obtain⟨z,its,n,r,hl,e⟩:=I.lstM hH;refine call_meets F.slot_list_append ⟨_,e,rfl⟩ F.entry_list_append (F.args_list_append_2 _ _) (PySem.list_append l its.toArray n u (by rw[RE];omega)) ⟨e,?_⟩;refine⟨.non,_,I.lset (its':=its++[u]) hH e (by simp) (r.append (.cons ru .nil)) ?_,rfl,q⟩;rw[RZ,R6];omega
end
end L2
namespace Att
open PySem PySem.W PySem.Calls PyProof.Rows
theorem pM{P:Params}{h:Vq}:∀(ns:List Int)(vs:List Vh),WellAll P h vs (ns.map WData.int)->IntsAre vs ns:=by
 intro ns
 induction ns with
 |nil=>
  intro vs w;rw[R7]at w;cases w;exact .nil
 |cons n ns ih=>
  intro vs w;rw[RH]at w;cases w with
  |cons a b=>
   cases a;exact .cons _ _ (ih _ b)
theorem zD{l:OpenLaw}{n:Nat}(hn:l.most=some n){P:Params}{h:Vq}{args:List WData}{vals:List Vh}
  (hpre:l.row.toRowW.claim.pre args=true) (hwl:WellAll P h vals args):
  ∃a vs ns,vals=[Value.ref a]/\args=[WData.list (ns.map WData.int)]/\h.get? a=some {cls:=.type "list",data:=.seq vs.toArray}/\IntsAre vs ns/\ns.length<=n:=by
 have hsh:WShape.hasAll [] args [.list .int]=true:=(pre_splitW hpre).1;have hc:l.pre.holds [] {args:=args}=true:=(pre_splitW hpre).2;obtain⟨d,r,rfl,h1,h2⟩:=hasAllW_cons hsh;obtain rfl:=hasAllW_nil h2;obtain⟨xs,rfl,h3⟩:=hasW_list h1;obtain⟨ns,rfl⟩:=items_int h3;have hlen:ns.length<=n:=by
  unfold OpenLaw.pre at hc;have h4:(WTm.not (.lt (.lit (.int (n:Int))) (.len (.arg 0)))).holds [] {args:=[.list (ns.map .int)]}=true:=by
   have h4:=(holds_andW hc).1;rw[hn]at h4;exact h4
  have h5:=condW_of h4 (w_not (w_lt w_lit (w_len_list (w_arg rfl))));rw[RJ]at h5;refine Nat.le_of_not_lt λq=>?_;have q':(n:Int)<((ns.length:Nat):Int):=by omega
  first
   |(rw[decide_eq_true q']at h5;exact absurd h5 (by decide))
   |(simp at h5;omega)
 cases hwl with
 |cons w1 w2=>
  cases w2;cases w1 with
  |list ho hall=>exact⟨_,_,ns,rfl,rfl,ho,pM ns _ hall,hlen⟩
theorem zx(l:OpenLaw)(args:List WData):l.row.toRowW.claim.post args (.bool true) args=true:=
 postW_of (r:=l.row.toRowW) (X:=(true==true))
  (show WShape.has [] (.bool true) .bool=true by first|rfl|decide|simp[WShape.has,WShape.arms,WShape.armsAll])
  (show(WTm.eq .res (.lit (.bool true))).value [] {args:=args,res:=some (.bool true),after:=args}=some (.bool (true==true))from w_eq_bool (w_res rfl) w_lit) rfl
theorem Ha{l:OpenLaw}{n:Nat}{q:Vo}{loose:List Str}{XP:(Str->Option Vh)->Vq->Prop}{YP:Vn->Vq->Prop}{d:DefRec}
  (hn:l.most=some n) (hdf:d.params.defaults=[])
  (call:∀ (w:Vn) (s₀ s₁:Vm) (mg mb:Str->Option Vh) (fa:Vj) (o:Obj) (pm cd doc:Vh) (a:Vj) (vs:List Vh) (ns:List Int),
   Ground q loose [] XP w s₀ mg mb s₁.heap->YP w s₁.heap->
   s₁.heap.get? fa=some o->o.data=.func (docDef d.name d.params d.body d.scope pm cd doc)->s₁.heap.CodeRec cd d.name->mg d.name=some (.ref fa)->
   s₁.heap.get? a=some {cls:=.type "list",data:=.seq vs.toArray}->IntsAre vs ns->ns.length<=n->s₁.gens=#[]->
   VR (model l.prog w) callerA (.call (.ref fa) ⟨[.ref a],[]⟩) (λr s'=>r=.ok (.ret (.bool true))/\OldK s₁.heap s'.heap/\s'.os=s₁.os/\AllBare s'.gens) s₁):
  WalkO q loose XP YP l.row.toRowW d [] (λf vs=>PySem.call f vs):=by
 intro w s₀ s₁ mg mb G Y fa o pm cd doc dV kV ho hd hcd hD hmg hg args vals as hpre hlay hrd hwl hlo;obtain rfl:dV=.none:=Dflts.none hD hdf;obtain rfl:kV=.none:=Dflts.noKw hD;obtain⟨a,vs,ns,rfl,rfl,hobj,hints,hlen⟩:=zD hn hpre hwl;refine enter_call (V1 (call w s₀ s₁ mg mb fa o pm cd doc a vs ns G Y ho (fd_plain hd) hcd hmg hobj hints hlen hg) λr s' hq=>?_);obtain⟨rfl,h2,h3,h4⟩:=hq;exact⟨.inl ⟨.bool true,.bool true,[],rfl,λ_=>rfl,.bool true,zx l _,λ_=>⟨List.Pairwise.nil,λ_ hm=>(nomatch hm)⟩⟩,h2,h3,h4⟩
section
variable{prog:Vo}{w:Vn}{A:Vu}{E:Vh->Vm->Prop}{s:Vm}{K:Frag}
end
end Att
namespace L2
open PySem PySem.Spec PyProof.Rows
theorem tR:∀{vs:bc}{ns:List Int},IntsAre vs ns->Vals (ns.map V.int) vs
 |_,_,.nil=>.nil
 |_,_,.cons n t h=>.cons ⟨t,rfl⟩ (tR h)
noncomputable def Only(H:Hp):Prop:=∀b,H b=none\/∃o xs,H b=some (.frz o (.lst xs))
theorem BU{P:Vo}{w:Vn}{K:Ug}{mg mb:cN}{CX:wx}{k:Nat}{fa a:Vj}{fd:VY}{x:Str}{sp:Sp}{s₁:Vm}{vs:bc}{ns:List Int}
  (KX:K.In s₁.heap) (hns:s₁.heap.Ns Vs mg) (hb:s₁.heap.Ns builtinsNs mb) (hbb:∀x:Str,x≠"__name__"->mb x=Vt x) (hlim:s₁.heap.NoLimit) (hg:s₁.gens=#[])
  (ha:s₁.heap.get? a=some {cls:=.type "list",data:=.seq vs.toArray}) (hi:IntsAre vs ns) (hl:ns.length<=Vr) (hr:gD k callerA)
  (F:∀base:Vq,K.In base->base.Ns Vs mg->ig P w K mg base CX k fa fd [x] sp) (hbind:∀(s:Vm)(u:Vh),VZ s fd ⟨[u],[]⟩ [(x,u)])
  (hsp:∀H:Hp,Only H->mJ K H a (ns.map V.int)->sp [.ref a] H (λv _=>v=.bl true) λ_ _ _=>False)
  (hCX:∀H e s',CX [] H s₁ (λ_ _ _=>False) e s'->False):
  VR (model P w) callerA (.call (.ref fa) ⟨[.ref a],[]⟩) (λr s'=>r=.ok (.ret (.bool true))/\OldK s₁.heap s'.heap/\s'.os=s₁.os/\AllBare s'.gens) s₁:=by
 have rv:=tR hi;have lenV:=hi.length;have core:∀H:Hp,Only H->mJ K H a (ns.map V.int)->nO P w H s₁.heap->(∀b,H b≠none->b=a)->(H a≠none->K.lookup a=none)->
   VR (model P w) callerA (.call (.ref fa) ⟨[.ref a],[]⟩) (λr s'=>r=.ok (.ret (.bool true))/\OldK s₁.heap s'.heap/\s'.os=s₁.os/\AllBare s'.gens) s₁:=by
  intro H hO hS hok hA hK;have base_of:∀{b:Vj}{o:Obj},s₁.heap.get? b=some o->H b=none->(uH s₁.heap H).get? b=some o:=λe n=>DE e n;have noA:∀{b:Vj}{o:Obj}{es:Array DictEntry}{ep:Nat},s₁.heap.get? b=some o->o.data=.dict es ep->H b=none:=λ{b o es ep} e d=>by
   cases q:H b with
   |none=>rfl
   |some u=>
    have e':b=a:=hA b (by rw[q];simp);subst e';rw[ha]at e;cases e;have d':Data.seq vs.toArray _=Data.dict es ep:=d;cases d'
  have nsK:∀{b:Vj}{m:cN},s₁.heap.Ns b m->(uH s₁.heap H).Ns b m:=λ{b m} ⟨o,es,ep,e,d,r⟩=>⟨o,es,ep,base_of e (noA e d),d,r⟩
  have hKb:K.In (uH s₁.heap H):=λb o e=>base_of (KX b o e) (by
   cases q:H b with
   |none=>rfl
   |some u=>
    have e':b=a:=hA b (by rw[q];simp);subst e';rw[hK (by rw[q];simp)]at e;cases e)
  have hM:Mod K mg (uH s₁.heap H):=⟨hKb,nsK hns,⟨mb,nsK hb,hbb⟩,let ⟨mc,h1,h2⟩:=hlim;⟨mc,nsK h1,h2⟩⟩
  have e0:za P w K mg (uH s₁.heap H) callerA [] s₁ H:=⟨rfl,hM,λb o e=>Eh e,RK (zV _ _),trivial,λb hb=>absurd (show b∈([]:aA)from hb) (by simp),hok,.of_eq hg⟩
  refine V1 ((F _ hKb (nsK hns)).run callerA [] s₁ H ⟨[.ref a],[]⟩ [.ref a] [.ref a] _ _ hr e0 (hbind s₁ (.ref a)) (.cons rfl .nil) (hsp H hO hS)) λr s' h=>?_;cases r with
  |error e=>exact(hCX H e s' h).elim
  |ok fl=>
   cases fl with
   |next=>exact False.elim h
   |brk=>exact False.elim h
   |cont=>exact False.elim h
   |ret u=>
    obtain⟨v,H',os,bare,un,hok',r',q⟩:=h;have q':v=.bl true:=q;subst q';obtain rfl:u=Value.bool true:=r';refine⟨rfl,OldK.of_keep λb o e=>?_,os,bare⟩;cases q:H b with
    |none=>exact un.keep b o e q (by intro z;exact absurd (show b∈([]:aA)from z) (by simp)) (by simp)
    |some u=>
     rcases hO b with z|⟨ob,xs,z⟩
     ·rw[q]at z;cases z
     ·have z2:=un.frzs b ob _ z;obtain⟨e1,_⟩:=hok b _ z;obtain⟨e2,_⟩:=hok' b _ z2;rw[e]at e1;cases e1;exact e2
 cases hk:K.lookup a with
 |some o=>
  have e:=KX a o hk;rw[ha]at e;cases e;refine core (λ_=>none) (λ_=>.inl rfl) (.inr ⟨_,vs.toArray,_,hk,rfl,rfl,rfl,by rw[RE,lenV];exact hl,by simpa using rv⟩) (λb u z=>by have z':(none:Option HO)=some u:=z;cases z') (λb z=>absurd rfl z) λz=>absurd rfl z
 |none=>
  refine core (λb=>if b=a then some (.frz {cls:=.type "list",data:=.seq vs.toArray} (.lst (ns.map V.int)))else none) (λb=>?_) (.inl (.inr ⟨{cls:=.type "list",data:=.seq vs.toArray},if_pos rfl⟩)) (λb u z=>?_) (λb z=>?_) λ_=>hk
  ·by_cases hb:b=a
   ·exact .inr ⟨_,_,if_pos hb⟩
   ·exact .inl (if_neg hb)
  ·by_cases hb:b=a
   ·have z':=(if_pos hb).symm.trans z;cases z';subst hb;exact⟨ha,by rw[RJ];exact hl,vs,_,rv,ha⟩
   ·have z':=(if_neg hb).symm.trans z;cases z'
  ·by_cases hb:b=a
   ·exact hb
   ·exact absurd (if_neg hb) z
theorem Mu{l:UH}{n k:Nat}{q:Vo}{loose:av}{XP:(cN)->Vq->Prop}{YP:Vn->Vq->Prop}{d:DefRec}{K:Params->Ug}{CX:Vn->wx}{sp:Vn->Sp}{x:Str}
  (hn:l.most=some n) (hn2:n<=Vr) (hdf:d.params.defaults=[]) (hr:gD k callerA)
  (hY:∀(w:Vn)(h:Vq),YP w h->(K w.params).In h)
  (F:∀ (w:Vn) (mg:cN) (fa:Vj) (h:Vq),(K w.params).In h->h.Ns Vs mg->mg d.name=some (.ref fa) ->
   ∃fd:VY,(∀(s:Vm)(u:Vh),VZ s fd ⟨[u],[]⟩ [(x,u)])/\
    ∀base:Vq,(K w.params).In base->base.Ns Vs mg->ig l.prog w (K w.params) mg base (CX w) k fa fd [x] (sp w))
  (hsp:∀(w:Vn)(H:Hp)(a:Vj)(ns:List Int),ns.length<=n->Only H->mJ (K w.params) H a (ns.map V.int)->sp w [.ref a] H (λv _=>v=.bl true) λ_ _ _=>False)
  (hCX:∀(w:Vn)(H:Hp)(s:Vm)(e:Vh)(s':Vm),CX w [] H s (λ_ _ _=>False) e s'->False):
  PySem.W.WalkO q loose XP YP l.row.toRowW d [] (λf vs=>PySem.call f vs):=by
 refine Att.Ha hn hdf λw s₀ s₁ mg mb fa o pm cd doc a vs ns G Y ho hd hcd hmg hobj hints hlen hg=>?_;have KX:=hY w _ Y;obtain⟨fd,hb,hF⟩:=F w mg fa _ KX G.T.g hmg;exact BU KX G.T.g G.T.b G.T.builtins G.T.nolimit hg hobj hints (Rq hlen hn2) hr hF hb (λH hO hS=>hsp w H a ns hlen hO hS) λH e s'=>hCX w H s₁ e s'
noncomputable def inClass(s:Vl)(j:Nat):Vl:=match s with
 |.ClassDef _ _ _ body _ _ _ _ _ _ _=>body.getD j (.Pass ⟨0,0,0,0⟩)
 |_=>.Pass ⟨0,0,0,0⟩
noncomputable def jH(s:Vl):Arguments:=match s with
 |.FunctionDef _ a _ _ _ _ _ _ _ _=>a
 |_=>{posonlyargs:=[],args:=[],vararg:=none,kwonlyargs:=[],kw_defaults:=[],kwarg:=none,defaults:=[]}
noncomputable def eB(s:Vl):dZ:=match s with
 |.FunctionDef _ _ b _ _ _ _ _ _ _=>b
 |_=>[]
noncomputable def aG(s:Vl):Vv:=match s with
 |.FunctionDef _ _ _ _ _ _ sc _ _ _=>sc
 |_=>{kind:=.function,names:=[],isGenerator:=false,isCoroutine:=false}
noncomputable abbrev ME:wx:=λ_ _ _ _ _ _=>False
noncomputable abbrev E0:XK:=λ_ _ _=>False
structure t6(K:Ug)(x qual:Str)(st:Vl)(f:Vj)(fd:VY):Prop where
 ex:∃(oc:Vh)(od:Option Vj)(kV doc pm:Vh)(an:Option Vj)(cdv ct:Vh)(osl:Array (Option Vh)),
  fd=UE x qual (jH st) (eB st) (aG st) .none kV doc pm an cdv ct/\K.lookup f=some ⟨oc,od,.func fd,osl⟩/\UG K cdv qual=true
 kp:UB K (.ref f)=true
section
variable{P:Vo}{w:Vn}{K:Ug}{mg:cN}{base:Vq}
theorem t6.ok{x qual:Str}{st:Vl}{f:Vj}{fd:VY}{N ps:av}{k:Nat}{sp:Sp}(F:t6 K x qual st f fd)(S:cR N ps (aG st))(len:∀vs H Q E,sp vs H Q E->vs.length=ps.length)
  (hbody:∀ (cdv:Vh) (A:Vu) (outer:List Env) (s:Vm) (H:Hp) (vs:aF) (Q:VK) (E:XK),gD k (A.deeper (envOfC qual (aG st) s.heap.objs.size f cdv))->sp vs H Q E ->
   ∃t,vW (jZ ME P w K mg base N qual (aG st) f cdv A outer s H E).nox (eB st) t/\t {nx:=λ_ H'=>Q .non H',rt:=Q} (start N vs) H):ig P w K mg base ME (k+1) f fd ps sp:=by
 obtain⟨oc,od,kV,doc,pm,an,cdv,ct,osl,rfl,lk,hcd⟩:=F.ex;refine Hx lk hcd S len λA outer s H vs Q E hr hsp=>?_;obtain⟨t,h,q⟩:=hbody cdv A outer s H vs Q E hr hsp;exact⟨t,h.nox,q⟩
theorem t6.binds{x qual:Str}{st:Vl}{f:Vj}{fd:VY}{ps:av}(F:t6 K x qual st f fd)
  (h:∀(kV doc pm:Vh)(an:Option Vj)(cdv ct:Vh)(us:bc),us.length=ps.length->bindArgs (UE x qual (jH st) (eB st) (aG st) .none kV doc pm an cdv ct) ⟨us,[]⟩=pure (ps.zip us)):Binds K fd ps []:=by
 obtain⟨oc,od,kV,doc,pm,an,cdv,ct,osl,rfl,lk,hcd⟩:=F.ex;exact .all (h kV doc pm an cdv ct)
theorem b7{x qual:Str}{st:Vl}{f:Vj}{oc:Vh}{od an:Option Vj}{osl:Array (Option Vh)}{kV doc pm cdv ct:Vh}(l:K.lookup f=some ⟨oc,od,.func (UE x qual (jH st) (eB st) (aG st) .none kV doc pm an cdv ct),osl⟩)
  (c:UG K cdv qual=true) (k:UB K (.ref f)=true):t6 K x qual st f (UE x qual (jH st) (eB st) (aG st) .none kV doc pm an cdv ct):=⟨⟨oc,od,kV,doc,pm,an,cdv,ct,osl,rfl,l,c⟩,k⟩
end
section
variable{X:Cx}
theorem pv(i:Nat){x:Str}{pos:Pos}(hN:X.N[i]?=some x:=by rfl)(hv:Kh X.env.scope x:=by first|exact Or.inl rfl|exact Or.inr (Or.inl rfl)|exact Or.inr (Or.inr rfl))(hd:(x==("__debug__":Str))=false:=by decide)
  (hcd:(x==("__classdict__":Str))=false:=by decide):PE X (.Name x pos) (ua i):=Il hN hv hd hcd
end
theorem vT{A B:Prop}(h:B):if false=true then A else B:=by
 rw[if_neg RF];exact h
theorem vt{A B:Prop}(h:A):if true=true then A else B:=by
 rw[if_pos rfl];exact h
noncomputable def bj(H H':Hp):Prop:=∀b o,H b=some o->H' b=some o
theorem bj.refl(H:Hp):bj H H:=λ_ _ h=>h
theorem bj.trans{H H1 H2:Hp}(a:bj H H1)(b:bj H1 H2):bj H H2:=λc o h=>b c o (a c o h)
theorem bj.free{H H':Hp}(e:bj H H'){l:Vj}(h:H' l=Option.none):H l=Option.none:=by
 cases q:H l with
 |none=>rfl
 |some o=>
  rw[e l o q]at h;cases h
theorem bj.seq{K:Ug}{H H':Hp}{a:Vj}{xs:aF}(e:bj H H')(h:mJ K H a xs):mJ K H' a xs:=by
 rcases h with(h|⟨o,h⟩)|h
 ·exact .inl (.inl (e _ _ h))
 ·exact .inl (.inr ⟨o,e _ _ h⟩)
 ·exact .inr h
section
variable{κ:Type}[DecidableEq κ]
noncomputable def kF(kvs:List (κ×V))(k:κ):Option V:=(kvs.find? λkv=>decide (kv.1=k)).map (·.2)
noncomputable def putK(kvs:List (κ×V))(k:κ)(v:V):List (κ×V):=
 if(kvs.any λkv=>decide (kv.1=k))=true then kvs.map (λkv=>if kv.1=k then(kv.1,v)else kv)else kvs++[(k,v)]
theorem kK{p:κ×V}{r:List (κ×V)}{k:κ}(e:p.1=k):kF (p::r) k=some p.2:=by simp[kF,R8,e]
theorem kt{p:κ×V}{r:List (κ×V)}{k:κ}(e:¬p.1=k):kF (p::r) k=kF r k:=by simp[kF,R8,e]
theorem uT(k:κ):∀kvs:List (κ×V),(kvs.any λkv=>decide (kv.1=k))=(kF kvs k).isSome
 |[]=>rfl
 |p::r=>by
  rw[R9];by_cases e:p.1=k
  ·simp only[kK e,decide_eq_true e,Bool.true_or,Option.isSome_some]
  ·rw[kt e,decide_eq_false e,Bool.false_or];exact uT k r
theorem ku(kvs:List (κ×V))(k:κ)(v:V):(putK kvs k v).length<=kvs.length+1:=by
 unfold putK;split
 ·rw[RJ];omega
 ·rw[RZ,RG,Sa];omega
theorem t7.isSome_eq{o:Option V}{u:Option Vh}(r:t7 o u):o.isSome=u.isSome:=by
 cases o with
 |none=>cases u with
  |none=>rfl
  |some _=>exact(show False from r).elim
 |some _=>cases u with
  |none=>exact(show False from r).elim
  |some _=>rfl
theorem KV.val{kvs:List (κ×V)}{vs:List (κ×Vh)}(r:KV kvs vs)(k:κ):t7 (kF kvs k) (valueAt vs k):=by
 unfold KV at r
 induction r with
 |nil=>exact True.intro
 |@cons p q ps qs h t ih=>
  obtain⟨h1,h2⟩:=h;by_cases e:p.1=k
  ·have e':q.1=k:=h1.symm.trans e;have b:valueAt (q::qs) k=some q.2:=(by simp[valueAt,R8,e']);rw[kK e,b];exact h2
  ·have e':¬q.1=k:=λz=>e (h1.trans z);have b:valueAt (q::qs) k=valueAt qs k:=(by simp[valueAt,R8,e']);rw[kt e,b];exact ih
theorem KV.any{kvs:List (κ×V)}{vs:List (κ×Vh)}(r:KV kvs vs)(k:κ):(kvs.any λkv=>decide (kv.1=k))=vs.any λkv=>decide (kv.1=k):=by
 unfold KV at r
 induction r with
 |nil=>rfl
 |cons h t ih=>rw[R9,R9,ih,h.1]
theorem KV.repl{kvs:List (κ×V)}{vs:List (κ×Vh)}(r:KV kvs vs)(k:κ){y:V}{u:Vh}(ry:RelV y u):
  KV (kvs.map λkv=>if kv.1=k then(kv.1,y)else kv) (vs.map λkv=>if kv.1=k then(kv.1,u)else kv):=by
 unfold KV at r ⊢
 induction r with
 |nil=>exact .nil
 |@cons p q ps qs h t ih=>
  rw[RH,RH];refine .cons ?_ ih;obtain⟨h1,h2⟩:=h;by_cases e:p.1=k
  ·rw[if_pos e,if_pos (h1.symm.trans e)];exact⟨h1,ry⟩
  ·rw[if_neg e,if_neg (λz=>e (h1.trans z))];exact⟨h1,h2⟩
theorem KV.put{kvs:List (κ×V)}{vs:List (κ×Vh)}(r:KV kvs vs)(k:κ){y:V}{u:Vh}(ry:RelV y u):KV (putK kvs k y) (stored vs k u):=by
 unfold putK stored;rw[r.any k];by_cases e:(vs.any λkv=>decide (kv.1=k))=true
 ·rw[if_pos e,if_pos e];exact r.repl k ry
 ·rw[if_neg e,if_neg e];exact Paired.snoc r ⟨rfl,ry⟩
theorem KV.keys{kvs:List (κ×V)}{vs:List (κ×Vh)}(r:KV kvs vs):kvs.map (·.1)=vs.map (·.1):=by
 unfold KV at r
 induction r with
 |nil=>rfl
 |cons h t ih=>rw[RH,RH,ih,h.1]
theorem KV.length{kvs:List (κ×V)}{vs:List (κ×Vh)}(r:KV kvs vs):kvs.length=vs.length:=Paired.length r
end
theorem vg{P:Vo}{w:Vn}{k:Key}{u:Vh}(r:RelV (kV k) u):(cw P w).is k u=true:=by
 cases k with
 |inl i=>obtain⟨t,e⟩:=(show∃t,u=Value.int i t from r);subst e;exact vy P w i t
 |inr x=>obtain⟨t,e⟩:=(show∃t,u=Value.str x t from r);subst e;exact vz P w x t
theorem sK{P:Vo}{w:Vn}:∀{ks:List Key}{us:bc},Vals (ks.map kV) us->ItemsAre (cw P w) ks us
 |[],_,r=>by rw[R7]at r;cases r;exact .nil
 |k::ks,_,r=>by
  rw[RH]at r;cases r with
  |cons h t=>exact .cons (vg h) (sK t)
noncomputable abbrev KT(H:Hp):List (List Key×V)->List (List Key×Vj×Vh)->Prop:=Vp λp q=>p.1=q.1/\H q.2.1=some (.tup (p.1.map kV))/\RelV p.2 q.2.2
theorem KT.val{H:Hp}{kvs:List (List Key×V)}{xs:List (List Key×Vj×Vh)}(r:KT H kvs xs)(k:List Key):t7 (kF kvs k) ((atKey xs k).map (·.2)):=by
 induction r with
 |nil=>exact True.intro
 |@cons p q ps qs h t ih=>
  obtain⟨h1,_,h2⟩:=h;by_cases e:p.1=k
  ·have e':q.1=k:=h1.symm.trans e;have b:atKey (q::qs) k=some q.2:=(by simp[atKey,R8,e']);rw[kK e,b];exact h2
  ·have e':¬q.1=k:=λz=>e (h1.trans z);have b:atKey (q::qs) k=atKey qs k:=(by simp[atKey,R8,e']);rw[kt e,b];exact ih
theorem KT.repl{H:Hp}{kvs:List (List Key×V)}{xs:List (List Key×Vj×Vh)}(r:KT H kvs xs)(k:List Key){y:V}{u:Vh}(ry:RelV y u):
  KT H (kvs.map λkv=>if kv.1=k then(kv.1,y)else kv) (xs.map (putAt k u)):=by
 induction r with
 |nil=>exact .nil
 |@cons p q ps qs h t ih=>
  rw[RH,RH];refine .cons ?_ ih;obtain⟨h1,h2,h3⟩:=h;unfold putAt;by_cases e:p.1=k
  ·rw[if_pos e,if_pos (h1.symm.trans e)];exact⟨h1,h2,ry⟩
  ·rw[if_neg e,if_neg (λz=>e (h1.trans z))];exact⟨h1,h2,h3⟩
theorem KT.put{H:Hp}{kvs:List (List Key×V)}{xs:List (List Key×Vj×Vh)}(r:KT H kvs xs)(k:List Key){b:Vj}{y:V}{u:Vh}(hb:H b=some (.tup (k.map kV)))(ry:RelV y u):
  KT H (putK kvs k y) (storedH xs k b u):=by
 have e:(kvs.any λkv=>decide (kv.1=k))=(atKey xs k).isSome:=by
  rw[uT,(r.val k).isSome_eq,Sb]
 unfold putK storedH;rw[e];by_cases q:(atKey xs k).isSome=true
 ·rw[if_pos q,if_pos q];exact r.repl k ry
 ·rw[if_neg q,if_neg q];exact Paired.snoc r ⟨rfl,hb,ry⟩
theorem KT.keeps{H H':Hp}{kvs:List (List Key×V)}{xs:List (List Key×Vj×Vh)}(r:KT H kvs xs)(ht:∀b ys,H b=some (.tup ys)->H' b=some (.tup ys)):KT H' kvs xs:=
 Paired.mapP r λ_ _ z=>⟨z.1,ht _ _ z.2.1,z.2.2⟩
section
variable{P:Vo}{w:Vn}{H:Hp}{h:Vq}{a:Vj}
theorem Hl{u:HO}(ok:nO P w H h)(e:Rd H a u):cG P w H h a u:=e.ok ok
theorem xI{kvs:List (Key×V)}(ok:nO P w H h)(e:Rd H a (.dK kvs)):kvs.length<=Vr/\(a==sysModules)=false/\∃vs,KV kvs vs/\h.DictOf (cw P w) a vs:=
 show cG P w H h a (.dK kvs)from Hl ok e
theorem BA{kvs:List (Key×V)}(ok:nO P w H h)(e:H a=some (.dK kvs)):kvs.length<=Vr/\(a==sysModules)=false/\∃vs,KV kvs vs/\h.DictOf (cw P w) a vs:=xI ok (.inl e)
theorem uN{ks:List Key}(ok:nO P w H h)(e:H a=some (.tup (ks.map kV))):(tupleKind (cw P w)).is h ks a:=by
 obtain⟨_,its,r,o,h1,h2,n,h3⟩:=(show cG P w H h a (.tup (ks.map kV))from ok a _ e)
 exact⟨o,its.toArray,n,h1,h2,h3,by simpa using sK r⟩
theorem uU{kvs:List (List Key×V)}(ok:nO P w H h)(e:Rd H a (.dT kvs)):kvs.length<=Vr/\(a==sysModules)=false/\
  ∃xs,KT H kvs xs/\h.DictOfH (tupleKind (cw P w)) a xs:=by
 obtain⟨z,y,xs,r,o,es,ep,h1,h2,h3,h4,h5⟩:=(show cG P w H h a (.dT kvs)from Hl ok e)
 refine⟨z,y,xs,r,o,es,ep,h1,h2,h3,h4,λx hx=>?_,h5⟩;have all:∀{l:List (List Key×V)}{m:List (List Key×Vj×Vh)},KT H l m->∀x∈m,(tupleKind (cw P w)).is h x.1 x.2.1:=by
  intro l m q
  induction q with
  |nil=>intro x hx;exact nomatch hx
  |@cons p q ps qs hq t ih=>
   intro x hx;rcases List.mem_cons.mp hx with e|hx
   ·subst e;exact uN ok (by rw[<-hq.1];exact hq.2.1)
   ·exact ih x hx
 exact all r x hx
theorem Lc{kvs:List (List Key×V)}(ok:nO P w H h)(e:H a=some (.dT kvs)):kvs.length<=Vr/\(a==sysModules)=false/\
  ∃xs,KT H kvs xs/\h.DictOfH (tupleKind (cw P w)) a xs:=uU ok (.inl e)
end
noncomputable def AG(H:Hp)(a:Vj)(y:V)(r:Option V):Prop:=
 (∃kvs k,Rd H a (.dK kvs)/\y=kV k/\r=kF kvs k)\/∃kvs k b,Rd H a (.dT kvs)/\y=.ref b/\H b=some (.tup (k.map kV))/\r=kF kvs k
noncomputable def Jf(H:Hp)(a:Vj)(y v:V)(H':Hp):Prop:=
 (∃kvs k,H a=some (.dK kvs)/\y=kV k/\kvs.length<Vr/\H'=upd H a (.dK (putK kvs k v))) \/
 ∃kvs k b,H a=some (.dT kvs)/\y=.ref b/\H b=some (.tup (k.map kV))/\kvs.length<Vr/\H'=upd H a (.dT (putK kvs k v))
theorem AG.k{H:Hp}{a:Vj}{kvs:List (Key×V)}{k:Key}(e:H a=some (.dK kvs)):AG H a (kV k) (kF kvs k):=.inl ⟨kvs,k,.inl e,rfl,rfl⟩
theorem Jf.k{H:Hp}{a:Vj}{kvs:List (Key×V)}{k:Key}{v:V}(e:H a=some (.dK kvs))(hl:kvs.length<Vr):Jf H a (kV k) v (upd H a (.dK (putK kvs k v))):=.inl ⟨kvs,k,e,rfl,hl,rfl⟩
theorem Jf.t{H:Hp}{a b:Vj}{kvs:List (List Key×V)}{k:List Key}{v:V}(e:H a=some (.dT kvs))(eb:H b=some (.tup (k.map kV)))(hl:kvs.length<Vr):
  Jf H a (.ref b) v (upd H a (.dT (putK kvs k v))):=.inr ⟨kvs,k,b,e,rfl,eb,hl,rfl⟩
section
variable{X:Cx}{pins:bh}{σ:St}{H:Hp}{s:Vm}{a:Vj}{y v:V}{u r:Vh}{o:Option V}{A:Vu}{E:bT}
theorem Inv.big(I:Inv X pins σ H s):sysModules<s.heap.objs.size:=by
 have h:Vs<s.heap.objs.size:=(I.mod.glob.keeps I.bk).lt;exact Sd (by decide) h
theorem yL{Q:bT}(hu:A.units+1<VX)(I:Inv X pins σ H s)(g:AG H a y (some v))(ry:RelV y u)(h:∀w' s',Inv X pins σ H s'->RelV v w'->Q w' s'):
  Vx (model X.prog X.w) A (getItem (.ref a) u) Q E s:=by
 rcases g with⟨kvs,k,e,ey,l⟩|⟨kvs,k,b,e,ey,eb,l⟩
 ·subst ey;obtain⟨z,hd,vs,rel,dd⟩:=xI I.hok e;obtain⟨w',hw,rw'⟩:=t7.some_of (v:=v) (o:=valueAt vs k) (by rw[l];exact rel.val k);exact wpAny_getItem_of (vg ry) dd.mapOf hw (h w' _ (I.tok _) rw')
 ·subst ey;cases(show u=Value.ref b from ry);obtain⟨z,hd,xs,rel,dd⟩:=uU I.hok e;obtain⟨w',hw,rw'⟩:=t7.some_of (v:=v) (o:=(atKey xs k).map (·.2)) (by rw[l];exact rel.val k);obtain⟨p,hp,hp2⟩:=Option.map_eq_some_iff.mp hw;refine wpAny_getItem_heap (Wb hu) (uN I.hok eb) dd hp ?_;rw[hp2];exact h w' _ (I.tok _) rw'
theorem Gb{Q:bT}(hu:A.units+1<VX)(I:Inv X pins σ H s)(g:AG H a y o)(ry:RelV y u)(h:∀s',Inv X pins σ H s'->Q (.bool (!o.isSome)) s'):
  Vx (model X.prog X.w) A (VB .NotIn u (.ref a)) Q E s:=by
 rcases g with⟨kvs,k,e,ey,l⟩|⟨kvs,k,b,e,ey,eb,l⟩
 ·subst ey;obtain⟨z,hd,vs,rel,dd⟩:=xI I.hok e;refine wpAny_notIn_of (vg ry) hd dd.mapOf ?_;rw[<-(rel.val k).isSome_eq,<-l];exact h _ (I.tok _)
 ·subst ey;cases(show u=Value.ref b from ry);obtain⟨z,hd,xs,rel,dd⟩:=uU I.hok e;refine wpAny_notIn_heap (Wb hu) (uN I.hok eb) hd dd ?_;have q:=(rel.val k).isSome_eq;rw[Sb]at q;rw[<-q,<-l];exact h _ (I.tok _)
theorem mZ{h':Vq}{t':Nat}{ob:HO}(I:Inv X pins σ H s)(mu:KH (H a))(hs:UX a s.heap h')(he:∃q,h'.get? a=some q)(new:cG X.prog X.w (upd H a ob) h' a ob):
  Inv X pins σ (upd H a ob) {s with heap:=h',toks:=t'}:=
 I.write (x:=a) (e:=a) mu (.inl rfl) (λb q hb z=>(hs.2 b hb).trans z) he new
theorem Du{P:Vo}{w:Vn}{H':Hp}{h':Vq}{kvs:List (Key×V)}{vs:List (Key×Vh)}(z:kvs.length<=Vr)(hd:(a==sysModules)=false)(rel:KV kvs vs)(dd:h'.DictOf (cw P w) a vs):
  cG P w H' h' a (.dK kvs):=⟨z,hd,vs,rel,dd⟩
theorem lE{H':Hp}{Q:Unit->dj}(hu:A.units+1<VX)(I:Inv X pins σ H s)(g:Jf H a y v H')(ry:RelV y u)(rv:RelV v r)(h:∀s',Inv X pins σ H' s'->Q () s'):
  Vx (model X.prog X.w) A (setItem (.ref a) u r) Q E s:=by
 rcases g with⟨kvs,k,e,ey,l,eH⟩|⟨kvs,k,b,e,ey,eb,l,eH⟩
 ·subst ey eH;obtain⟨z,hd,vs,rel,dd⟩:=BA I.hok e;have hz:vs.length<=Vr:=by rw[<-rel.length];exact z
  have hl:(putK kvs k v).length<=Vr:=by have:=ku kvs k v;omega
  refine wpAny_setItem_pairs (hsz:=hz) (vg ry) dd λh' dd' hs=>h _ ?_;have he:∃q,h'.get? a=some q:=let ⟨q,_,_,hq,_⟩:=dd';⟨q,hq⟩
  exact mZ I (by rw[e];exact True.intro) hs he (Du hl hd (rel.put k rv) dd')
 ·subst ey eH;cases(show u=Value.ref b from ry);obtain⟨z,hd,xs,rel,dd⟩:=Lc I.hok e;have hz:xs.length<=Vr:=by rw[<-Paired.length rel];exact z
  have hl:(putK kvs k v).length<=Vr:=by have:=ku kvs k v;omega
  refine wpAny_setItem_heap (hsz:=hz) (Wb hu) (uN I.hok eb) dd λh' dd' hs=>h _ ?_;obtain⟨q,es,ep,hq,h2,h3,h4,_,h5⟩:=dd';refine mZ I (by rw[e];exact True.intro) hs ⟨q,hq⟩ ⟨hl,hd,_,(rel.put k eb rv).keeps λc ys ec=>?_,q,es,ep,hq,h2,h3,h4,h5⟩;rw[aM (La ec e (λz=>nomatch z))];exact ec
end
noncomputable def GA(i:Vk):Prop:=∀ov iv,subscripted i false ov iv=operate [ov,iv] (getItem ov iv)
theorem FP{prog:Vo}{w:Vn}{A:Vu}{E:bT}{s:Vm}{env:Env}{value slice:Vk}{pos:Pos}{T id:String}{Q:bT}
  (hl:typeLookup (.type T) "__getitem__"=pure (some (.builtin id))) (hs:GA slice)
  (h:Vx (model prog w) A (eval value env) (λo s₁=>Vx (model prog w) A (eval slice env) (λi s₂=>s₂.TypeIs o T/\Vx (model prog w) A (getItem o i) Q E s₂) E s₁) E s):
  Vx (model prog w) A (eval (.Subscript value slice pos) env) Q E s:=by
 refine Subscript_ (Vz h (λo s₁ h₁=>Vz h₁ (λi s₂ h₂=>?_) λ_ _ x=>x) λ_ _ x=>x);obtain⟨hT,h₂⟩:=h₂;unfold subscriptTail;refine VF ?_;rw[getitemInPython_of_ne hT.not_modules];refine VF (wpAny_specialOf hT hl ?_);have fin:Vx (model prog w) A (subscripted slice false o i) (λr s₃=>Vx (model prog w) A (letTemporaryGo value o r >>= λ_=>pure r) Q E s₃) E s₂:=by
  rw[hs o i];exact wpAny_operating (Vz h₂ (λr s₃ h₃=>VF (wpAny_letTemporaryGo (VI h₃))) λ_ _ x=>x)
 first
  |exact VI (VF fin)
  |exact VF (VI (VF fin))
  |exact VF fin
theorem vR{X:Cx}{pins:bh}{σ:St}{H:Hp}{s:Vm}{a:Vj}{y:V}{o:Option V}(I:Inv X pins σ H s)(g:AG H a y o):s.TypeIs (.ref a) "dict":=by
 rcases g with⟨kvs,k,e,_,_⟩|⟨kvs,k,b,e,_,_,_⟩
 ·obtain⟨_,_,vs,_,dd⟩:=xI I.hok e;exact dd.typeIs
 ·obtain⟨_,_,xs,_,dd⟩:=uU I.hok e;exact dd.typeIs
noncomputable def Kw(td ty:TE):TE:=λσ H Q=>td σ H λx H1=>ty σ H1 λy H2=>∃a v,x=.ref a/\AG H2 a y (some v)/\Q v H2
section
variable{X:Cx}{o i e value:Vk}{pos pos' tpos:Pos}{td ty tv:TE}
theorem xZ(hu:X.A.units+1<VX)(ho:PE X o td)(hi:PE X i ty)(hs:GA i):PE X (.Subscript o i pos) (Kw td ty):=by
 intro pins s σ H Q I h;refine FP PySem.F.slot_dict_getitem.lookup hs (cE (ho pins s σ H _ I h) λu s1 ⟨x,H1,I1,rx,q1⟩=>cE (hi pins s1 σ H1 _ I1 q1) λiv s2 ⟨y,H2,I2,ry,a,v,ex,g,q2⟩=>?_);subst ex;obtain rfl:u=Value.ref a:=rx;exact⟨vR I2 g,yL hu I2 g ry λw' s3 I3 rw'=>⟨v,H2,I3,rw',q2⟩⟩
end
theorem C5{P:Vo}{w:Vn}{H:Hp}(h:Vq)(hb:sysModules<h.objs.size):cG P w H (h.push {cls:=.type "dict",data:=.dict #[]}) h.objs.size (.dK []):=
 ⟨RM _,beq_eq_false_iff_ne.mpr (Ne.symm (Rp hb)),[],.nil,Heap.DictOf.new h⟩
theorem CO{P:Vo}{w:Vn}{H:Hp}(h:Vq)(hb:sysModules<h.objs.size):cG P w H (h.push {cls:=.type "dict",data:=.dict #[]}) h.objs.size (.dT []):=
 ⟨RM _,beq_eq_false_iff_ne.mpr (Ne.symm (Rp hb)),[],.nil,_,#[],0,UZ _ rfl,⟨rfl,rfl,rfl⟩,rfl,rfl,Se⟩
noncomputable def IH:TE:=λ_ H Q=>∀p,H p=none->Q (.ref p) (upd H p (.dT []))
section
variable{X:Cx}{pos:Pos}
theorem Bz:PE X (.Dict [] [] pos) IH:=λpins s σ H Q I h=>
 wpAny_Dict_empty ⟨.ref s.heap.objs.size,_,I.laid (a:=s.heap.objs.size) (o:=.dT []) (t':=s.toks) (λ_ _ q=>UY _ q) (RB _) (CO s.heap I.big),rfl,h _ (I.hok.fresh (RB _))⟩
end
noncomputable def uD:List (TE×TE)->St->Hp->(List (V×V)->Hp->Prop)->Prop
 |[],_,H,Q=>Q [] H
 |(tk,tv)::r,σ,H,Q=>tk σ H λx H1=>tv σ H1 λy H2=>uD r σ H2 λps H3=>Q ((x,y)::ps) H3
noncomputable abbrev VV:List (V×V)->List (Vh×Vh)->Prop:=Vp λp q=>RelV p.1 q.1/\RelV p.2 q.2
noncomputable def Kk(X:Cx)(pos:Pos)(keys:List (Option Vk))(values:bx)(trs:List (TE×TE)):Prop:=
 ∀(pins:bh)(s:Vm)(σ:St)(H:Hp)(Q:List (V×V)->Hp->Prop),Inv X pins σ H s->uD trs σ H Q->
  Vx (model X.prog X.w) X.A (evalPairs (pairTrees keys values X.env pos)) (λvs s'=>∃ps H',Inv X pins σ H' s'/\VV ps vs/\Q ps H') X.xe s
theorem pP{X:Cx}{pos:Pos}:Kk X pos [] [] []:=λpins s σ H Q I h=>pairTrees_nil_walk ⟨[],H,I,.nil,h⟩
theorem hZ{X:Cx}{pos:Pos}{k v:Vk}{ks:List (Option Vk)}{vs:bx}{tk tv:TE}{trs:List (TE×TE)}(hk:PE X k tk)(hv:PE X v tv)(hr:Kk X pos ks vs trs):
  Kk X pos (some k::ks) (v::vs) ((tk,tv)::trs):=λpins s σ H Q I h=>
 pairTrees_cons_walk (cE (hk pins s σ H _ I h) λu s1 ⟨x,H1,I1,rx,q1⟩=>cE (hv pins s1 σ H1 _ I1 q1) λw2 s2 ⟨y,H2,I2,ry,q2⟩=>
  cE (hr pins s2 σ H2 _ I2 q2) λws s3 ⟨ps,H3,I3,rel,q3⟩=>⟨(x,y)::ps,H3,I3,.cons ⟨rx,ry⟩ rel,q3⟩)
noncomputable def jF(kvs more:List (Key×V)):List (Key×V):=more.foldl (λacc kv=>putK acc kv.1 kv.2) kvs
theorem KV.merge:∀{more:List (Key×V)}{rs:List (Key×Vh)}{kvs:List (Key×V)}{vs:List (Key×Vh)},KV more rs->KV kvs vs->KV (jF kvs more) (merged vs rs):=by
 intro more rs kvs vs r;unfold KV at r
 induction r generalizing kvs vs with
 |nil=>intro q;exact q
 |@cons p q ps qs h t ih=>
  intro r0;have e:KV (putK kvs p.1 p.2) (stored vs q.1 q.2):=by
   have:=r0.put p.1 h.2
   rw[<-h.1];exact this
  exact ih e
theorem mh:∀(more kvs:List (Key×V)),(jF kvs more).length<=kvs.length+more.length
 |[],kvs=>by show kvs.length<=kvs.length+0;omega
 |p::r,kvs=>by
  have h1:=mh r (putK kvs p.1 p.2);have h2:=ku kvs p.1 p.2;show(jF (putK kvs p.1 p.2) r).length<=_;rw[RG];omega
theorem rj{P:Vo}{w:Vn}:∀{kvs:List (Key×V)}{ws:List (Vh×Vh)},VV (kvs.map λkv=>(kV kv.1,kv.2)) ws->∃rs,Carries (cw P w) ws rs/\KV kvs rs
 |[],_,r=>by rw[R7]at r;cases r;exact⟨[],True.intro,.nil⟩
 |p::kvs,_,r=>by
  rw[RH]at r;cases r with
  |@cons a b as bs h t=>
   obtain⟨rs,c,q⟩:=rj (P:=P) (w:=w) t;obtain⟨b1,b2⟩:=b;exact⟨(p.1,b2)::rs,⟨vg h.1,rfl,c⟩,.cons ⟨rfl,h.2⟩ q⟩
noncomputable def Lz(trs:List (TE×TE)):TE:=λσ H Q=>∀p,H p=none->uD trs σ (upd H p (.dK [])) λps H2=>H2 p=some (.dK [])/\∃kvs:List (Key×V),ps=kvs.map (λkv=>(kV kv.1,kv.2))/\kvs.length<=15/\Q (.ref p) (upd H2 p (.dK (jF [] kvs)))
theorem yH{X:Cx}{pos:Pos}{keys:List (Option Vk)}{values:bx}{trs:List (TE×TE)}(h:Kk X pos keys values trs)(hall:keys.all (·.isSome)=true)(hl:keys.length=values.length)(h0:keys≠[])
  (h15:keys.length<=15):PE X (.Dict keys values pos) (Lz trs):=by
 intro pins s σ H Q I q;have hn:=I.hok.fresh (RB s.heap.objs.size);have I1:=I.laid (a:=s.heap.objs.size) (o:=.dK []) (h':=s.heap.push {cls:=.type "dict",data:=.dict #[]}) (t':=s.toks) (λ_ _ q=>UY _ q) (RB _) (C5 s.heap I.big);refine wpAny_Dict_walk (knd:=cw X.prog X.w) hall hl h0 h15 (cE (h pins _ σ _ _ I1 (q _ hn)) λws s2 ⟨ps,H2,I2,rel,e,kvs,ep,lk,q2⟩=>?_);subst ep;obtain⟨rs,c,rk⟩:=rj (P:=X.prog) (w:=X.w) rel;obtain⟨z,hd,vs0,r0,dd⟩:=BA I2.hok e;cases r0;refine⟨rs,c,dd,λh' dd' hs=>⟨.ref s.heap.objs.size,_,?_,rfl,q2⟩⟩;have hz:(jF [] kvs).length<=Vr:=by
  have h1:=mh kvs [];rw[Sa]at h1;rw[VQ];omega
 have he:∃q,h'.get? s.heap.objs.size=some q:=let ⟨q,_,_,hq,_⟩:=dd';⟨q,hq⟩
 exact mZ I2 (by rw[e];exact True.intro) hs he (Du hz hd (rk.merge .nil) dd')
noncomputable def cS(cells:oM):ql->oM->oM
 |[],acc=>acc
 |(n,k)::r,acc=>if k=.free then(match cells.lookup n with|some c=>cS cells r ((n,c)::acc)|none=>cS cells r acc)else cS cells r acc
theorem lA{cells:oM}:∀(names:ql)(acc:oM),(∀x c,acc.lookup x=some c->cells.lookup x=some c)->
  ∀x c,(cS cells names acc).lookup x=some c->cells.lookup x=some c
 |[],acc,h=>h
 |(n,k)::r,acc,h=>by
  unfold cS;by_cases hk:k=.free
  ·rw[if_pos hk];cases e:cells.lookup n with
   |none=>exact lA r acc h
   |some c0=>
    refine lA r _ λx c q=>?_;rw[Sf]at q;cases hx:x==n with
    |true=>
     rw[hx]at q;have e1:x=n:=(by simpa using hx);cases q;rw[e1];exact e
    |false=>rw[hx]at q;exact h x c q
  ·rw[if_neg hk];exact lA r acc h
theorem jw{cells:oM}:∀(names:ql)(acc:oM)(x:Str),(acc.lookup x).isSome=true->((cS cells names acc).lookup x).isSome=true
 |[],acc,x,h=>h
 |(n,k)::r,acc,x,h=>by
  unfold cS;by_cases hk:k=.free
  ·rw[if_pos hk];cases e:cells.lookup n with
   |none=>exact jw r acc x h
   |some c0=>
    refine jw r _ x ?_;rw[Sf];cases hx:x==n with
    |true=>rfl
    |false=>exact h
  ·rw[if_neg hk];exact jw r acc x h
theorem jn{cells:oM}:∀(names:ql)(acc:oM)(x:Str),(x,NameKind.free)∈names->(∃c,cells.lookup x=some c)->((cS cells names acc).lookup x).isSome=true
 |[],acc,x,h,_=>absurd h (by simp)
 |(n,k)::r,acc,x,h,hc=>by
  unfold cS;rcases List.mem_cons.mp h with e|h
  ·cases e;rw[if_pos rfl];obtain⟨c,e⟩:=hc;rw[e];refine jw r _ _ ?_;rw[Sf];simp
  ·by_cases hk:k=.free
   ·rw[if_pos hk];cases e:cells.lookup n with
    |none=>exact jn r acc x h hc
    |some c0=>exact jn r _ x h hc
   ·rw[if_neg hk];exact jn r acc x h hc
theorem m9{scope:Vv}{env:Env}(h:∀p∈scope.names,p.2=.free->∃c,env.cells.lookup p.1=some c):closureFor scope env=pure (cS env.cells scope.names []):=by
 have go:∀(names:ql)(acc:oM),(∀p∈names,p.2=.free->∃c,env.cells.lookup p.1=some c)->
   (forIn names acc λx cs=>(match x with|(name,kind)=>if(kind==NameKind.free)=true then do let a<-cellOf env name;pure (ForInStep.yield ((name,a)::cs))else pure (ForInStep.yield cs):Sem (ForInStep oM)))=pure (cS env.cells names acc):=by
  intro names
  induction names with
  |nil=>intro acc _;rfl
  |cons p r ih=>
   intro acc hp;obtain⟨n,k⟩:=p;rw[Sg];by_cases hk:k=.free
   ·obtain⟨c,e⟩:=hp (n,k) Ru hk;subst hk;have e2:cellOf env n=pure c:=(by unfold cellOf;rw[e]);simp only[beq_self_eq_true,if_true,e2,pure_bind];rw[ih _ λq hq=>hp q (Rv _ hq)]
    conv=>rhs;rw[cS]
    simp[e]
   ·have hb:(k==NameKind.free)=false:=(by simpa using hk);simp only[hb,Si,if_false,pure_bind];rw[ih _ λq hq=>hp q (Rv _ hq)]
    conv=>rhs;rw[cS,if_neg hk]
 have:=go scope.names [] h
 unfold closureFor;simp only[];rw[this];rfl
noncomputable def cv(X:Cx)(scope:Vv)(N:av)(cl:oM)(C:Vj)(fp:aA)(s:Vm)(H:Hp)(E:bT):Cx where
 prog:=X.prog
 w:=X.w
 K:=X.K
 mg:=X.mg
 base:=X.base
 A:=X.A
 N:=N
 s₀:=s
 H₀:=H
 env:=compEnvC scope cl C X.env
 outer:=X.stack
 stack:=X.stack
 ex:=fp
 fn:=λ_=>false
 calm:=X.calm
 pn:=[]
 xe:=E
noncomputable def uq(XN N:av)(names:ql)(ix:gx):Bool:=
 decide (ix.length=N.length)&&(N.zip ix).all λp=>match p.2 with
  |some i=>decide (XN[i]?=some p.1)&&decide (names.lookup p.1=some .free)
  |none=>true
noncomputable def inBlock(ix:gx)(σ:St):St:=ix.map λo=>match o with
 |some i=>(σ[i]?).getD none
 |none=>none
theorem uq.len{XN N:av}{names:ql}{ix:gx}(h:uq XN N names ix=true):ix.length=N.length:=by
 unfold uq at h;rw[R3]at h;exact of_decide_eq_true h.1
theorem uq.at_{XN N:av}{names:ql}{ix:gx}(h:uq XN N names ix=true){j i:Nat}{x:Str}(h1:N[j]?=some x)(h2:ix[j]?=some (some i)):XN[i]?=some x/\names.lookup x=some .free:=by
 unfold uq at h;rw[R3]at h;have hm:(x,some i)∈N.zip ix:=by
  have e:(N.zip ix)[j]?=some (x,some i):=by rw[List.getElem?_zip_eq_some];exact⟨h1,h2⟩
  exact RY e
 have q:=List.all_eq_true.mp h.2 _ hm;simp only[R3]at q;exact⟨of_decide_eq_true q.1,of_decide_eq_true q.2⟩
theorem kq{env:Env}:∀{names:ql}{x:Str}{k:Vi},
  (names.map λ(n,k)=>if(k==NameKind.free&&env.scope.kind==.function&&env.kindOf n==some .cell)then(n,NameKind.cell)else(n,k)).lookup x=some k->
  names.lookup x=some k\/(names.lookup x=some .free/\k=.cell)
 |[],_,_,h=>by simp at h
 |(n,k0)::r,x,k,h=>by
  have ih:=@kq env r x k
  replace h:List.lookup x ((if(k0==NameKind.free&&env.scope.kind==.function&&env.kindOf n==some .cell)=true then(n,NameKind.cell)else(n,k0))::(r.map λ(n,k)=>if(k==NameKind.free&&env.scope.kind==.function&&env.kindOf n==some .cell)then(n,NameKind.cell)else(n,k)))=some k:=h
  by_cases hc:(k0==NameKind.free&&env.scope.kind==.function&&env.kindOf n==some .cell)=true
  ·rw[if_pos hc]at h;have hk0:k0=.free:=by
    simp only[R3]at hc
    simpa using hc.1.1
   cases hx:x==n with
   |true=>
    simp only[Sf,hx]at h;simp only[Sf,hx];cases h;exact .inr ⟨by rw[hk0],rfl⟩
   |false=>
    simp only[Sf,hx]at h ⊢;exact ih h
  ·rw[if_neg hc]at h;cases hx:x==n with
   |true=>
    simp only[Sf,hx]at h ⊢;exact .inl h
   |false=>
    simp only[Sf,hx]at h ⊢;exact ih h
noncomputable def JQ(X:Cx)(ifs:bx)(t:TT):Prop:=
 ∀(pins:bh)(s:Vm)(σ:St)(H:Hp)(Q:Bool->Hp->Prop),Inv X pins σ H s->t σ H Q->
  Vx (model X.prog X.w) X.A (forIn ifs true λc r=>if r=true then do let ok<-isTrue c X.env (eval c X.env);pure (ForInStep.yield ok)else pure (ForInStep.yield r)) (TP X pins σ Q) X.xe s
noncomputable def K2:TT:=λ_ H Q=>Q true H
theorem GC{X:Cx}:JQ X [] K2:=λ_ _ _ H _ I h=>wpAny_tests_nil ⟨H,I,h⟩
theorem GR{X:Cx}{c:Vk}{t:TT}(h:PT X c t):JQ X [c] t:=λpins s σ H Q I q=>wpAny_tests_one (h pins s σ H Q I q)
theorem kr{prog:Vo}{w:Vn}{A:Vu}{R:Result->dj}{s:Vm}{elt target iter:Vk}{ifs:bx}{scope:Vv}{pos:Pos}{it acc:Vh}{env:Env}(I:Nat->dj)
  (turn:∀ n s,I n s->Vx (model prog w) A (pyNext it) (fun r s₁=>match r with
   |none=>R (.ok .next) s₁
   |some v=>Vx (model prog w) A (letOwnedTupleGo target it v) (λ_ s₁'=>Vx (model prog w) A (assign target env v) (λ_ s₂=>
     Vx (model prog w) A (forIn ifs true λc r=>if r=true then do let ok<-isTrue c env (eval c env);pure (ForInStep.yield ok)else pure (ForInStep.yield r)) (λok s₃=>
      if ok=true then Vx (model prog w) A (eval elt env) (λx s₄=>
       Vx (model prog w) A (call (.builtin "list.append") [acc,x]) (λ_ s₅=>∃m,m<n/\I m s₅) (notedBy (model prog w) A env λe s'=>R (.error e) s') s₄) (notedBy (model prog w) A env λe s'=>R (.error e) s') s₃
      else∃m,m<n/\I m s₃) (notedBy (model prog w) A env λe s'=>R (.error e) s') s₂) (notedBy (model prog w) A env λe s'=>R (.error e) s') s₁') (notedBy (model prog w) A env λe s'=>R (.error e) s') s₁) (notedBy (model prog w) A env λe s'=>R (.error e) s') s)
  (n:Nat) (h:I n s):
  VR (model prog w) A (.compLoop (.ListComp elt [⟨target,iter,ifs,0⟩] scope pos) 0 it acc env) R s:=by
 refine codeAny_loop rfl I (λn s hI=>?_) n h;show Vx _ A ((compTurn (.ListComp elt [⟨target,iter,ifs,0⟩] scope pos) 0 it acc env).onRaise (λx=>do noteFrame x env;theTreesLotGoes x)) _ _ s;refine wpAny_noted ?_;rw[compTurn_list];refine VF (VH (VF (Vz (turn n s hI) (λr s₁ h₁=>?_) λ_ _ h'=>h')));cases r with
 |none=>exact VI h₁
 |some v=>
  refine VF (Vz h₁ (λ_ s₁' h₁'=>?_) λ_ _ h'=>h');refine VF (Vz h₁' (λ_ s₂ h₂=>VF (Vz h₂ (λok s₃ h₃=>?_) λ_ _ h'=>h')) λ_ _ h'=>h');cases ok with
  |false=>exact VI ⟨rfl,h₃⟩
  |true=>
   exact VF (VF (Vz h₃ (λx s₄ h₄=>VF (Vz h₄ (λ_ s₅ h₅=>VI (VI ⟨rfl,h₅⟩)) λ_ _ h'=>h')) λ_ _ h'=>h'))
noncomputable def Mw(wi:TI)(g:TG)(tc:TT)(te:TE)(ix:gx):TE:=λσ H Q=>
 wi σ H λJ H1=>∀D,H1 D=none->∃W:Nat->Nat->St->Hp->Prop,(∃m,W 0 m (inBlock ix σ) (upd H1 D (.lst [])))/\
  ∀i m σ' H',W i m σ' H'->(J.stop i H'/\Q (.ref D) H') \/
   (J.go i H'/\∀ x H2,J.yld i H' x H2->g x σ' H2 fun σ3 H3=>tc σ3 H3 fun b H4 =>
    if b=true then te σ3 H4 λv H5=>∃acc,H5 D=some (.lst acc)/\acc.length<Vr/\∃m',m'<m/\W (i+1) m' σ3 (upd H5 D (.lst (acc++[v])))
    else∃m',m'<m/\W (i+1) m' σ3 H4)
section
variable{X:Cx}{elt tg iter:Vk}{ifs:bx}{scope:Vv}{pos:Pos}{N:av}{ix:gx}{wi:TI}{g:TG}{tc:TT}{te:TE}
theorem qQ{pins:bh}{σ:St}{s2:Vm}{H2:Hp}{it:Vj}{fp:aA}{tn:Nat->Vq->Prop}{J:It}{Q:V->Hp->Prop}{E:bT}{RR:Vh->Vj->Result->dj}
    (hc:X.calm=true) (hcell:∀y∈scope.names,y.2≠.cell) (hkind:scope.kind=.function)
    (hfr:∀y∈scope.names,y.2=.free->X.env.scope.names.lookup y.1=some .cell\/X.env.scope.names.lookup y.1=some .free)
    (hix:uq X.N N scope.names ix=true)
    (hb:∀cl C fp s H E,PG (cv X scope N cl C fp s H E) tg g/\JQ (cv X scope N cl C fp s H E) ifs tc/\PE (cv X scope N cl C fp s H E) elt te)
    (I2:Inv X pins σ H2 s2) (T:Turn X.prog X.w X.K tg J fp it tn) (st2:tn 0 s2.heap) (f2:∀b∈fp,rA X pins H2 b)
    (q:∀ D,H2 D=none->∃ W:Nat->Nat->St->Hp->Prop,(∃ m,W 0 m (inBlock ix σ) (upd H2 D (.lst []))) /\
      ∀i m σ' H',W i m σ' H'->(J.stop i H'/\Q (.ref D) H') \/
        (J.go i H'/\∀ x H3,J.yld i H' x H3->g x σ' H3 fun σ3 H3=>tc σ3 H3 fun b H4 =>
          if b=true then te σ3 H4 λv H5=>∃acc,H5 D=some (.lst acc)/\acc.length<Vr/\∃m',m'<m/\W (i+1) m' σ3 (upd H5 D (.lst (acc++[v])))
          else∃m',m'<m/\W (i+1) m' σ3 H4))
    (hRR:∀D C H' s' m,H2 D=none->s2.heap.objs.size<=C->H' C=none->s'.heap.Ns C m->(∀h',UX C s'.heap h'->Inv X pins σ H' {s' with heap:=h'})->Q (.ref D) H'->RR (.ref D) C (.ok .next) s'):
    Vx (model X.prog X.w) X.A (newList []) (λacc s₃=>Vx (model X.prog X.w) X.A (newFunctionEnv scope X.env.globals (cS X.env.cells scope.names []) [] X.env.qual none .none (some X.env)) (λcenv s₄=>
      VR (model X.prog X.w) X.A (.compStart (.ListComp elt [⟨tg,iter,ifs,0⟩] scope pos) 0 (.ref it) acc {cenv with scope:=relabel scope X.env}) (RR acc cenv.locals) s₄) E s₃) E s2:=by
  refine Wa (wpAny_newFunctionEnv hcell (by intro y hy;simp at hy) (λh₁ hns₁ hsb₁=>?_) hkind);dsimp only at hns₁ hsb₁ ⊢;have I3:Inv X pins σ (upd H2 s2.heap.objs.size (.lst [])) {s2 with heap:=s2.heap.push {cls:=.type "list",dict:=none,data:=.seq ([]:bc).toArray},toks:=s2.toks}:=I2.lnew (its:=[]) (t':=s2.toks) .nil (RM _);generalize hs3:({s2 with heap:=s2.heap.push {cls:=.type "list",dict:=none,data:=.seq ([]:bc).toArray},toks:=s2.toks}:Vm)=s3 at I3;have eh3:s2.heap.push {cls:=.type "list",dict:=none,data:=.seq ([]:bc).toArray}=s3.heap:=by rw[<-hs3]
  rw[eh3]at hns₁ hsb₁ ⊢;have hC3:s3.heap.objs.size=s2.heap.objs.size+1:=by rw[<-eh3,U0]
  have hD:H2 s2.heap.objs.size=none:=I2.fresh;obtain⟨W,⟨m0,w0⟩,turn⟩:=q s2.heap.objs.size hD;generalize hH3:upd H2 s2.heap.objs.size (.lst [])=H3 at I3 w0;have old:∀b o,s3.heap.get? b=some o->h₁.get? b=some o:=λb o e=>hsb₁.extBut b o (Rp (UW e)) (UY _ e);have fpH3:∀b∈fp,H3 b=none:=λb hb'=>by
    rw[<-hH3,aM]
    ·exact(f2 b hb').1
    · obtain⟨o,e,_⟩:=T.obj _ _ st2 b hb'
      exact Rp (UW e)
  have fpLt:∀b∈fp,b<s3.heap.objs.size:=λb hb'=>by
    obtain⟨o,e,_⟩:=T.obj _ _ st2 b hb';rw[hC3];exact Sj (UW e)
  have hfree:∀p∈scope.names,p.2=.free->∃c,X.env.cells.lookup p.1=some c:=λp hp hk=>I2.ok.has p.1 (hfr p hp hk);have csub:∀x c,(cS X.env.cells scope.names []).lookup x=some c->X.env.cells.lookup x=some c:=lA scope.names [] (λx c e=>by simp at e);have names':∀x k,(relabel scope X.env).names.lookup x=some k->scope.names.lookup x=some k\/(scope.names.lookup x=some .free/\k=.cell):=λx k h=>kq h;have ok:(cv X scope N (cS X.env.cells scope.names []) s3.heap.objs.size fp s3 H3 (notedBy (model X.prog X.w) X.A (compEnvC scope (cS X.env.cells scope.names []) s3.heap.objs.size X.env) λe s'=>RR (.ref s2.heap.objs.size) s3.heap.objs.size (.error e) s')).Ok:=
    { mod:=I3.ok.mod
      kind:=hkind
      glob:=I3.ok.glob
      blt:=I3.ok.blt
      above:=RB _
      inj:=λx y c h1 h2=>I3.ok.inj x y c (csub x c h1) (csub y c h2)
      has:=λx hx=>by
        have fr:scope.names.lookup x=some .free:=by
          rcases hx with hx|hx
          · rcases names' x .cell hx with h|⟨h,_⟩
            ·exact absurd rfl (hcell _ (PySem.mem_of_lookup h))
            ·exact h
          · rcases names' x .free hx with h|⟨_,h⟩
            ·exact h
            ·cases h
        have hm:=PySem.mem_of_lookup fr;exact Option.isSome_iff_exists.mp (jn scope.names [] x hm (hfree _ hm rfl))
      cab:=λx c h _=>by cases h
      hd:=I3.ok.hd
      frames:=I3.ok.frames
      stk:=.inl rfl
      exf:=λb hb'=>⟨Rp (fpLt b hb'),λx c e=>(f2 b hb').2.2.2.2.1 x c (csub x c e)⟩
      bs:=λb o e=>I3.bs b o e
      bsz:=Rq I3.ok.bsz I3.sz
      noex:=λb o e hb'=>by
        obtain⟨_,_,_,h4,_⟩:=f2 b hb';rcases h4 with h4|h4
        ·exact I3.ok.noex b o e h4
        ·exact absurd (Rm (UW (I3.ok.bs b o e).1) h4) (Ro _)
      exfs:=λb hb' hs=>by
        obtain⟨_,h2,h3,_⟩:=f2 b hb';rcases List.mem_cons.mp (I3.stkSub b hs)with e|e
        ·exact h2 e
        ·exact h3 e
      funs:=I3.stack
      frf:=λb hb'=>I3.stkFree b hb'}
  generalize hE:(notedBy (model X.prog X.w) X.A (compEnvC scope (cS X.env.cells scope.names []) s3.heap.objs.size X.env) λe s'=>RR (.ref s2.heap.objs.size) s3.heap.objs.size (.error e) s')=E' at ok;obtain⟨hg,htc,hel⟩:=hb (cS X.env.cells scope.names []) s3.heap.objs.size fp s3 H3 E';have Istart:∀tk,Inv (cv X scope N (cS X.env.cells scope.names []) s3.heap.objs.size fp s3 H3 E') [] (inBlock ix σ) H3 {s3 with heap:=h₁,toks:=tk}:=λtk=>by
    refine⟨ok,rfl,I3.bare,Un.kept old,⟨_,hns₁,λj x v e1 e2 _=>?_⟩,λx c e=>?_,I3.fresh,λx c e=>I3.freeC x c (csub x c e),λp hp=>absurd (show p∈([]:bh)from hp) (by simp),I3.hok.kept old,?_⟩
    ·
      unfold inBlock at e2;rw[RX]at e2;cases q1:ix[j]? with
      |none=>rw[q1]at e2;simp at e2
      |some o=>
        rw[q1]at e2;cases o with
        |none=>simp at e2
        |some i=>
          obtain⟨n1,n2⟩:=uq.at_ hix e1 q1;have e2':(σ[i]?).getD none=some v:=Option.some.inj e2;have e3:σ[i]?=some (some v):=by
            cases q2:σ[i]? with
            |none=>rw[q2]at e2';simp at e2'
            |some o2=>rw[q2]at e2';simpa using e2'
          obtain⟨m,hn,hl⟩:=I3.loc;have hm:=PySem.mem_of_lookup n2;have hk:=hfr _ hm rfl;have hv:Kh X.env.scope x:=by
            rcases hk with hk|hk
            ·exact .inr (.inl hk)
            ·exact .inr (.inr hk)
          obtain⟨u,r,l⟩:=hl i x v n1 e3 hv;refine⟨u,r,.inr ?_⟩;rcases l with⟨kl,_⟩|⟨_,c,hcx,hcell'⟩
          · have kl':X.env.scope.names.lookup x=some .local:=kl
            rcases hk with hk|hk
            ·rw[kl']at hk;cases hk
            ·rw[kl']at hk;cases hk
          · obtain⟨c',hc'⟩:=Option.isSome_iff_exists.mp (jn (cells:=X.env.cells) scope.names [] x hm ⟨c,hcx⟩)
            have ec:c'=c:=Option.some.inj ((csub x c' hc').symm.trans hcx);subst ec;refine⟨?_,c',hc',?_⟩
            ·
              show(relabel scope X.env).names.lookup x=some .cell\/(relabel scope X.env).names.lookup x=some .free;have gen:∀names:ql,names.lookup x=some .free->((names.map λ(n,k)=>if(k==NameKind.free&&X.env.scope.kind==.function&&X.env.kindOf n==some .cell)then(n,NameKind.cell)else(n,k)).lookup x=some .cell\/(names.map λ(n,k)=>if(k==NameKind.free&&X.env.scope.kind==.function&&X.env.kindOf n==some .cell)then(n,NameKind.cell)else(n,k)).lookup x=some .free):=by
                intro names
                induction names with
                |nil=>intro h;simp at h
                |cons p r ih=>
                  obtain⟨n,k⟩:=p;intro h;show List.lookup x ((if(k==NameKind.free&&X.env.scope.kind==.function&&X.env.kindOf n==some .cell)=true then(n,NameKind.cell)else(n,k))::_)=_\/List.lookup x ((if(k==NameKind.free&&X.env.scope.kind==.function&&X.env.kindOf n==some .cell)=true then(n,NameKind.cell)else(n,k))::_)=_;cases hx:x==n with
                  |true=>
                    simp only[Sf,hx]at h;by_cases hcc:(k==NameKind.free&&X.env.scope.kind==.function&&X.env.kindOf n==some .cell)=true
                    ·rw[if_pos hcc];left;simp only[Sf,hx]
                    ·rw[if_neg hcc];right;simp only[Sf,hx];exact h
                  |false=>
                    simp only[Sf,hx]at h;by_cases hcc:(k==NameKind.free&&X.env.scope.kind==.function&&X.env.kindOf n==some .cell)=true
                    ·rw[if_pos hcc];simp only[Sf,hx];exact ih h
                    ·rw[if_neg hcc];simp only[Sf,hx];exact ih h
              exact gen scope.names n2
            ·exact hcell'.keeps old
    · obtain⟨v,z⟩:=I3.cell x c (csub x c e)
      exact⟨v,z.keeps old⟩
    · show(inBlock ix σ).length=N.length
      unfold inBlock;rw[RJ];exact uq.len hix
  have stat:∀{H':Hp},(∀b∈fp,H' b=none)->∀b∈fp,rA (cv X scope N (cS X.env.cells scope.names []) s3.heap.objs.size fp s3 H3 E') [] H' b:=λhn b hb'=>
    ⟨hn b hb',(ok.exf b hb').1,ok.exfs b hb',.inl hb',(ok.exf b hb').2,λp hp=>absurd (show p∈([]:bh)from hp) (by simp)⟩
  have tn1:tn 0 h₁:=T.keep _ _ _ st2 λb hb' o e=>old b o (by rw[<-eh3];exact UY _ e);have loop:∀tk,VR (model X.prog X.w) X.A (.compLoop (.ListComp elt [⟨tg,iter,ifs,0⟩] scope pos) 0 (.ref it) (.ref s2.heap.objs.size) (compEnvC scope (cS X.env.cells scope.names []) s3.heap.objs.size X.env))
      (RR (.ref s2.heap.objs.size) s3.heap.objs.size) {s3 with heap:=h₁,toks:=tk}:=by
    intro tk;refine kr (λn s'=>∃i σ' H',Inv (cv X scope N (cS X.env.cells scope.names []) s3.heap.objs.size fp s3 H3 E') [] σ' H' s'/\tn i s'.heap/\(∀b∈fp,H' b=none)/\W i n σ' H') ?_ m0 ⟨0,_,_,Istart tk,tn1,fpH3,w0⟩;rintro n s5 ⟨i,σ5,H5,I5,st5,fr5,w5⟩;rw[hE];rcases turn i n σ5 H5 w5 with⟨stop,qn⟩|⟨go,step⟩
    · refine cE (T.done (cv X scope N (cS X.env.cells scope.names []) s3.heap.objs.size fp s3 H3 E') rfl rfl rfl hc i [] s5 σ5 H5 _ I5 (stat fr5) st5 stop) λr s6 ⟨hr,I6⟩=>?_
      subst hr;obtain⟨m6,hn6,_⟩:=I6.loc;refine hRR s2.heap.objs.size s3.heap.objs.size H5 s6 m6 hD (by rw[hC3];exact RO _) I6.free hn6 (λh' sb=>?_) qn;have ne:∀b o,s3.heap.get? b=some o->b≠s3.heap.objs.size:=λb o e=>Rp (UW e);refine I3.call' (s':={s6 with heap:=h'}) (H':=H5) (ch:=fp) I6.os ⟨λb o e n hb' hx=>?_,λb o e n hb' hx=>?_,λb o e n hx=>?_,λb o e hx=>?_,I6.base.tups,I6.base.frzs,I6.base.tbls⟩ ?_ I6.bare λb hb'=>?_
      ·exact(sb.2 b (ne b o e)).trans (I6.base.keep b o e n hb' hx)
      · obtain⟨sl,e1⟩:=I6.base.slot b o e n hb' hx
        exact⟨sl,(sb.2 b (ne b o e)).trans e1⟩
      ·exact I6.base.free b o e n hx
      · obtain⟨o',e1⟩:=I6.base.there b o e hx
        exact⟨o',(sb.2 b (ne b o e)).trans e1⟩
      · intro b ob e
        have hfreeC:H5 s3.heap.objs.size=none:=I6.free;refine(I6.hok b ob e).stay (λc v hcc q=>(sb.2 c ?_).trans q) (λ_ q=>q) λ_ _ q=>q;rintro rfl;rcases hcc with rfl|hcc
        ·rw[hfreeC]at e;cases e
        ·rw[hfreeC]at hcc;cases hcc
      · obtain⟨_,h2',_,h4',h5',h6'⟩:=f2 b hb'
        exact⟨h4',h2',h5',h6'⟩
    · refine cE (T.item (cv X scope N (cS X.env.cells scope.names []) s3.heap.objs.size fp s3 H3 E') rfl rfl rfl hc i [] s5 σ5 H5 _ I5 (stat fr5) st5 go) λr s6 ⟨u,hr,h6⟩=>?_
      subst hr;refine cE h6 λ_ s7 ⟨x,H7,I7,r7,y7,st7,fr7⟩=>?_;have I7':=I7.pinned (stat fr7) (T.obj _ _ st7);refine cE (hg _ s7 σ5 H7 x u _ I7' r7 (step x H7 y7)) λ_ s8 ⟨σ8,H8,I8,q8⟩=>?_;refine cE (htc _ s8 σ8 H8 _ I8 q8) λb s9 ⟨H9,I9,q9⟩=>?_;have again:∀{σ':St}{H':Hp}{s':Vm}{m':Nat},Inv (cv X scope N (cS X.env.cells scope.names []) s3.heap.objs.size fp s3 H3 E') ([]++rd fp s7.heap) σ' H' s'->m'<n->W (i+1) m' σ' H'->
          ∃m,m<n/\∃i σ' H',Inv (cv X scope N (cS X.env.cells scope.names []) s3.heap.objs.size fp s3 H3 E') [] σ' H' s'/\tn i s'.heap/\(∀b∈fp,H' b=none)/\W i m σ' H':=λ{σ' H' s' m'} I' hm w'=>by
        refine⟨m',hm,i+1,σ',H',I'.unpinned,T.keep _ _ _ st7 λb hb' o e=>(I'.pin (b,o) (RC _ (RC _ (jI hb' e)))).1,λb hb'=>?_,w'⟩;obtain⟨o,e,d⟩:=T.obj _ _ st7 b hb';exact(I'.pin (b,o) (RC _ (RC _ (jI hb' e)))).2.1
      cases b with
      |false=>
        rw[if_neg RF]at q9 ⊢;obtain⟨m',hm,w9⟩:=q9;exact again I9 hm w9
      |true=>
        rw[if_pos rfl]at q9 ⊢;refine cE (hel _ s9 σ8 H9 _ I9 q9) λy s10 ⟨v,H10,I10,r10,q10⟩=>?_;obtain⟨acc,ha,hz,m',hm,w10⟩:=q10;refine cE (sI _ s10 σ8 H10 (.ref s2.heap.objs.size) [v] (.ref s2.heap.objs.size) [y] (λ_ H'=>H'=upd H10 s2.heap.objs.size (.lst (acc++[v]))) I10 rfl (.cons r10 .nil) ⟨_,acc,v,rfl,rfl,ha,hz,rfl⟩) λ_ s11 ⟨_,H11,I11,_,Nb⟩=>?_;subst Nb;exact again I11 hm w10
  subst hs3;exact codeAny_compStart_list (loop _) (T.self _ 0 _ _ _ tn1 (loop _))
theorem He(hc:X.calm=true)(hcell:∀y∈scope.names,y.2≠.cell)(hkind:scope.kind=.function)(hnames:∀y∈scope.names,y.2=.local->scope.names.lookup y.1=some .local)
  (hfr:∀y∈scope.names,y.2=.free->X.env.scope.names.lookup y.1=some .cell\/X.env.scope.names.lookup y.1=some .free)
  (hix:uq X.N N scope.names ix=true) (hi:PI X tg iter wi)
  (hb:∀cl C fp s H E,PG (cv X scope N cl C fp s H E) tg g/\JQ (cv X scope N cl C fp s H E) ifs tc/\PE (cv X scope N cl C fp s H E) elt te)
  (hs:∀x,VN iter X.env x=pure x:=by intro _;rfl):PE X (.ListComp elt [⟨tg,iter,ifs,0⟩] scope pos) (Mw wi g tc te ix):=by
 intro pins s σ H Q I h;rw[eval_ListComp];refine Wc (use:=none) rfl hs (m9 λp hp hk=>I.ok.has p.1 (hfr p hp hk)) hkind hnames (cE (hi pins s σ H _ I h) λv s1 h1=>cE h1 λitv s2 h2=>?_);obtain⟨it,fp,tn,J,H2,e,I2,T,st2,f2,q⟩:=h2;subst e;refine qQ (Q:=Q) (RR:=λacc C=>compPost (model X.prog X.w) X.A X.xe none (EP X pins σ Q) acc C) hc hcell hkind hfr hix hb I2 T st2 f2 q ?_;intro D C H' s' m _ _ _ hn hI hq;exact⟨m,hn,λh' sb=>⟨.ref D,H',hI h' sb,rfl,hq⟩⟩
theorem Bg{i:Nat}{y:Str}{py spos:Pos}(hN:X.N.Nodup)(hi':X.N[i]?=some y)(hx:Loc X.env.scope y)
  (hc:X.calm=true) (hcell:∀y∈scope.names,y.2≠.cell) (hkind:scope.kind=.function) (hnames:∀y∈scope.names,y.2=.local->scope.names.lookup y.1=some .local)
  (hfr:∀y∈scope.names,y.2=.free->X.env.scope.names.lookup y.1=some .cell\/X.env.scope.names.lookup y.1=some .free)
  (hix:uq X.N N scope.names ix=true) (hi:PI X tg iter wi)
  (hb:∀cl C fp s H E,PG (cv X scope N cl C fp s H E) tg g/\JQ (cv X scope N cl C fp s H E) ifs tc/\PE (cv X scope N cl C fp s H E) elt te)
  (hsw:swapsWith (.ListComp elt [⟨tg,iter,ifs,0⟩] scope pos) (some (.Name y py)) spos.line X.env=pure true:=by rfl)
  (hs:∀x,VN iter X.env x=pure x:=by intro _;rfl)
  (hf:X.fn y=true\/X.env.scope.names.lookup y=some .local:=by first|exact .inl rfl|exact .inr rfl|assumption):
  PS X (.Assign [.Name y py] (.ListComp elt [⟨tg,iter,ifs,0⟩] scope pos) spos) (A6 (Mw wi g tc te ix) (tM i)):=by
 intro pins s σ H D0 I h;rw[exec_Assign_Name_used _ _ _ _ hsw];refine VF (VH (VF ?_));show Vx _ X.A (do let _<-comprehension (.ListComp elt [⟨tg,iter,ifs,0⟩] scope pos) scope X.env _ (newList []) false (eval iter X.env) (some (assign (.Name y py) X.env))) _ _ s;refine VF (cE (Wc (use:=some (assign (.Name y py) X.env)) (Q:=λ_ s'=>SP X pins D0 .next s') rfl hs (m9 λp hp hk=>I.ok.has p.1 (hfr p hp hk)) hkind hnames
  (cE (hi pins s σ H _ I h) λv s1 h1=>cE h1 λitv s2 h2=>?_)) λ_ s' hq=>VI (VI hq))
 obtain⟨it,fp,tn,J,H2,e,I2,T,st2,f2,q⟩:=h2;subst e;refine qQ (Q:=λv H'=>tM i v σ H' D0.nx) (RR:=λacc C=>compPost (model X.prog X.w) X.A X.xe (some (assign (.Name y py) X.env)) (λ_ s'=>SP X pins D0 .next s') acc C) hc hcell hkind hfr hix hb I2 T st2 f2 q ?_;intro D C H' s' m _ hC hfree hn hI hq;have I':Inv X pins σ H' s':=hI s'.heap (.refl ..);have nL:C≠X.env.locals:=RA (Rm I2.lt hC);have nC:∀x c,X.env.cells.lookup x=some c->c≠C:=λx c e z=>by
  obtain⟨v,q⟩:=I2.cell x c e;exact absurd (Rm q.lt (by rw[z];exact hC)) (Ro _)
 have nP:∀p∈X.pn++pins,p.1≠C:=λp hp z=>absurd (Rm (UW (I2.pin p hp).1) (by rw[z];exact hC)) (Ro _);show Vx _ X.A (assign (.Name y py) X.env (.ref D)) _ _ _;refine wpAny_assign_Name (rV I' hN hi' hx (v:=.ref D) rfl (λs'' I'' ch=>?_) hf);obtain⟨a,sb,ha⟩:=ch;have hCa:C≠a:=by
  rcases ha with ha|ha
  ·rw[ha];exact nL
  ·exact Ne.symm (nC y a ha)
 refine⟨m,hn.sameBut sb hCa,λh' sb'=>⟨_,H',?_,hq⟩⟩;exact I''.turned (t':=s''.toks) (λb o hb' e=>(sb'.2 b hb').trans e) hfree nL (.inr (Rq I2.sz hC)) nC nP
end
end L2
namespace TG
open PySem PySem.Spec
noncomputable def DP{α:Type}:Sem α->Prop
 |.pure _=>True
 |.raise _=>True
 |.unsupported _=>True
 |.finish _=>True
 |.rule _ k=>DP (k ())
 |.at _ k=>DP (k ())
 |.load _ _ k=>∀o,DP (k o)
 |.update _ _ f k=>(∀o,(f o).dict=o.dict)/\DP (k ())
 |.loadIfAlive _ k=>∀o,DP (k o)
 |.point _ k=>DP (k ())
 |.alloc _ k=>∀a,DP (k a)
 |.fresh k=>∀a,DP (k a)
 |.ask k=>∀a,DP (k a)
 |.stack k=>∀a,DP (k a)
 |_=>False
theorem DP.bind{α β:Type}{f:α->Sem β}(hf:∀a,DP (f a)):∀{m:Sem α},DP m->DP (m >>= f):=λ{m} h=>by
 show DP (m.bind f)
 induction m with
 |pure a=>exact hf a
 |raise _=>trivial
 |unsupported _=>trivial
 |finish _=>trivial
 |rule _ k ih=>exact ih () h
 |«at» _ k ih=>exact ih () h
 |load _ _ k ih=>exact λo=>ih o (h o)
 |update _ _ g k ih=>exact⟨h.1,ih () h.2⟩
 |loadIfAlive _ k ih=>exact λo=>ih o (h o)
 |point _ k ih=>exact ih () h
 |alloc _ k ih=>exact λo=>ih o (h o)
 |fresh k ih=>exact λo=>ih o (h o)
 |ask k ih=>exact λo=>ih o (h o)
 |stack k ih=>exact λo=>ih o (h o)
 |_=>exact h.elim
noncomputable def DS(h h':Vq):Prop:=∀(a:Nat)(o:Obj),h.objs[a]?=some o->∃o',h'.objs[a]?=some o'/\o'.dict=o.dict
theorem DS.refl(h:Vq):DS h h:=λ_ o e=>⟨o,e,rfl⟩
theorem DS.trans{h1 h2 h3:Vq}(x:DS h1 h2)(y:DS h2 h3):DS h1 h3:=λa o e=>by
 obtain⟨o1,e1,d1⟩:=x a o e;obtain⟨o2,e2,d2⟩:=y a o1 e1;exact⟨o2,e2,d2.trans d1⟩
theorem vH{h:Vq}{a:Vj}{o:Obj}(e:h.get? a=some o):h.objs[a]?=some o:=by
 unfold Heap.get? at e;split at e
 ·cases e
 ·exact e
theorem DS.dict{h h':Vq}(x:DS h h'){a:Vj}{o o':Obj}(e:h.get? a=some o)(e':h'.get? a=some o'):o'.dict=o.dict:=by
 obtain⟨o1,e1,d1⟩:=x a o (vH e);rw[vH e']at e1;cases e1;exact d1
theorem DS.push(h:Vq)(o:Obj):DS h (h.push o):=λa u e=>⟨u,by
 show(h.objs.push o)[a]?=_
 have:=(Array.getElem?_eq_some_iff.mp e).1
 rw[Array.getElem?_push,if_neg ‹0›];exact e,rfl⟩
theorem DS.upd(h:Vq)(b:Vj){f:Obj->Obj}(hf:∀o,(f o).dict=o.dict):DS h (h.update b f):=λa u e=>by
 show∃o',(h.objs.modify b f)[a]?=some o'/\_;rw[Array.getElem?_modify,e];split
 ·exact⟨_,rfl,hf u⟩
 ·exact⟨_,rfl,rfl⟩
theorem DP.wp{α:Type}{M:Vw}{Γ:PySem.Ctx}{Q:α->Pos->Vm->Prop}{E:Vh->Pos->Vm->Prop}{t:Sem α}(d:DP t){p:Pos}{s:Vm}(h:Sem.wp M Γ t Q E p s):Sem.wp M Γ t (λa p' s'=>Q a p' s'/\DS s.heap s'.heap) (λa p' s'=>E a p' s'/\DS s.heap s'.heap) p s:=by
 have go:∀(h0:Vq)(p:Pos)(s:Vm),DS h0 s.heap->Sem.wp M Γ t Q E p s->Sem.wp M Γ t (λa p' s'=>Q a p' s'/\DS h0 s'.heap) (λa p' s'=>E a p' s'/\DS h0 s'.heap) p s:=by
  intro h0;clear h
  induction t with
  |pure a=>exact λp s z h=>⟨h,z⟩
  |raise a=>exact λp s z h=>⟨h,z⟩
  |unsupported _=>exact λp s z h=>h
  |finish _=>exact λp s z h=>h
  |rule _ k ih=>exact λp s z h=>ih () d p s z h
  |«at» q k ih=>exact λp s z h=>ih () d q s z h
  |load a _ k ih=>exact λp s z h=>let ⟨o,ho,h⟩:=h;⟨o,ho,ih o (d o) p s z h⟩
  |update a _ f k ih=>exact λp s z h=>⟨h.1,ih () d.2 p _ (z.trans (DS.upd _ a d.1)) h.2⟩
  |loadIfAlive a k ih=>exact λp s z h=>ih _ (d _) p s z h
  |point _ k ih=>exact λp s z h=>ih () d p s z h
  |alloc o k ih=>exact λp s z h=>ih _ (d _) p _ (z.trans (DS.push _ o)) h
  |fresh k ih=>exact λp s z h=>ih _ (d _) p _ z h
  |ask k ih=>exact λp s z h=>ih _ (d _) p _ z h
  |stack k ih=>exact λp s z h=>ih _ (d _) p _ z h
  |_=>exact d.elim
 exact go s.heap p s (DS.refl _) h
theorem DP.any{α:Type}{M:Vw}{A:Vu}{Q:α->Vm->Prop}{E:Vh->Vm->Prop}{t:Sem α}{s:Vm}(d:DP t)(h:Vx M A t Q E s):Vx M A t (λa s'=>Q a s'/\DS s.heap s'.heap) E s:=λΓ p hi=>Sem.wp_mono _ _ _ (λ_ _ _ x=>x) (λ_ _ _ x=>x.1) _ _ (d.wp (h Γ p hi))
theorem DP.go{M:Vw}{A:Vu}{Q:Unit->Vm->Prop}{E:Vh->Vm->Prop}{t:Sem Unit}{s:Vm}{P:Vq->Prop}(d:DP t)(h:Vx M A t (λ_ s'=>∃h',s'={s with heap:=h'}/\P h') E s)(k:∀h',P h'->DS s.heap h'->Q () {s with heap:=h'}):Vx M A t Q E s:=Vz (d.any h) (λ_ s' z=>by
 obtain⟨⟨h',rfl,p⟩,ds⟩:=z;exact k h' p ds) λ_ _ z=>z
theorem nI(v:Vh)(i:Nat):DP (field v i):=by
 unfold field fieldsOf;cases v with
 |ref a=>
  refine DP.bind (λxs=>?_) ?_
  ·split<;>trivial
  ·refine DP.bind (λo=>?_) (λo=>trivial);split<;>trivial
 |_=>exact DP.bind (λxs=>by split<;>trivial) trivial
theorem yC(a:Vj):DP (load a):=λ_=>trivial
theorem JK(f:Array Vh->Array Vh)(o:Obj):(Obj.mapFields f o).dict=o.dict:=by
 unfold Obj.mapFields;split<;>rfl
theorem wJ(v:Vh)(i:Nat)(x:Vh):DP (setField v i x):=by
 unfold setField;cases v with
 |ref a=>
  unfold updateField;refine DP.bind (λo=>?_) (yC a);split
  ·split
   ·exact⟨JK _,trivial⟩
   ·trivial
  ·trivial
 |_=>trivial
theorem yR(e:Vh)(f:Option Vj):DP (setFlight e f):=by
 unfold setFlight;refine DP.bind (λtb=>?_) (nI _ _);split
 ·exact wJ _ _ _
 ·trivial
theorem DM:DP stack:=λ_=>trivial
theorem BX:DP underTheClaimsCaller:=by
 unfold underTheClaimsCaller;exact λ_=>trivial
theorem vn:∀l:List Env,DP (readyFrames l)
 |[]=>trivial
 |env::outer=>by
  unfold readyFrames;cases env.frame with
  |none=>trivial
  |some f=>
   refine DP.bind ?_ (yC f);intro o;split
   ·trivial
   ·refine DP.bind ?_ ?_
    ·intro b;refine DP.bind ?_ ?_
     ·intro b;refine DP.bind ?_ ?_
      ·intro _;exact vn outer
      ·exact⟨λ_=>rfl,trivial⟩
     ·unfold keptBack;split
      ·split
       ·trivial
       ·refine DP.bind ?_ BX;intro _;trivial
      ·trivial
    ·unfold behindIsImport;split
     ·trivial
     ·split
      ·trivial
      ·refine DP.bind ?_ (nI _ _);intro _;trivial
theorem Ei:DP frameEnvs:=λ_=>trivial
theorem wD(env:Env):DP (frameOf env):=by
 unfold frameOf;refine DP.bind ?_ Ei;intro l;refine DP.bind ?_ ?_
 ·intro f;split<;>trivial
 ·unfold frameObject;split
  ·trivial
  ·refine DP.bind ?_ (vn _);intro _;trivial
theorem Im(ty:String)(vs:List Vh):DP (newFields ty vs):=by
 unfold newFields newObj;dsimp only;split
 ·trivial
 ·exact λ_=>trivial
theorem A8(f:Vj)(b:Bool):DP (entryPlaceOf f b):=by
 unfold entryPlaceOf;refine DP.bind ?_ DM;intro l;split<;>trivial
theorem FD(e:Vh)(env:Env):DP (noteFrame e env):=by
 unfold noteFrame;cases env.frame with
 |none=>trivial
 |some f=>
  have tl:∀head:Vh,DP (do setField e 1 (<-EntryCells.newEntry head (<-frameOf env) .none (rawInt f) .none (<-entryPlaceOf f (head !=.none)))):=λhead=>by
   refine DP.bind ?_ (wD env);intro a;refine DP.bind ?_ (A8 _ _);intro b;refine DP.bind ?_ (Im _ _);intro c;exact wJ _ _ _
  refine DP.bind ?_ (nI _ _);intro head;dsimp only;split
  ·refine DP.bind ?_ (nI _ _);intro x;split
   ·trivial
   ·refine DP.bind ?_ (wJ _ _ _);intro _;exact tl head
  ·exact tl head
theorem wV(env:Env)(e:Vh):DP (leaving env e):=by
 unfold leaving;refine DP.bind ?_ (FD _ _);intro _;exact yR _ _
open PySem PySem.Spec L2
inductive D where
 |non|bl (b:Bool)|int (i:Int)|str (x:Str)|tup (xs:List D)|lst (xs:List D)
 |dct (ks vs:List D)|obj (c:Str) (fs:av) (vs:List D)|exc (c:Str) (fs:av) (vs:List D)
noncomputable abbrev gz:=List (List D)
noncomputable abbrev dP:=List (List Key×D)
noncomputable abbrev bu:=Option D
noncomputable def bm:Key->D
 |.inl i=>.int i
 |.inr x=>.str x
noncomputable def clsAt(K:Ug)(c:Str)(C:Vj):Prop:=UI K Vs c=some (some (.ref C))
noncomputable def Lp(C a:Vj)(dx:Option Vj):(Vj->Prop)->Vq->Prop:=λ_ h=>∃o,h.get? a=some o/\o.cls=.ref C/\o.dict=dx/\PySem.W.notCls o=true
mutual
noncomputable def b9(K:Ug)(H:Hp):D->V->Prop
 |.non,v=>v=.non
 |.bl b,v=>v=.bl b
 |.int i,v=>v=.int i
 |.str x,v=>v=.str x
 |.tup xs,v=>∃a vs,v=.ref a/\H a=some (.tup vs)/\aB K H xs vs
 |.lst xs,v=>∃a vs,v=.ref a/\mJ K H a vs/\aB K H xs vs
 |.dct ks ds,v=>∃a vs,v=.ref a/\aB K H ds vs/\((∃kvs:List (Key×V),H a=some (.dK kvs)/\ks=kvs.map (λp=>bm p.1)/\vs=kvs.map (·.2)) \/
   (∃kvs:List (List Key×V),H a=some (.dT kvs)/\ks=kvs.map (λp=>.tup (p.1.map bm))/\vs=kvs.map (·.2)) \/
   ∃(kvs:List (List Key×V))(o:Obj),H a=some (.frz o (.dT kvs))/\ks=.non::kvs.map (λp=>.tup (p.1.map bm))/\vs=kvs.map (·.2))
 |.obj c fs ds,v=>∃a vs,v=.ref a/\aB K H ds vs/\fs.length=vs.length/\∃C dx,clsAt K c C/\H a=some (.ins C dx (fs.zip vs))
 |.exc c fs ds,v=>∃a vs,v=.ref a/\aB K H ds vs/\fs.length=vs.length/\∃C dx,clsAt K c C/\H a=some (.ext (Lp C a dx))/\(fs=[]\/∃d,dx=some d/\H d=some (.xd (fs.zip vs)))
noncomputable def aB(K:Ug)(H:Hp):List D->aF->Prop
 |[],vs=>vs=[]
 |x::xs,vs=>∃v r,vs=v::r/\b9 K H x v/\aB K H xs r
end
theorem Am{K:Ug}{H H':Hp}{a:Vj}{xs:aF}(e:bj H H')(h:oJ K H a xs):oJ K H' a xs:=by
 rcases h with(h|⟨o,h⟩)|h
 ·exact .inl (.inl (e _ _ h))
 ·exact .inl (.inr ⟨o,e _ _ h⟩)
 ·exact .inr h
theorem bX{K:Ug}{H H':Hp}{a:Vj}{xs:aF}(e:bj H H')(h:H a=some (.tup xs)):oJ K H' a xs:=oJ.of (e _ _ h)
mutual
theorem b9.mono{K:Ug}{H H':Hp}(e:bj H H'):∀{d:D}{v:V},b9 K H d v->b9 K H' d v
 |.non,_,h=>by unfold b9 at h ⊢;exact h
 |.bl _,_,h=>by unfold b9 at h ⊢;exact h
 |.int _,_,h=>by unfold b9 at h ⊢;exact h
 |.str _,_,h=>by unfold b9 at h ⊢;exact h
 |.tup xs,_,h=>by
  unfold b9 at h ⊢;obtain⟨a,vs,e1,h1,h2⟩:=h;exact⟨a,vs,e1,e _ _ h1,aB.mono e h2⟩
 |.lst xs,_,h=>by
  unfold b9 at h ⊢;obtain⟨a,vs,e1,h1,h2⟩:=h;exact⟨a,vs,e1,e.seq h1,aB.mono e h2⟩
 |.dct _ ds,_,h=>by
  unfold b9 at h ⊢;obtain⟨a,vs,e1,h1,h2⟩:=h;refine⟨a,vs,e1,aB.mono e h1,?_⟩;rcases h2 with⟨kvs,h2,h3⟩|⟨kvs,h2,h3⟩|⟨kvs,o,h2,h3⟩
  ·exact .inl ⟨kvs,e _ _ h2,h3⟩
  ·exact .inr (.inl ⟨kvs,e _ _ h2,h3⟩)
  ·exact .inr (.inr ⟨kvs,o,e _ _ h2,h3⟩)
 |.obj _ _ ds,_,h=>by
  unfold b9 at h ⊢;obtain⟨a,vs,e1,h1,h2,C,dx,h3,h4⟩:=h;exact⟨a,vs,e1,aB.mono e h1,h2,C,dx,h3,e _ _ h4⟩
 |.exc _ _ ds,_,h=>by
  unfold b9 at h ⊢;obtain⟨a,vs,e1,h1,h2,C,dx,h3,h4,h5⟩:=h;exact⟨a,vs,e1,aB.mono e h1,h2,C,dx,h3,e _ _ h4,h5.imp id λ⟨d,q1,q2⟩=>⟨d,q1,e _ _ q2⟩⟩
theorem aB.mono{K:Ug}{H H':Hp}(e:bj H H'):∀{ds:List D}{vs:aF},aB K H ds vs->aB K H' ds vs
 |[],_,h=>by unfold aB at h ⊢;exact h
 |x::xs,_,h=>by
  unfold aB at h ⊢;obtain⟨v,r,e1,h1,h2⟩:=h;exact⟨v,r,e1,b9.mono e h1,aB.mono e h2⟩
end
section
variable{K:Ug}{H:Hp}
theorem jD{v:V}:b9 K H .non v↔v=.non:=by unfold b9;rfl
theorem jG{b:Bool}{v:V}:b9 K H (.bl b) v↔v=.bl b:=by unfold b9;rfl
theorem eS{i:Int}{v:V}:b9 K H (.int i) v↔v=.int i:=by unfold b9;rfl
theorem eD{x:Str}{v:V}:b9 K H (.str x) v↔v=.str x:=by unfold b9;rfl
theorem bW{xs:List D}{v:V}:b9 K H (.tup xs) v↔∃a vs,v=.ref a/\H a=some (.tup vs)/\aB K H xs vs:=by unfold b9;rfl
theorem b8{xs:List D}{v:V}:b9 K H (.lst xs) v↔∃a vs,v=.ref a/\mJ K H a vs/\aB K H xs vs:=by unfold b9;rfl
theorem MM{ks ds : List D}{v : V}: b9 K H (.dct ks ds) v ↔ ∃ a vs, v = .ref a /\ aB K H ds vs /\ ((∃ kvs : List (Key × V), H a = some (.dK kvs) /\ ks = kvs.map (fun p => bm p.1) /\ vs = kvs.map (·.2)) \/
      (∃kvs:List (List Key×V),H a=some (.dT kvs)/\ks=kvs.map (λp=>.tup (p.1.map bm))/\vs=kvs.map (·.2)) \/
      ∃(kvs:List (List Key×V))(o:Obj),H a=some (.frz o (.dT kvs))/\ks=.non::kvs.map (λp=>.tup (p.1.map bm))/\vs=kvs.map (·.2)):=by unfold b9;rfl
theorem FQ{c:Str}{fs:av}{ds:List D}{v:V}:b9 K H (.obj c fs ds) v↔∃a vs,v=.ref a/\aB K H ds vs/\fs.length=vs.length/\∃C dx,clsAt K c C/\H a=some (.ins C dx (fs.zip vs)):=by unfold b9;rfl
theorem MN{c:Str}{fs:av}{ds:List D}{v:V}:b9 K H (.exc c fs ds) v↔∃a vs,v=.ref a/\aB K H ds vs/\fs.length=vs.length/\∃C dx,clsAt K c C/\H a=some (.ext (Lp C a dx))/\(fs=[]\/∃d,dx=some d/\H d=some (.xd (fs.zip vs))):=by unfold b9;rfl
theorem cf{vs:aF}:aB K H [] vs↔vs=[]:=by unfold aB;rfl
theorem aK{x:D}{xs:List D}{vs:aF}:aB K H (x::xs) vs↔∃v r,vs=v::r/\b9 K H x v/\aB K H xs r:=by conv=>lhs;unfold aB
theorem aB.length:∀{ds:List D}{vs:aF},aB K H ds vs->ds.length=vs.length
 |[],_,h=>by rw[cf]at h;rw[h];rfl
 |_::xs,_,h=>by
  rw[aK]at h;obtain⟨v,r,e,_,h⟩:=h;rw[e,RG,RG,aB.length h]
theorem aB.get:∀{ds:List D}{vs:aF}{i:Nat}{d:D},aB K H ds vs->ds[i]?=some d->∃v,vs[i]?=some v/\b9 K H d v
 |[],_,_,_,_,e=>by simp at e
 |x::xs,_,0,d,h,e=>by
  rw[aK]at h;obtain⟨v,r,rfl,h1,_⟩:=h;simp at e;subst e;exact⟨v,rfl,h1⟩
 |x::xs,_,i+1,d,h,e=>by
  rw[aK]at h;obtain⟨v,r,rfl,_,h2⟩:=h;obtain⟨w,e1,e2⟩:=aB.get (i:=i) h2 (by simpa using e);exact⟨w,by simpa using e1,e2⟩
theorem aB.append:∀{ds es:List D}{vs ws:aF},aB K H ds vs->aB K H es ws->aB K H (ds++es) (vs++ws)
 |[],_,_,_,h,h'=>by rw[cf]at h;subst h;exact h'
 |x::xs,_,_,_,h,h'=>by
  rw[aK]at h;obtain⟨v,r,rfl,h1,h2⟩:=h;rw[Sl,aK];exact⟨v,_,rfl,h1,aB.append h2 h'⟩
theorem aB.take:∀{ds:List D}{vs:aF}(n:Nat),aB K H ds vs->aB K H (ds.take n) (vs.take n)
 |_,_,0,_=>by rw[Sq,Sq,cf]
 |[],_,_+1,h=>by rw[cf]at h;subst h;rw[Sr,Sr,cf]
 |x::xs,_,n+1,h=>by
  rw[aK]at h;obtain⟨v,r,rfl,h1,h2⟩:=h;rw[Ss,Ss,aK];exact⟨v,_,rfl,h1,aB.take n h2⟩
theorem aB.drop:∀{ds:List D}{vs:aF}(n:Nat),aB K H ds vs->aB K H (ds.drop n) (vs.drop n)
 |_,_,0,h=>by rw[Su,Su];exact h
 |[],_,_+1,h=>by rw[cf]at h;subst h;rw[List.drop_nil,List.drop_nil,cf]
 |x::xs,_,n+1,h=>by
  rw[aK]at h;obtain⟨v,r,rfl,h1,h2⟩:=h;rw[Sv,Sv];exact aB.drop n h2
theorem aB.snoc{ds:List D}{vs:aF}{d:D}{v:V}(h:aB K H ds vs)(h':b9 K H d v):aB K H (ds++[d]) (vs++[v]):=
 h.append (aK.mpr ⟨v,[],rfl,h',cf.mpr rfl⟩)
theorem aB.set{d:D}{v:V}(h':b9 K H d v):∀{ds:List D}{vs:aF}(n:Nat),aB K H ds vs->aB K H (ds.set n d) (vs.set n v)
 |[],_,_,h=>by rw[cf]at h;subst h;exact cf.mpr rfl
 |x::xs,_,0,h=>by
  rw[aK]at h;obtain⟨w,r,rfl,h1,h2⟩:=h;exact aK.mpr ⟨v,r,rfl,h',h2⟩
 |x::xs,_,n+1,h=>by
  rw[aK]at h;obtain⟨w,r,rfl,h1,h2⟩:=h;exact aK.mpr ⟨w,_,rfl,h1,aB.set h' n h2⟩
theorem aB.one{d:D}{vs:aF}(h:aB K H [d] vs):∃v,vs=[v]/\b9 K H d v:=by
 rw[aK]at h;obtain⟨v,r,rfl,h1,h2⟩:=h;rw[cf]at h2;subst h2;exact⟨v,rfl,h1⟩
theorem aB.two{d e:D}{vs:aF}(h:aB K H [d,e] vs):∃v w,vs=[v,w]/\b9 K H d v/\b9 K H e w:=by
 rw[aK]at h;obtain⟨v,r,rfl,h1,h2⟩:=h;obtain⟨w,rfl,h3⟩:=h2.one;exact⟨v,w,rfl,h1,h3⟩
theorem tH:∀ns:List Int,aB K H (ns.map D.int) (ns.map V.int)
 |[]=>cf.mpr rfl
 |n::ns=>aK.mpr ⟨_,_,rfl,eS.mpr rfl,tH ns⟩
end
noncomputable def hid(H:Hp)(O:aA):Hp:=λb=>if b∈O then none else H b
theorem au(H:Hp)(O:aA):bj (hid H O) H:=λb o h=>by
 unfold hid at h;split at h
 ·cases h
 ·exact h
theorem bC{H H':Hp}{O:aA}(e:bj H H'):bj (hid H O) (hid H' O):=λb o h=>by
 unfold hid at h ⊢;by_cases hb:b∈O
 ·rw[if_pos hb]at h;cases h
 ·rw[if_neg hb]at h ⊢;exact e b o h
theorem iM{H:Hp}{O O':aA}(s:∀a∈O,a∈O'):bj (hid H O') (hid H O):=λb o h=>by
 unfold hid at h ⊢;by_cases hb:b∈O'
 ·rw[if_pos hb]at h;cases h
 ·rw[if_neg hb]at h;rw[if_neg λz=>hb (s b z)];exact h
theorem Ga(H:Hp):hid H []=H:=by funext b;unfold hid;simp
theorem xK{H:Hp}{O:aA}{p:Vj}{o:HO}(h:H p=none):bj (hid H O) (hid (upd H p o) O):=λb u q=>by
 unfold hid at q ⊢;by_cases hb:b∈O
 ·rw[if_pos hb]at q;cases q
 ·rw[if_neg hb]at q ⊢;rw[aM (aY q h)];exact q
theorem bQ{H:Hp}{p:Vj}(h:H p=none)(o:HO):bj H (upd H p o):=λb u q=>by rw[aM (aY q h)];exact q
theorem dH{H:Hp}{O:aA}{p:Vj}(h:p∉O):hid H O p=H p:=by unfold hid;rw[if_neg h]
theorem iz{H:Hp}{O:aA}{p:Vj}{o:HO}(h:p∈O):bj (hid H O) (hid (upd H p o) O):=λb u q=>by
 unfold hid at q ⊢;by_cases hb:b∈O
 ·rw[if_pos hb]at q;cases q
 ·rw[if_neg hb]at q ⊢;rw[aM (λz=>hb (by rw[z];exact h))];exact q
inductive S where
 |val (d:D)|own (d:D)|nest (d:D)
noncomputable abbrev ak:=List (Option S)
noncomputable def rQ:HO->Prop
 |.lst _=>True
 |.dK _=>True
 |.dT _=>True
 |_=>False
class aw where
 tab:Hp->Prop
 same:∀{H H':Hp},tab H->bj H H'->tab H'
 own:∀{H:Hp}{p:Vj}{o o':HO},tab H->H p=some o->rQ o->tab (upd H p o')
variable[aw]
noncomputable def dz(H:Hp)(O:aA):Prop:=aw.tab H/\∀a∈O,∃o,H a=some o/\rQ o
theorem dz.not{H:Hp}{O:aA}(h:dz H O){p:Vj}(n:H p=none):p∉O:=λz=>by
 obtain⟨vs,e,_⟩:=h.2 p z;rw[n]at e;cases e
theorem dz.same{H H':Hp}{O:aA}(h:dz H O)(e:bj H H'):dz H' O:=⟨aw.same h.1 e,λa ha=>let ⟨vs,q,m⟩:=h.2 a ha;⟨vs,e _ _ q,m⟩⟩
theorem dz.upd{H:Hp}{O:aA}{p:Vj}{o:HO}(h:dz H O)(hp:p∈O)(m:rQ o):dz (L2.upd H p o) O:=⟨let ⟨_,q,r⟩:=h.2 p hp;aw.own h.1 q r,λa ha=>by
 by_cases z:a=p
 ·rw[z];exact⟨o,aH,m⟩
 ·obtain⟨u,q,r⟩:=h.2 a ha;exact⟨u,by rw[aM z];exact q,r⟩⟩
theorem dz.cons{H:Hp}{O:aA}{p:Vj}{o:HO}(h:dz H O)(hp:H p=some o)(m:rQ o):dz H (p::O):=⟨h.1,λa ha=>by
 rcases List.mem_cons.mp ha with z|z
 ·rw[z];exact⟨o,hp,m⟩
 ·exact h.2 a z⟩
noncomputable def gu(K:Ug)(H:Hp)(O:aA)(a:Vj)(d:D):Prop:=∃o vs,H a=some o/\match d with
 |.lst xs=>o=.lst vs/\aB K (hid H O) xs vs
 |.dct ks ds=>aB K (hid H O) ds vs/\((∃kvs:List (Key×V),o=.dK kvs/\ks=kvs.map (λp=>bm p.1)/\vs=kvs.map (·.2)) \/
   ∃kvs:List (List Key×V),o=.dT kvs/\ks=kvs.map (λp=>.tup (p.1.map bm))/\vs=kvs.map (·.2))
 |_=>False
theorem gu.mono{K:Ug}{H H':Hp}{O O':aA}{a:Vj}{d:D}(h:gu K H O a d)(e:H a=H' a)(s:bj (hid H O) (hid H' O')):gu K H' O' a d:=by
 obtain⟨o,vs,h1,h2⟩:=h;refine⟨o,vs,by rw[<-e];exact h1,?_⟩;cases d with
 |lst xs=>exact⟨h2.1,h2.2.mono s⟩
 |dct ks ds=>exact⟨h2.1.mono s,h2.2⟩
 |_=>exact h2
theorem gu.some{K:Ug}{H:Hp}{O:aA}{a:Vj}{d:D}(h:gu K H O a d):∃o,H a=some o:=let ⟨o,_,e,_⟩:=h;⟨o,e⟩
theorem gu.den{K:Ug}{H:Hp}{O O':aA}{a:Vj}{d:D}(h:gu K H O a d)(s:bj (hid H O) (hid H O'))(ha:a∉O'):b9 K (hid H O') d (.ref a):=by
 obtain⟨o,vs,h1,h2⟩:=h;have h1':hid H O' a=Option.some o:=by rw[dH ha];exact h1
 cases d with
 |lst xs=>
  obtain⟨e,g⟩:=h2;subst e;exact b8.mpr ⟨a,vs,rfl,mJ.of h1',g.mono s⟩
 |dct ks ds=>
  obtain⟨g,q⟩:=h2;refine MM.mpr ⟨a,vs,rfl,g.mono s,?_⟩;rcases q with⟨kvs,e,q⟩|⟨kvs,e,q⟩
  ·subst e;exact .inl ⟨kvs,h1',q⟩
  ·subst e;exact .inr (.inl ⟨kvs,h1',q⟩)
 |_=>exact h2.elim
structure cY(K:Ug)(O:aA)(H:Hp)(ρ:ak)(σ:St):Prop where
 val:∀(i:Nat) d,ρ[i]?=some (some (.val d))->∃v,σ[i]?=some (some v)/\b9 K (hid H O) d v
 own:∀(i:Nat) d,ρ[i]?=some (some (.own d))->∃a,σ[i]?=some (some (.ref a))/\a∈O/\gu K H O a d
 one:∀(i j:Nat) xs ys a,ρ[i]?=some (some (.own xs))->ρ[j]?=some (some (.own ys))->σ[i]?=some (some (.ref a))->σ[j]?=some (some (.ref a))->i=j
 all:dz H O
theorem kQ{H H':Hp}(e:bj H H'){a:Vj}{o:HO}(h:H a=some o):H a=H' a:=by rw[h,e _ _ h]
theorem cY.same{K:Ug}{O:aA}{H H':Hp}{ρ:ak}{σ:St}(h:cY K O H ρ σ)(e:bj H H'):cY K O H' ρ σ:=
  ⟨fun i d q=>let ⟨v,a,b⟩:=h.val i d q; ⟨v,a,b.mono (bC e)⟩,
   λi xs q=>let ⟨a,q1,q2,q3⟩:=h.own i xs q;⟨a,q1,q2,q3.mono (let ⟨_,z⟩:=q3.some;kQ e z) (bC e)⟩,h.one,h.all.same e⟩
structure Ex where
 c:Str
 fs:av
 vs:List D
noncomputable abbrev R(α:Type):=Except (Option Ex) α
noncomputable abbrev aW:=ak->R (List D)
noncomputable abbrev b6:=ak->R Bool
noncomputable abbrev bE:=List D->R D
noncomputable abbrev un{α:Type}:R α:=.error none
noncomputable def rO{α:Type}:Option α->R α
 |some a=>.ok a
 |none=>.error none
noncomputable def KO(K:Ug)(Hd:Hp)(x:Ex)(C:Vj)(dx:Option Vj):Prop:=clsAt K x.c C/\∃ws,aB K Hd x.vs ws/\x.fs.length=ws.length/\(x.fs=[]\/∃d,dx=some d/\Hd d=some (.xd (x.fs.zip ws)))
theorem KO.mono{K:Ug}{H H':Hp}{x:Ex}{C:Vj}{dx:Option Vj}(h:KO K H x C dx)(e:bj H H'):KO K H' x C dx:=by
 obtain⟨h1,ws,h2,h3,h4⟩:=h;exact⟨h1,ws,h2.mono e,h3,h4.imp id λ⟨d,q1,q2⟩=>⟨d,q1,e _ _ q2⟩⟩
end TG
namespace TG
open PySem PySem.Spec L2
variable[aw]
open PyProof.Rows (AllBare)
theorem JC{P:Vo}{w:Vn}{H:Hp}{h:Vq}{a:Vj}{o:HO}(x:cG P w H h a o):∃u,h.get? a=some u:=by
 cases o with
 |lst xs=>obtain⟨_,_,_,_,e⟩:=x;exact⟨_,e⟩
 |tup xs=>obtain⟨_,_,_,o,e,_⟩:=x;exact⟨_,e⟩
 |dK kvs=>obtain⟨_,_,_,_,o,_,_,e,_⟩:=x;exact⟨_,e⟩
 |dT kvs=>obtain⟨_,_,_,_,o,_,_,e,_⟩:=x;exact⟨_,e⟩
 |set S n=>obtain⟨o,_,_,_,e,_⟩:=x;exact⟨_,e⟩
 |ins C dx fs=>obtain⟨_,_,_,e,_⟩:=x;exact⟨_,e⟩
 |own y=>exact x
 |xd fs=>obtain⟨_,⟨_,_,_,e,_⟩,_⟩:=x;exact⟨_,e⟩
 |rng lo hi=>obtain⟨_,_,_,e⟩:=x;exact⟨_,e⟩
 |frz ob u=>obtain⟨e,_⟩:=x;exact⟨_,e⟩
 |tbl ps=>exact⟨_,(show h.get? a=some _ from x)⟩
 |met f y=>exact⟨_,(show h.get? a=some _ from x)⟩
 |ext φ=>obtain⟨_,e,_⟩:=x;exact e
noncomputable def qR(X:Cx)(H:Hp)(b:Vj):Prop:=((∃o,X.s₀.heap.get? b=some o)/\b∉X.ex)\/H b≠none\/(∃o,(b,o)∈X.pn)\/∃x,X.env.cells.lookup x=some b
noncomputable def QC(B:Vq)(e:Vj)(cls a0:Vh)(h:Vq):Prop:=h.TracedW B e cls a0\/∃oe vs,h.get? e=some oe/\oe.cls=cls/\oe.data=.fields vs/\vs[1]?=some .none/\vs[0]?=some a0
noncomputable def Lr(X:Cx)(H:Hp)(s:Vm)(e C:Vj)(dx:Option Vj):Prop:=(∀oe,s.heap.get? e=some oe->oe.dict=dx)/\∃B a0,B.StaysIn s.heap/\B.get? e=none/\s.heap.FunFrames B X.stack/\QC B e (.ref C) a0 s.heap/\∀b o,s.heap.get? b=some o->qR X H b->b∉frs X.stack->B.get? b=some o
noncomputable def Ri(X:Cx)(H:Hp)(O:aA)(s:Vm)(u:Vh)(x:Ex):Prop:=∃e C dx,u=.ref e/\KO X.K (hid H O) x C dx/\Lr X H s e C dx
noncomputable def nK(P:Vo)(w:Vn):wx:=λouter H s E u s'=>∃e C dx H' B a0,u=.ref e/\(∀oe,s'.heap.get? e=some oe->oe.dict=dx)/\s'.os=s.os/\AllBare s'.gens/\Un (frs outer) [] H H' s.heap s'.heap/\nO P w H' s'.heap/\U3 B outer e (.ref C) a0 s'.heap/\
 (∀b o,s'.heap.get? b=some o->((∃o',s.heap.get? b=some o')\/H' b≠none)->b∉frs outer->B.get? b=some o)/\E (.ref C) dx H'
noncomputable def Nk(K:Ug)(H:Hp)(O:aA)(x:Ex)(E:XK):Prop:=∀C dx H',bj H H'->KO K (hid H' O) x C dx->E (.ref C) dx H'
noncomputable def Kb(X:Cx)(σ:St)(O:aA)(H:Hp)(x:Ex):Prop:=∀pins s u H',Inv X pins σ H' s->bj H H'->Ri X H' O s u x->X.xe u s
theorem Kb.mono{X:Cx}{σ:St}{O:aA}{H H':Hp}{x:Ex}(h:Kb X σ O H x)(s:bj H H'):Kb X σ O H' x:=λpins st u H2 I s2 f=>h pins st u H2 I (s.trans s2) f
noncomputable def yB(X:Cx)(O:aA)(H:Hp)(x:Ex):XK:=λu dx H'=>∃C,u=.ref C/\bj H H'/\KO X.K (hid H' O) x C dx
noncomputable def kD(CX:wx)(X:Cx)(σ:St)(E:XK):Prop:=∀(pins:bh)(H:Hp)(s:Vm)(e:Vh)(s':Vm),Inv X pins σ H s->CX X.stack H s E e s'->X.xe e s'
theorem yE{X:Cx}{σ:St}{O:aA}{H:Hp}{x:Ex}(h:Kb X σ O H x):kD (nK X.prog X.w) X σ (yB X O H x):=by
 rintro pins H1 s u s' I ⟨e,C,dx,H',B,a0,rfl,hdx,os,bare,un,hok,⟨f1,f2,f3,f4⟩,kp,C',eC,sm,hd⟩;cases eC;have I':Inv X pins σ H' s':=I.call' os un hok bare (ch:=[]) λb z=>absurd z (by simp);refine h pins s' _ H' I' sm ⟨e,C,dx,rfl,hd,hdx,B,a0,f1,f2,f3,.inl f4,λb o eb hb nf=>kp b o eb ?_ nf⟩;rcases hb with⟨⟨o',hb⟩,nx⟩|hb|⟨o',hb⟩|⟨y,hb⟩
 ·exact .inl (I.base.there b o' hb nx)
 ·exact .inr hb
 ·exact .inl ⟨_,(I.pin _ (Rx _ hb)).1⟩
 ·obtain⟨v,o,q,_⟩:=I.cell y b hb;exact .inl ⟨o,q⟩
theorem xV{X:Cx}{σ:St}:kD (nK X.prog X.w) X σ E0:=λ_ _ _ _ _ _ h=>by
 obtain⟨_,_,_,_,_,_,_,_,_,_,_,_,_,_,z⟩:=h;exact z.elim
theorem ve{X:Cx}{O:aA}{H:Hp}{x:Ex}:Nk X.K H O x (yB X O H x):=λC dx H' s e=>⟨C,rfl,s,e⟩
section
variable{X:Cx}{pins:bh}{σ:St}{H:Hp}{s:Vm}{h':Vq}
theorem EA(I:Inv X pins σ H s)(k:∀b o,s.heap.get? b=some o->qR X H b->b∉frs X.stack->h'.get? b=some o):nO X.prog X.w H h':=λa ob ea=>
 (I.hok a ob ea).stay (λb u hb q=>by
  have hn:H b≠none:=by
   rcases hb with e|e
   ·rw[e,ea];intro z;cases z
   ·rw[e];intro z;cases z
  exact k b u q (.inr (.inl hn)) λhf=>hn (I.stkFree b hf)) (λ_ q=>q) λ_ _ q=>q
theorem sV(I:Inv X pins σ H s)(us:s.heap.UpToSlots h'){b:Vj}{o:Obj}(hb:b∈frs X.stack)(e:s.heap.get? b=some o):∃sl,h'.get? b=some {o with slots:=sl}:=by
 obtain⟨_,o',e',nf⟩:=I.stack.mem hb;rw[e]at e';cases e';exact us b o e nf
theorem Ih(I:Inv X pins σ H s)(hx:X.ex=[])(hst:X.stack=X.env::X.outer)(hf:X.env.frame=some X.env.locals)(us:s.heap.UpToSlots h')(k:∀b o,s.heap.get? b=some o->qR X H b->b∉frs X.stack->h'.get? b=some o):
  Un (frs X.outer) [] X.H₀ H X.s₀.heap h':=by
 have U:=I.base;rw[hx]at U;have fr:frs X.stack=X.env.locals::frs X.outer:=by rw[hst];show List.filterMap _ (_::_)=_;rw[Rt,hf];rfl
 have nl:∀b o,X.s₀.heap.get? b=some o->b≠X.env.locals:=λb o q z=>by
  have h1:=UW q;have h2:=I.ok.above;rw[z]at h1;exact Ro _ (Rm h1 h2)
 have nfr:∀b o,X.s₀.heap.get? b=some o->b∉frs X.outer->b∉frs X.stack:=λb o q nb z=>by
  rw[fr]at z;rcases List.mem_cons.mp z with z|z
  ·exact nl b o q z
  ·exact nb z
 refine⟨λb o q n nb _=>k b o (U.keep b o q n nb (by simp)) (.inl ⟨⟨o,q⟩,by rw[hx];simp⟩) (nfr b o q nb),λb o q n hb _=>?_,λb o q n _=>U.free b o q n (by simp),λb o q _=>?_,U.tups,U.frzs,U.tbls⟩
 ·obtain⟨sl,e⟩:=U.slot b o q n hb (by simp);obtain⟨sl',e'⟩:=sV I us (by rw[fr];exact Rv _ hb) e;exact⟨sl',e'⟩
 ·obtain⟨o1,e1⟩:=U.there b o q (by simp);by_cases hb:b∈frs X.stack
  ·obtain⟨sl,e⟩:=sV I us hb e1;exact⟨_,e⟩
  ·exact⟨o1,k b o1 e1 (.inl ⟨⟨o,q⟩,by rw[hx];simp⟩) hb⟩
end
theorem IJ{P:Vo}{w:Vn}{K:Ug}{mg:cN}{base:Vq}{N:av}{qual:Str}{scope:Vv}{f:Vj}{cd:Vh}{A:Vu}{outer:List Env}{s:Vm}{H:Hp}{E:XK}{σ:St}{O O':aA}{H':Hp}{x:Ex}
  (hx:Nk K H O x E) (sm:bj H H') (hs:∀a∈O,a∈O'):Kb (jZ (nK P w) P w K mg base N qual scope f cd A outer s H E) σ O' H' x:=by
 rintro pins s1 u H1 I s2 ⟨e,C,dx,rfl,hd,hdx,B,a0,b1,b2,b3,b4,b5⟩;have fin:∀h',U3 B outer e (.ref C) a0 h'->s1.heap.UpToSlots h'->DS s1.heap h'->nK P w outer H s E (.ref e) {s1 with heap:=h'}:=λh' fl us ds=>by
  have k:∀b o,s1.heap.get? b=some o->qR (jZ (nK P w) P w K mg base N qual scope f cd A outer s H E) H1 b->b∉frs (jZ (nK P w) P w K mg base N qual scope f cd A outer s H E).stack->h'.get? b=some o:=λb o q kb nf=>fl.1 b o (b5 b o q kb nf);have un:=Ih I rfl rfl rfl us k;have hok:=EA I k;refine⟨e,C,dx,H1,B,a0,rfl,λoe' q=>?_,I.os,I.bare,un,hok,fl,λb o q hb nf=>?_,hx C dx H1 (sm.trans s2) (hd.mono (iM hs))⟩
  ·obtain⟨oe,q1⟩:∃oe,s1.heap.get? e=some oe:=by
    rcases b4 with⟨oe,_,_,_,_,h1,_⟩|⟨oe,_,h1,_⟩
    ·exact⟨oe,h1⟩
    ·exact⟨oe,h1⟩
   exact(ds.dict q1 q).trans (hdx oe q1)
  have nf2:b∉frs (jZ (nK P w) P w K mg base N qual scope f cd A outer s H E).stack:=λz=>by
   rcases List.mem_cons.mp (show b∈s.heap.objs.size::frs outer from z)with z|z
   ·rcases hb with hb|hb
    ·obtain⟨o',hb⟩:=hb
     have:=UW hb
     rw[z]at this;exact Ro _ this
    ·rw[z]at hb;exact hb I.free
   ·exact nf z
  have kb:qR (jZ (nK P w) P w K mg base N qual scope f cd A outer s H E) H1 b:=hb.elim (λz=>.inl ⟨z,λy=>nomatch y⟩) λz=>.inr (.inl z);obtain⟨o1,e1⟩:∃o1,s1.heap.get? b=some o1:=by
   rcases hb with⟨o',hb⟩|hb
   ·exact I.base.there b o' hb (λz=>nomatch z)
   ·cases q0:H1 b with
    |none=>exact absurd q0 hb
    |some ob=>exact JC (I.hok b ob q0)
  have:=k b o1 e1 kb nf2
  rw[q]at this;cases this;exact b5 b _ e1 kb nf2
 show Vx _ _ (leaving (U7 qual scope s.heap.objs.size f cd) (.ref e)) _ _ s1;refine DP.go (wV _ _) (P:=λh'=>U3 B outer e (.ref C) a0 h'/\s1.heap.UpToSlots h') ?_ λh' z ds=>fin h' z.1 z.2 ds;rcases b4 with b4|⟨oe,vs,c1,c2,c3,c4,c5⟩
 ·exact wpAny_leaves_onW I.ok.frames rfl ⟨b1,b2,b3,b4⟩ λh' fl us=>⟨h',rfl,fl,us⟩
 ·refine wpAny_leaving_firstW I.ok.frames b3 rfl c1 b1 b2 c3 c4 c5 λh' hL=>?_;obtain⟨k1,⟨_,_,k2⟩,k3,k4⟩:=hL;exact⟨h',rfl,⟨k1,b2,k2,c2 ▸ k3⟩,k4⟩
end TG
namespace TG
open PySem PySem.Spec L2
variable[aw]
noncomputable def dX(X:Cx)(σ:St)(O:aA)(H:Hp){α:Type}(r:R α)(Q:α->Prop):Prop:=match r with
 |.ok a=>Q a
 |.error (some x)=>Kb X σ O H x
 |.error none=>False
section
variable{X:Cx}{σ:St}{O:aA}{H H':Hp}{α β:Type}
theorem dX.bind{r:R α}{G:α->R β}{Q:β->Prop}(h:dX X σ O H (r.bind G) Q):dX X σ O H r λa=>dX X σ O H (G a) Q:=by
 match r,h with
 |.ok a,h=>exact h
 |.error (some x),h=>exact h
 |.error none,h=>exact h
theorem dX.imp{r:R α}{Q Q':α->Prop}(h:dX X σ O H r Q)(f:∀a,Q a->Q' a):dX X σ O H r Q':=by
 match r,h with
 |.ok a,h=>exact f a h
 |.error (some x),h=>exact h
 |.error none,h=>exact h
theorem dX.mono{r:R α}{Q:α->Prop}(h:dX X σ O H r Q)(s:bj H H'):dX X σ O H' r Q:=by
 match r,h with
 |.ok a,h=>exact h
 |.error (some x),h=>exact Kb.mono h s
 |.error none,h=>exact h
theorem dX.rO{o:Option α}{Q:α->Prop}(h:dX X σ O H (rO o) Q):∃a,o=some a/\Q a:=by
 match o,h with
 |some a,h=>exact⟨a,rfl,h⟩
 |none,h=>exact h.elim
end
noncomputable abbrev FX:=ak->R D
noncomputable def tF(X:Cx)(F:FX):TE:=λσ H Q=>∃O ρ,cY X.K O H ρ σ/\dX X σ O H (F ρ) λd=>∀v H',bj H H'->b9 X.K (hid H' O) d v->Q v H'
noncomputable def Ml(X:Cx)(F:b6):TT:=λσ H Q=>∃O ρ,cY X.K O H ρ σ/\dX X σ O H (F ρ) λb=>∀H',bj H H'->Q b H'
noncomputable def NT(X:Cx)(F:aW):TA:=λσ H Q=>∃O ρ,cY X.K O H ρ σ/\dX X σ O H (F ρ) λds=>∀vs H',bj H H'->aB X.K (hid H' O) ds vs->Q vs H'
noncomputable def FE(X:Cx)(e:Vk)(F:FX):Prop:=PE X e (tF X F)
noncomputable def FT(X:Cx)(e:Vk)(F:b6):Prop:=PT X e (Ml X F)
noncomputable def FW(X:Cx)(e:Vk)(F:b6):Prop:=PW X e (Ml X F)
noncomputable def FA(X:Cx)(es:bx)(F:aW):Prop:=PA X es (NT X F)
theorem PE.weak{X:Cx}{e:Vk}{t t':TE}(h:PE X e t)(w:∀σ H Q,t' σ H Q->t σ H Q):PE X e t':=λpins s σ H Q I q=>h pins s σ H Q I (w σ H Q q)
theorem PT.weak{X:Cx}{e:Vk}{t t':TT}(h:PT X e t)(w:∀σ H Q,t' σ H Q->t σ H Q):PT X e t':=λpins s σ H Q I q=>h pins s σ H Q I (w σ H Q q)
theorem PW.weak{X:Cx}{e:Vk}{t t':TT}(h:PW X e t)(w:∀σ H Q,t' σ H Q->t σ H Q):PW X e t':=λwhole pins s σ H Q I q=>h whole pins s σ H Q I (w σ H Q q)
theorem PA.weak{X:Cx}{es:bx}{t t':TA}(h:PA X es t)(w:∀σ H Q,t' σ H Q->t σ H Q):PA X es t':=λpos pins s σ H Q I q=>h pos pins s σ H Q I (w σ H Q q)
theorem PS.weak{X:Cx}{st:Vl}{t t':TS}(h:PS X st t)(w:∀D σ H,t' D σ H->t D σ H):PS X st t':=λpins s σ H Q I q=>h pins s σ H Q I (w Q σ H q)
theorem vW.weak{X:Cx}{st:dZ}{t t':TS}(h:vW X st t)(w:∀D σ H,t' D σ H->t D σ H):vW X st t':=λpins s σ H Q I q=>h pins s σ H Q I (w Q σ H q)
noncomputable def rK(ρ:ak)(i:Nat):R D:=match ρ[i]? with
 |some (some (.val d))=>.ok d
 |_=>un
theorem GW{ρ:ak}{i:Nat}{d:D}(h:rK ρ i=.ok d):ρ[i]?=some (some (.val d)):=by
 unfold rK at h;split at h
 ·rename_i e;cases h;exact e
 ·cases h
noncomputable def af(i:Nat):FX:=λρ=>rK ρ i
noncomputable def fC(d:D):FX:=λ_=>.ok d
section
variable{X:Cx}
theorem Au{σ:St}{O:aA}{H:Hp}{ρ:ak}{i:Nat}{Q:D->Prop}(h:dX X σ O H (rK ρ i) Q):∃d,ρ[i]?=some (some (.val d))/\Q d:=by
 cases e:rK ρ i with
 |ok d=>rw[e]at h;exact⟨d,GW e,h⟩
 |error z=>
  rw[e]at h;cases z with
  |none=>exact h.elim
  |some x=>
   exfalso;unfold rK at e;split at e
   ·cases e
   ·have:=Except.error.inj e;cases this
theorem mL{e:Vk}{d:D}{v:V}(h:PE X e (tC v))(hd:∀K H,b9 K H d v):FE X e (fC d):=
 PE.weak h λσ H Q ⟨O,ρ,E,q⟩=>q v H (bj.refl H) (hd _ _)
noncomputable def noStar:Vk->Bool
 |.Starred _ _=>false
 |_=>true
theorem dE{e:Vk}{es:bx}{env:Env}(h:noStar e=true):Vy (e::es) env=(false,eval e env)::Vy es env:=by
 cases e<;>first|rfl|cases h
theorem eV{pos:Pos}{env:Env}:∀{es:bx},es.all noStar=true->(backTo pos (Vy es env)).any (·.1)=false
 |[],_=>rfl
 |e::es,h=>by
  rw[Sw,R3]at h;rw[dE h.1];exact eV h.2
noncomputable def ah:aW:=λ_=>.ok []
noncomputable def ae(f:FX)(g:aW):aW:=λρ=>(f ρ).bind λx=>(g ρ).bind λxs=>.ok (x::xs)
theorem OU:FA X [] ah:=PA.weak xm λσ H Q ⟨O,ρ,E,q⟩=>q [] H (bj.refl H) (cf.mpr rfl)
theorem bind_some{α β:Type}{o:Option α}{f:α->Option β}{b:β}(h:o.bind f=some b):∃a,o=some a/\f a=some b:=by
 cases o with
 |none=>cases h
 |some a=>exact⟨a,rfl,h⟩
theorem pS{ε α β:Type}{o:Except ε α}{f:α->Except ε β}{b:β}(h:o.bind f=.ok b):∃a,o=.ok a/\f a=.ok b:=by
 cases o with
 |error _=>cases h
 |ok a=>exact⟨a,rfl,h⟩
theorem MB{e:Vk}{es:bx}{f:FX}{g:aW}(he:FE X e f)(hs:FA X es g)(hns:noStar e=true:=by rfl):FA X (e::es) (ae f g):=
 PA.weak (nD he hs (dE hns)) λσ H Q ⟨O,ρ,E,h⟩=>
  ⟨O,ρ,E,(dX.bind h).imp λx h v H1 s1 d1=>⟨O,ρ,E.same s1,((dX.bind h).mono s1).imp λxs q vs H2 s2 d2=>q (v::vs) H2 (s1.trans s2) (aK.mpr ⟨v,vs,rfl,d1.mono (bC s2),d2⟩)⟩⟩
noncomputable def small(n:Nat):Bool:=decide (n<=100000)
theorem dJ{n:Nat}(h:small n=true):n<=Vr:=Rq (of_decide_eq_true h) (by decide)
theorem eh{n:Nat}(h:n<=100000):small n=true:=decide_eq_true h
noncomputable def qV(xs:List D):bu:=if small xs.length then some (.tup xs)else none
noncomputable def lW(xs:List D):bu:=if small xs.length then some (.lst xs)else none
noncomputable def cA(g:aW):FX:=λρ=>(g ρ).bind λxs=>rO (qV xs)
noncomputable def fh(g:aW):FX:=λρ=>(g ρ).bind λxs=>rO (lW xs)
theorem aZ{α:Type}{c:Bool}{a b:α}(h:(if c then some a else none)=some b):c=true/\a=b:=by
 cases c with
 |true=>exact⟨rfl,Option.some.inj h⟩
 |false=>cases h
theorem eO{K:Ug}{H:Hp}{O:aA}{p:Vj}{ds:List D}{vs:aF}(hO:dz H O)(hp:H p=none)(d:aB K (hid H O) ds vs):b9 K (hid (upd H p (.tup vs)) O) (.tup ds) (.ref p):=
 bW.mpr ⟨p,vs,rfl,by rw[dH (hO.not hp),aH],d.mono (xK hp)⟩
theorem cZ{K:Ug}{H:Hp}{O:aA}{p:Vj}{ds:List D}{vs:aF}(hO:dz H O)(hp:H p=none)(d:aB K (hid H O) ds vs):b9 K (hid (upd H p (.lst vs)) O) (.lst ds) (.ref p):=
 b8.mpr ⟨p,vs,rfl,mJ.of (by rw[dH (hO.not hp),aH]),d.mono (xK hp)⟩
noncomputable def GQ(K:Ug)(r:V->Hp->VK->Prop)(g:D->bu):Prop:=
 ∀(a d:D)(x:V)(O:aA)(H:Hp)(Q:VK),dz H O->g a=some d->b9 K (hid H O) a x->(∀v H',bj H H'->b9 K (hid H' O) d v->Q v H')->r x H Q
noncomputable def f1(g:D->bu)(f:FX):FX:=λρ=>(f ρ).bind λa=>rO (g a)
noncomputable def cQ(K:Ug)(r:R2)(g:D->D->bu):Prop:=
 ∀(a b d:D)(x y:V)(O:aA)(H:Hp)(Q:VK),dz H O->g a b=some d->b9 K (hid H O) a x->b9 K (hid H O) b y->(∀v H',bj H H'->b9 K (hid H' O) d v->Q v H')->r x y H Q
noncomputable def f2(g:D->D->bu)(f1 f2:FX):FX:=λρ=>(f1 ρ).bind λa=>(f2 ρ).bind λb=>rO (g a b)
theorem uf{r:R2}{g:D->D->bu}{fa fb:FX}(s:cQ X.K r g):∀σ H Q,tF X (f2 g fa fb) σ H Q->Lh r (tF X fa) (tF X fb) σ H Q:=λσ H Q ⟨O,ρ,E,hF⟩=>
 ⟨O,ρ,E,(dX.bind hF).imp fun a hF x H1 s1 d1=>⟨O,ρ,E.same s1,((dX.bind hF).mono s1).imp fun b hF y H2 s2 d2=>by
  obtain⟨d,e,q⟩:=dX.rO hF;exact s a b d x y O H2 Q (E.all.same (s1.trans s2)) e (d1.mono (bC s2)) d2 λv H3 s3 d3=>q v H3 ((s1.trans s2).trans s3) d3⟩⟩
noncomputable def N5:D->Option Bool
 |.bl b=>some b
 |_=>none
noncomputable def fB(f:FX):b6:=λρ=>(f ρ).bind λd=>rO (N5 d)
theorem qD{t:TE}{f:FX}(h:∀σ H Q,tF X f σ H Q->t σ H Q):∀σ H Q,Ml X (fB f) σ H Q->A4 t σ H Q:=λσ H Q ⟨O,ρ,E,hF⟩=>
 h σ H _ ⟨O,ρ,E,(dX.bind hF).imp λd hF v H1 s1 d1=>by
  obtain⟨b,e,q⟩:=dX.rO hF;cases d with
  |bl b'=>
   cases e;exact⟨b,jG.mp d1,q H1 s1⟩
  |_=>cases e⟩
noncomputable def yJ(K:Ug)(r:aF->Hp->VK->Prop)(g:List D->bu):Prop:=
 ∀(ds:List D)(d:D)(xs:aF)(O:aA)(H:Hp)(Q:VK),dz H O->g ds=some d->aB K (hid H O) ds xs->(∀v H',bj H H'->b9 K (hid H' O) d v->Q v H')->r xs H Q
noncomputable def fL(g:List D->bu)(f:aW):FX:=λρ=>(f ρ).bind λds=>rO (g ds)
noncomputable def fR(g:bE)(f:aW):FX:=λρ=>(f ρ).bind g
theorem CF{r:aF->Hp->VK->Prop}{g:List D->bu}{f:aW}(s:yJ X.K r g):∀σ H Q,tF X (fL g f) σ H Q->NB r (NT X f) σ H Q:=λσ H Q ⟨O,ρ,E,hF⟩=>
 ⟨O,ρ,E,(dX.bind hF).imp fun ds hF vs H1 s1 d1=>by
  obtain⟨d,e,q⟩:=dX.rO hF;exact s ds d vs O H1 Q (E.all.same s1) e d1 λv H2 s2 d2=>q v H2 (s1.trans s2) d2⟩
noncomputable def nH(f:b6):b6:=λρ=>(f ρ).bind λb=>.ok (!b)
noncomputable def jT(f g:b6):b6:=λρ=>(f ρ).bind λb=>if b then g ρ else .ok false
noncomputable def BK(f g:b6):b6:=λρ=>(f ρ).bind λb=>if b then .ok true else g ρ
variable{a b c:Vk}{rest:bx}{pos:Pos}{f g:b6}
theorem FW.ft{e:Vk}(h:FW X e f):FT X e f:=PW.pt h
noncomputable def truth:D->Option Bool
 |.non=>some false
 |.bl b=>some b
 |.int i=>some (i !=0)
 |.str x=>if small x.length then some (x.length !=0)else none
 |.tup xs=>some (!xs.isEmpty)
 |.lst xs=>some (!xs.isEmpty)
 |_=>none
noncomputable def aS(f:FX):b6:=λρ=>(f ρ).bind λd=>rO (truth d)
noncomputable def wz(d:D)(k:R D):R D:=match d with
 |.bl true=>k
 |.bl false=>.ok (.bl false)
 |_=>un
noncomputable def KY(d:D)(k:R D):R D:=match d with
 |.bl false=>k
 |.bl true=>.ok (.bl true)
 |_=>un
noncomputable def JA:D->bu
 |.bl b=>some (.bl (!b))
 |_=>none
noncomputable def me(f g:FX):FX:=λρ=>(f ρ).bind λd=>wz d (g ρ)
noncomputable def xH(f g:FX):FX:=λρ=>(f ρ).bind λd=>KY d (g ρ)
noncomputable def qf(f:FX):FX:=f1 JA f
variable{fa fb:FX}
noncomputable def zY(t:b6)(f g:FX):FX:=λρ=>(t ρ).bind λc=>if c then f ρ else g ρ
end
end TG
namespace TG
open PySem PySem.Spec L2
variable[aw]
open PySem.SeqAt (EqAt RcAt RcNeAt)
mutual
noncomputable def pyEq:D->D->Bool
 |.non,.non=>true
 |.bl a,.bl b=>a==b
 |.bl a,.int b=>(if a then 1 else 0)==b
 |.int a,.bl b=>a==(if b then 1 else 0)
 |.int a,.int b=>a==b
 |.str a,.str b=>a==b
 |.tup xs,.tup ys=>cy xs ys
 |.lst xs,.lst ys=>cy xs ys
 |.dct _ _,.dct _ _=>true
 |.obj _ _ _,.obj _ _ _=>true
 |.exc _ _ _,.exc _ _ _=>true
 |_,_=>false
noncomputable def cy:List D->List D->Bool
 |[],[]=>true
 |x::xs,y::ys=>pyEq x y&&cy xs ys
 |_,_=>false
end
mutual
theorem jd:∀d:D,pyEq d d=true
 |.non=>by unfold pyEq;rfl
 |.bl b=>by unfold pyEq;simp
 |.int i=>by unfold pyEq;simp
 |.str x=>by unfold pyEq;simp
 |.tup xs=>by unfold pyEq;exact mq xs
 |.lst xs=>by unfold pyEq;exact mq xs
 |.dct _ _=>by unfold pyEq;rfl
 |.obj _ _ _=>by unfold pyEq;rfl
 |.exc _ _ _=>by unfold pyEq;rfl
theorem mq:∀ds:List D,cy ds ds=true
 |[]=>by unfold cy;rfl
 |d::ds=>by unfold cy;rw[jd d,mq ds];rfl
end
noncomputable def wN(xs ys:List D)(j:Nat):Bool:=match xs[j]?,ys[j]? with
 |some a,some b=>pyEq a b
 |_,_=>false
theorem fO:∀xs ys:List D,((List.range (min xs.length ys.length)).all (wN xs ys)&&xs.length==ys.length)=cy xs ys
 |[],[]=>by unfold cy;rfl
 |[],_::_=>by unfold cy;simp
 |_::_,[]=>by unfold cy;simp
 |x::xs,y::ys=>by
  have ih:=fO xs ys
  conv=>rhs;unfold cy
  rw[<-ih];have e:min (x::xs).length (y::ys).length=min xs.length ys.length+1:=by simp only[RG];omega
  rw[e,Sx,Sw,Sy];have e2:((x::xs).length==(y::ys).length)=(xs.length==ys.length):=by simp
  rw[e2,Bool.and_assoc];have e3:(List.range (min xs.length ys.length)).all (wN (x::xs) (y::ys)∘Nat.succ)=(List.range (min xs.length ys.length)).all (wN xs ys):=by
   congr 1
  rw[e3];rfl
mutual
noncomputable def pl:D->Bool
 |.tup xs=>mm xs
 |.lst xs=>mm xs
 |.dct _ _=>false
 |.obj _ _ _=>false
 |.exc _ _ _=>false
 |_=>true
noncomputable def mm:List D->Bool
 |[]=>true
 |x::xs=>pl x&&mm xs
end
theorem fU{ks vs:List D}(h:pl (.dct ks vs)=true):False:=by unfold pl at h;cases h
theorem fF{c:Str}{fs:av}{vs:List D}(h:pl (.obj c fs vs)=true):False:=by unfold pl at h;cases h
theorem fJ{c:Str}{fs:av}{vs:List D}(h:pl (.exc c fs vs)=true):False:=by unfold pl at h;cases h
theorem kO:∀{xs:List D},mm xs=true->∀x∈xs,pl x=true
 |[],_,_,h=>nomatch h
 |x::xs,h,y,hy=>by
  unfold mm at h;rw[R3]at h;rcases List.mem_cons.mp hy with z|z
  ·rw[z];exact h.1
  ·exact kO h.2 y z
theorem ug:∀{xs:List D},(∀x∈xs,pl x=true)->mm xs=true
 |[],_=>by unfold mm;rfl
 |x::xs,h=>by
  unfold mm;rw[R3];exact⟨h x Ru,ug λy hy=>h y (Rv _ hy)⟩
theorem cK{xs:List D}:pl (.tup xs)=mm xs:=by rw[pl]
theorem dU{xs:List D}:pl (.lst xs)=mm xs:=by rw[pl]
noncomputable def bY:Nat->D->Bool
 |n+1,.tup xs=>xs.all (bY n)
 |n+1,.lst xs=>xs.all (bY n)
 |0,.tup _=>false
 |0,.lst _=>false
 |_,.dct _ _=>false
 |_,.obj _ _ _=>false
 |_,.exc _ _ _=>false
 |_,_=>true
section
variable{X:Cx}{pins:bh}{σ:St}{H:Hp}{s:Vm}
theorem Inv.not_both(I:Inv X pins σ H s){a:Vj}{xs ys:aF}(h:oJ X.K H a xs)(h':mJ X.K H a ys):False:=by
 obtain⟨its,_,ht,_⟩:=I.tuple h;obtain⟨its2,_,hl,_⟩:=I.list h';exact absurd rfl (SeqAt.ne_of_list_tuple hl.isList (show s.heap.IsTuple a its.toArray from ht))
mutual
theorem Inv.den_inj(I:Inv X pins σ H s):∀{a b:D}{v:V},pl a=true->pl b=true->b9 X.K H a v->b9 X.K H b v->a=b
 |.non,b,v,pa,pb,h,h'=>by
  rw[jD]at h;subst h;cases b with
  |non=>rfl
  |bl _=>rw[jG]at h';cases h'
  |int _=>rw[eS]at h';cases h'
  |str _=>rw[eD]at h';cases h'
  |tup _=>rw[bW]at h';obtain⟨_,_,e,_⟩:=h';cases e
  |lst _=>rw[b8]at h';obtain⟨_,_,e,_⟩:=h';cases e
  |dct _ _=>exact(fU pb).elim
  |obj _ _ _=>exact(fF pb).elim
  |exc _ _ _=>exact(fJ pb).elim
 |.bl x,b,v,pa,pb,h,h'=>by
  rw[jG]at h;subst h;cases b with
  |non=>rw[jD]at h';cases h'
  |bl _=>rw[jG]at h';cases h';rfl
  |int _=>rw[eS]at h';cases h'
  |str _=>rw[eD]at h';cases h'
  |tup _=>rw[bW]at h';obtain⟨_,_,e,_⟩:=h';cases e
  |lst _=>rw[b8]at h';obtain⟨_,_,e,_⟩:=h';cases e
  |dct _ _=>exact(fU pb).elim
  |obj _ _ _=>exact(fF pb).elim
  |exc _ _ _=>exact(fJ pb).elim
 |.int x,b,v,pa,pb,h,h'=>by
  rw[eS]at h;subst h;cases b with
  |non=>rw[jD]at h';cases h'
  |bl _=>rw[jG]at h';cases h'
  |int _=>rw[eS]at h';cases h';rfl
  |str _=>rw[eD]at h';cases h'
  |tup _=>rw[bW]at h';obtain⟨_,_,e,_⟩:=h';cases e
  |lst _=>rw[b8]at h';obtain⟨_,_,e,_⟩:=h';cases e
  |dct _ _=>exact(fU pb).elim
  |obj _ _ _=>exact(fF pb).elim
  |exc _ _ _=>exact(fJ pb).elim
 |.str x,b,v,pa,pb,h,h'=>by
  rw[eD]at h;subst h;cases b with
  |non=>rw[jD]at h';cases h'
  |bl _=>rw[jG]at h';cases h'
  |int _=>rw[eS]at h';cases h'
  |str _=>rw[eD]at h';cases h';rfl
  |tup _=>rw[bW]at h';obtain⟨_,_,e,_⟩:=h';cases e
  |lst _=>rw[b8]at h';obtain⟨_,_,e,_⟩:=h';cases e
  |dct _ _=>exact(fU pb).elim
  |obj _ _ _=>exact(fF pb).elim
  |exc _ _ _=>exact(fJ pb).elim
 |.tup xs,b,v,pa,pb,h,h'=>by
  rw[bW]at h;obtain⟨a,vs,e,h1,h2⟩:=h;subst e;cases b with
  |non=>rw[jD]at h';cases h'
  |bl _=>rw[jG]at h';cases h'
  |int _=>rw[eS]at h';cases h'
  |str _=>rw[eD]at h';cases h'
  |tup ys=>
   rw[bW]at h';obtain⟨a',vs',e,h1',h2'⟩:=h';cases e;have ev:=I.tuple_inj (oJ.of h1) (oJ.of h1');subst ev;rw[Inv.denL_inj I (by first|rw[<-cK];exact pa|rw[<-dU];exact pa) (by first|rw[<-cK];exact pb|rw[<-dU];exact pb) h2 h2']
  |lst _=>rw[b8]at h';obtain⟨_,_,e,h1',_⟩:=h';cases e;exact(Inv.not_both I (oJ.of h1) h1').elim
  |dct _ _=>exact(fU pb).elim
  |obj _ _ _=>exact(fF pb).elim
  |exc _ _ _=>exact(fJ pb).elim
 |.lst xs,b,v,pa,pb,h,h'=>by
  rw[b8]at h;obtain⟨a,vs,e,h1,h2⟩:=h;subst e;cases b with
  |non=>rw[jD]at h';cases h'
  |bl _=>rw[jG]at h';cases h'
  |int _=>rw[eS]at h';cases h'
  |str _=>rw[eD]at h';cases h'
  |lst ys=>
   rw[b8]at h';obtain⟨a',vs',e,h1',h2'⟩:=h';cases e;have ev:=I.list_inj h1 h1';subst ev;rw[Inv.denL_inj I (by first|rw[<-cK];exact pa|rw[<-dU];exact pa) (by first|rw[<-cK];exact pb|rw[<-dU];exact pb) h2 h2']
  |tup _=>rw[bW]at h';obtain⟨_,_,e,h1',_⟩:=h';cases e;exact(Inv.not_both I (oJ.of h1') h1).elim
  |dct _ _=>exact(fU pb).elim
  |obj _ _ _=>exact(fF pb).elim
  |exc _ _ _=>exact(fJ pb).elim
 |.dct _ _,_,_,pa,_,_,_=>(fU pa).elim
 |.obj _ _ _,_,_,pa,_,_,_=>(fF pa).elim
 |.exc _ _ _,_,_,pa,_,_,_=>(fJ pa).elim
theorem Inv.denL_inj(I:Inv X pins σ H s):∀{as bs:List D}{vs:aF},mm as=true->mm bs=true->aB X.K H as vs->aB X.K H bs vs->as=bs
 |[],bs,vs,pa,pb,h,h'=>by
  rw[cf]at h;subst h;cases bs with
  |nil=>rfl
  |cons b bs=>rw[aK]at h';obtain⟨_,_,e,_⟩:=h';cases e
 |a::as,bs,vs,pa,pb,h,h'=>by
  rw[aK]at h;obtain⟨v,r,e,h1,h2⟩:=h;subst e;cases bs with
  |nil=>rw[cf]at h';cases h'
  |cons b bs=>
   rw[aK]at h';obtain⟨v',r',e,h1',h2'⟩:=h';cases e;unfold mm at pa pb;rw[R3]at pa pb;rw[Inv.den_inj I pa.1 pb.1 h1 h1',Inv.denL_inj I pa.2 pb.2 h2 h2']
end
noncomputable def lM:D->Option V
 |.non=>some .non
 |.bl b=>some (.bl b)
 |.int i=>some (.int i)
 |.str x=>some (.str x)
 |_=>none
theorem oA{K:Ug}{d:D}{v x:V}(h:lM d=some x)(hd:b9 K H d v):v=x/\DA x=true:=by
 cases d with
 |non=>cases h;exact⟨jD.mp hd,rfl⟩
 |bl b=>cases h;exact⟨jG.mp hd,rfl⟩
 |int i=>cases h;exact⟨eS.mp hd,rfl⟩
 |str y=>cases h;exact⟨eD.mp hd,rfl⟩
 |_=>cases h
theorem Gv{a b:D}{x y:V}(ha:lM a=some x)(hb:lM b=some y):Nq x y=pyEq a b:=by
 cases a<;>cases ha<;>cases b<;>cases hb<;>(unfold pyEq Nq;rfl)
theorem vO{a:D}{x:V}(n:Nat)(h:lM a=some x):bY n a=true:=by
 cases a with
 |tup _=>cases h
 |lst _=>cases h
 |dct _ _=>cases h
 |obj _ _ _=>cases h
 |exc _ _ _=>cases h
 |_=>cases n<;>rfl
theorem vU{a:D}(h:lM a=none):bY 0 a=false:=by
 cases a with
 |tup _=>rfl
 |lst _=>rfl
 |dct _ _=>rfl
 |obj _ _ _=>rfl
 |exc _ _ _=>rfl
 |_=>cases h
theorem in1_units(A:Vu):A.in1.units=A.units+1:=rfl
theorem mY{vs:aF}{us:bc}(r:Vals vs us){j:Nat}(h:j<us.toArray.size):∃x,vs[j]?=some x/\RelV x us.toArray[j]:=by
 have hj:j<us.length:=by simpa using h
 have hl:=r.length;have hv:j<vs.length:=by omega
 obtain⟨u,e,ru⟩:=r.get (i:=j) (x:=vs[j]) (by simp[hv]);refine⟨vs[j],by simp[hv],?_⟩;have e2:us.toArray[j]=u:=by
  rw[Sz hj]at e
  simpa using Option.some.inj e
 rw[e2];exact ru
theorem nz{K:Ug}{ds:List D}{vs:aF}(h:aB K H ds vs){j:Nat}{x:V}(e:vs[j]?=some x):∃d,ds[j]?=some d/\b9 K H d x:=by
 have hj:j<vs.length:=(List.getElem?_eq_some_iff.mp e).1;have hl:=h.length;have hd:j<ds.length:=by omega
 obtain⟨v,e1,e2⟩:=h.get (i:=j) (d:=ds[j]) (by simp[hd]);rw[e]at e1;cases e1;exact⟨ds[j],by simp[hd],e2⟩
theorem Cm(I:Inv X pins σ H s):∀(n:Nat)(a b:D)(x y:V)(u v:Vh)(A:Vu),pl a=true->pl b=true->(bY n a=true\/bY n b=true)->b9 X.K H a x->b9 X.K H b y->RelV x u->RelV y v->A.units+n<VX->EqAt A s u v (pyEq a b):=by
 intro n
 induction n with
 |zero=>
  intro a b x y u v A pa pb hd ha hb ru rv hA;have hu:A.units<VX:=hA;cases ha':lM a with
  |some x'=>
   obtain⟨e,f⟩:=oA ha' ha;subst e;cases hb':lM b with
   |some y'=>
    obtain⟨e,f'⟩:=oA hb' hb;subst e;rw[<-Gv ha' hb'];exact IR ru rv f f'
   |none=>
    cases b with
    |tup ys=>
     rw[bW]at hb;obtain⟨p,vs,e,h1,h2⟩:=hb;subst e;cases rv;obtain⟨its,_,ht,_⟩:=I.tuple (oJ.of h1);have ht':s.heap.IsTuple p its.toArray:=ht;cases a with
     |non=>cases ha';cases ru;unfold pyEq;exact .none_tuple ht' hu
     |bl z=>cases ha';cases ru;unfold pyEq;exact .bool_tuple z ht' hu
     |int z=>cases ha';obtain⟨t,rfl⟩:=ru;unfold pyEq;exact .int_tuple z t ht' hu
     |str z=>cases ha';obtain⟨t,rfl⟩:=ru;unfold pyEq;exact .str_tuple z t ht' hu
     |_=>cases ha'
    |lst ys=>
     rw[b8]at hb;obtain⟨p,vs,e,h1,h2⟩:=hb;subst e;cases rv;obtain⟨its,_,ht,_⟩:=I.list h1;have ht':s.heap.IsList p its.toArray:=ht.isList;cases a with
     |non=>cases ha';cases ru;unfold pyEq;exact .none_list ht' hu
     |bl z=>cases ha';cases ru;unfold pyEq;exact .bool_list z ht' hu
     |int z=>cases ha';obtain⟨t,rfl⟩:=ru;unfold pyEq;exact .int_list z t ht' hu
     |str z=>cases ha';obtain⟨t,rfl⟩:=ru;unfold pyEq;exact .str_list z t ht' hu
     |_=>cases ha'
    |dct _ _=>exact(fU pb).elim
    |obj _ _ _=>exact(fF pb).elim
    |exc _ _ _=>exact(fJ pb).elim
    |_=>cases hb'
  |none=>
   have hdb:bY 0 b=true:=by
    rcases hd with hd|hd
    ·rw[vU ha']at hd;cases hd
    ·exact hd
   cases hb':lM b with
   |none=>rw[vU hb']at hdb;cases hdb
   |some y'=>
    obtain⟨e,f'⟩:=oA hb' hb;subst e;cases a with
    |tup xs=>
     rw[bW]at ha;obtain⟨p,vs,e,h1,h2⟩:=ha;subst e;cases ru;obtain⟨its,_,ht,_⟩:=I.tuple (oJ.of h1);have ht':s.heap.IsTuple p its.toArray:=ht;cases b with
     |non=>cases hb';cases rv;unfold pyEq;exact .tuple_none ht' hu
     |bl z=>cases hb';cases rv;unfold pyEq;exact .tuple_bool z ht' hu
     |int z=>cases hb';obtain⟨t,rfl⟩:=rv;unfold pyEq;exact .tuple_int z t ht' hu
     |str z=>cases hb';obtain⟨t,rfl⟩:=rv;unfold pyEq;exact .tuple_str z t ht' hu
     |_=>cases hb'
    |lst xs=>
     rw[b8]at ha;obtain⟨p,vs,e,h1,h2⟩:=ha;subst e;cases ru;obtain⟨its,_,ht,_⟩:=I.list h1;have ht':s.heap.IsList p its.toArray:=ht.isList;cases b with
     |non=>cases hb';cases rv;unfold pyEq;exact .list_none ht' hu
     |bl z=>cases hb';cases rv;unfold pyEq;exact .list_bool z ht' hu
     |int z=>cases hb';obtain⟨t,rfl⟩:=rv;unfold pyEq;exact .list_int z t ht' hu
     |str z=>cases hb';obtain⟨t,rfl⟩:=rv;unfold pyEq;exact .list_str z t ht' hu
     |_=>cases hb'
    |dct _ _=>exact(fU pa).elim
    |obj _ _ _=>exact(fF pa).elim
    |exc _ _ _=>exact(fJ pa).elim
    |_=>cases ha'
 |succ n ih=>
  intro a b x y u v A pa pb hd ha hb ru rv hA;have hu:A.units<VX:=by omega
  have flatWay:(∀xs ys,¬(a=.tup xs/\b=.tup ys))->(∀xs ys,¬(a=.lst xs/\b=.lst ys))->EqAt A s u v (pyEq a b):=by
   intro n1 n2;cases ha':lM a with
   |some x'=>exact ih a b x y u v A pa pb (.inl (vO n ha')) ha hb ru rv ‹0›
   |none=>
    cases hb':lM b with
    |some y'=>exact ih a b x y u v A pa pb (.inr (vO n hb')) ha hb ru rv ‹0›
    |none=>
     cases a with
     |tup xs=>
      cases b with
      |tup ys=>exact absurd ⟨rfl,rfl⟩ (n1 xs ys)
      |lst ys=>
       rw[bW]at ha;obtain⟨p,vs,e,h1,h2⟩:=ha;subst e;rw[b8]at hb;obtain⟨p',vs',e,h1',h2'⟩:=hb;subst e;cases ru;cases rv;obtain⟨its,_,ht,_⟩:=I.tuple (oJ.of h1);obtain⟨its2,_,ht2,_⟩:=I.list h1';unfold pyEq;exact .tuple_list (show s.heap.IsTuple p its.toArray from ht) ht2.isList hu
      |dct _ _=>exact(fU pb).elim
      |obj _ _ _=>exact(fF pb).elim
      |exc _ _ _=>exact(fJ pb).elim
      |_=>cases hb'
     |lst xs=>
      cases b with
      |lst ys=>exact absurd ⟨rfl,rfl⟩ (n2 xs ys)
      |tup ys=>
       rw[b8]at ha;obtain⟨p,vs,e,h1,h2⟩:=ha;subst e;rw[bW]at hb;obtain⟨p',vs',e,h1',h2'⟩:=hb;subst e;cases ru;cases rv;obtain⟨its,_,ht,_⟩:=I.list h1;obtain⟨its2,_,ht2,_⟩:=I.tuple (oJ.of h1');unfold pyEq;exact .list_tuple ht.isList (show s.heap.IsTuple p' its2.toArray from ht2) hu
      |dct _ _=>exact(fU pb).elim
      |obj _ _ _=>exact(fF pb).elim
      |exc _ _ _=>exact(fJ pb).elim
      |_=>cases hb'
     |dct _ _=>exact(fU pa).elim
     |obj _ _ _=>exact(fF pa).elim
     |exc _ _ _=>exact(fJ pa).elim
     |_=>cases ha'
  have items:∀(xs ys:List D)(vs vs':aF)(its its':bc),mm xs=true->mm ys=true->(bY (n+1) (.tup xs)=true\/bY (n+1) (.tup ys)=true)->aB X.K H xs vs->aB X.K H ys vs'->Vals vs its->Vals vs' its'->
    ∀j (h1:j<its.toArray.size) (h2:j<its'.toArray.size),EqAt A.in1 s its.toArray[j] its'.toArray[j] (wN xs ys j):=by
   intro xs ys vs vs' its its' px py hdd hx hy rx ry j h1 h2;obtain⟨w1,e1,r1⟩:=mY rx h1;obtain⟨w2,e2,r2⟩:=mY ry h2;obtain⟨d1,f1,g1⟩:=nz hx e1;obtain⟨d2,f2,g2⟩:=nz hy e2;have e3:wN xs ys j=pyEq d1 d2:=(by unfold wN;rw[f1,f2]);rw[e3];refine ih d1 d2 w1 w2 _ _ A.in1 (kO px _ (RY f1)) (kO py _ (RY f2)) ?_ g1 g2 r1 r2 (by rw[in1_units];omega);rcases hdd with hdd|hdd
   ·exact .inl (List.all_eq_true.mp hdd d1 (RY f1))
   ·exact .inr (List.all_eq_true.mp hdd d2 (RY f2))
  by_cases hT:∃xs ys,a=.tup xs/\b=.tup ys
  ·obtain⟨xs,ys,rfl,rfl⟩:=hT;have da:=ha;have db:=hb;rw[bW]at ha hb;obtain⟨p,vs,e,h1,h2⟩:=ha;subst e;obtain⟨p',vs',e,h1',h2'⟩:=hb;subst e;cases ru;cases rv;by_cases hp:p=p'
   ·subst hp;have e:=Inv.den_inj I pa pb da db;rw[e,jd];exact EqAt.same _
   ·obtain⟨its,rv1,ht,_⟩:=I.tuple (oJ.of h1);obtain⟨its2,rv2,ht2,_⟩:=I.tuple (oJ.of h1');refine EqAt.of_refs hp ?_;have q:=RcAt.tuples (e:=wN xs ys) (show s.heap.IsTuple p its.toArray from ht) (show s.heap.IsTuple p' its2.toArray from ht2) hu (items xs ys vs vs' its its2 (by first|rw[<-cK];exact pa|rw[<-dU];exact pa) (by first|rw[<-cK];exact pb|rw[<-dU];exact pb) hd h2 h2' rv1 rv2);have z1:its.toArray.size=xs.length:=(by rw[RE,<-rv1.length,<-h2.length]);have z2:its2.toArray.size=ys.length:=(by rw[RE,<-rv2.length,<-h2'.length]);rw[z1,z2,fO]at q;unfold pyEq;exact q
  ·by_cases hL:∃xs ys,a=.lst xs/\b=.lst ys
   ·obtain⟨xs,ys,rfl,rfl⟩:=hL;have da:=ha;have db:=hb;rw[b8]at ha hb;obtain⟨p,vs,e,h1,h2⟩:=ha;subst e;obtain⟨p',vs',e,h1',h2'⟩:=hb;subst e;cases ru;cases rv;by_cases hp:p=p'
    ·subst hp;have e:=Inv.den_inj I pa pb da db;rw[e,jd];exact EqAt.same _
    ·obtain⟨its,rv1,ht,_⟩:=I.list h1;obtain⟨its2,rv2,ht2,_⟩:=I.list h1';refine EqAt.of_refs hp ?_;have z1:its.toArray.size=xs.length:=(by rw[RE,<-rv1.length,<-h2.length]);have z2:its2.toArray.size=ys.length:=(by rw[RE,<-rv2.length,<-h2'.length]);have er:=fO xs ys;by_cases hz:its.toArray.size=its2.toArray.size
     ·have q:=RcAt.lists (e:=wN xs ys) ht.isList ht2.isList hz hu (items xs ys vs vs' its its2 (by first|rw[<-cK];exact pa|rw[<-dU];exact pa) (by first|rw[<-cK];exact pb|rw[<-dU];exact pb) hd h2 h2' rv1 rv2);rw[z1]at q;have hz':xs.length=ys.length:=(by omega);rw[<-hz',SA]at er;simp only[beq_self_eq_true,SD]at er;rw[er]at q;unfold pyEq;exact q
     ·have hne:(its.toArray.size !=its2.toArray.size)=true:=(by simpa using hz);have q:=RcAt.lists_lengths (A:=A) ht.isList ht2.isList hne hu;have hz':(xs.length==ys.length)=false:=by
       rw[z1,z2]at hz
       simpa using hz
      rw[hz',SE]at er;unfold pyEq;rw[<-er];exact q
   ·exact flatWay (λxs ys z=>hT ⟨xs,ys,z⟩) λxs ys z=>hL ⟨xs,ys,z⟩
end
end TG
namespace TG
open PySem PySem.Spec L2
variable[aw]
open PySem.SeqAt (EqAt RcAt RcNeAt)
section
variable{X:Cx}{pins:bh}{σ:St}{H:Hp}{s:Vm}
theorem pY(I:Inv X pins σ H s){n:Nat}{xs ys:List D}{vs vs':aF}{its its':bc}{A:Vu}(px:mm xs=true)(py:mm ys=true)(hdd:bY (n+1) (.tup xs)=true\/bY (n+1) (.tup ys)=true)(hx:aB X.K H xs vs)(hy:aB X.K H ys vs')(rx:Vals vs its)(ry:Vals vs' its')(hA:A.units+n<VX):
  ∀j (h1:j<its.toArray.size) (h2:j<its'.toArray.size),EqAt A s its.toArray[j] its'.toArray[j] (wN xs ys j):=by
 intro j h1 h2;obtain⟨w1,e1,r1⟩:=mY rx h1;obtain⟨w2,e2,r2⟩:=mY ry h2;obtain⟨d1,f1,g1⟩:=nz hx e1;obtain⟨d2,f2,g2⟩:=nz hy e2;have e3:wN xs ys j=pyEq d1 d2:=by unfold wN;rw[f1,f2]
 rw[e3];refine Cm I n d1 d2 w1 w2 _ _ A (kO px _ (RY f1)) (kO py _ (RY f2)) ?_ g1 g2 r1 r2 hA;rcases hdd with hdd|hdd
 ·exact .inl (List.all_eq_true.mp hdd d1 (RY f1))
 ·exact .inr (List.all_eq_true.mp hdd d2 (RY f2))
inductive Way(I:Inv X pins σ H s):D->Vh->Prop where
 |non:Way I .non .none
 |bl (b:Bool):Way I (.bl b) (.bool b)
 |int (i:Int) (t:Tok):Way I (.int i) (.int i t)
 |str (x:Str) (t:Tok):Way I (.str x) (.str x t)
 |tup {xs:List D} {p:Vj} {vs:aF} {its:bc} (h:aB X.K H xs vs) (r:Vals vs its) (t:s.heap.IsTuple p its.toArray):Way I (.tup xs) (.ref p)
 |lst {xs:List D} {p:Vj} {vs:aF} {its:bc} (h:aB X.K H xs vs) (r:Vals vs its) (t:s.heap.IsList p its.toArray):Way I (.lst xs) (.ref p)
noncomputable def top:D->Bool
 |.dct _ _=>false
 |.obj _ _ _=>false
 |.exc _ _ _=>false
 |_=>true
theorem eX{d:D}(h:pl d=true):top d=true:=by
 cases d with
 |dct _ _=>exact(fU h).elim
 |obj _ _ _=>exact(fF h).elim
 |exc _ _ _=>exact(fJ h).elim
 |_=>rfl
theorem eL(I:Inv X pins σ H s){d:D}{v:V}{u:Vh}(pd:top d=true)(h:b9 X.K H d v)(r:RelV v u):Way I d u:=by
 cases d with
 |non=>rw[jD]at h;subst h;cases r;exact .non
 |bl b=>rw[jG]at h;subst h;cases r;exact .bl b
 |int i=>rw[eS]at h;subst h;obtain⟨t,rfl⟩:=r;exact .int i t
 |str x=>rw[eD]at h;subst h;obtain⟨t,rfl⟩:=r;exact .str x t
 |tup xs=>
  rw[bW]at h;obtain⟨p,vs,e,h1,h2⟩:=h;subst e;cases r;obtain⟨its,rv,ht,_⟩:=I.tuple (oJ.of h1);exact .tup h2 rv ht
 |lst xs=>
  rw[b8]at h;obtain⟨p,vs,e,h1,h2⟩:=h;subst e;cases r;obtain⟨its,rv,ht,_⟩:=I.list h1;exact .lst h2 rv ht.isList
 |dct _ _=>cases pd
 |obj _ _ _=>cases pd
 |exc _ _ _=>cases pd
theorem Ig(I:Inv X pins σ H s){n:Nat}{a b:D}{x y:V}{u v:Vh}{A:Vu}(pa:pl a=true)(pb:pl b=true)(hd:bY (n+1) a=true\/bY (n+1) b=true)(ha:b9 X.K H a x)(hb:b9 X.K H b y)(ru:RelV x u)(rv:RelV y v)(hA:A.units+n+1<VX):RcAt A s u v (pyEq a b):=by
 have hu:A.units<VX:=by omega
 cases eL I (eX pa) ha ru with
 |non=>cases eL I (eX pb) hb rv with
  |non=>unfold pyEq;exact .none_none
  |bl b=>unfold pyEq;exact .none_bool b
  |int i t=>unfold pyEq;exact .none_int i t
  |str x t=>unfold pyEq;exact .none_str x t
  |tup h r t=>unfold pyEq;exact .none_tuple t hu
  |lst h r t=>unfold pyEq;exact .none_list t hu
 |bl z=>cases eL I (eX pb) hb rv with
  |non=>unfold pyEq;exact .bool_none z
  |bl b=>unfold pyEq;exact .bool_bool z b
  |int i t=>unfold pyEq;exact .bool_int z i t
  |str x t=>unfold pyEq;exact .bool_str z x t
  |tup h r t=>unfold pyEq;exact .bool_tuple z t hu
  |lst h r t=>unfold pyEq;exact .bool_list z t hu
 |int z tz=>cases eL I (eX pb) hb rv with
  |non=>unfold pyEq;exact .int_none z tz
  |bl b=>unfold pyEq;exact .int_bool z tz b
  |int i t=>unfold pyEq;exact .int_int z tz i t
  |str x t=>unfold pyEq;exact .int_str z tz x t
  |tup h r t=>unfold pyEq;exact .int_tuple z tz t hu
  |lst h r t=>unfold pyEq;exact .int_list z tz t hu
 |str z tz=>cases eL I (eX pb) hb rv with
  |non=>unfold pyEq;exact .str_none z tz
  |bl b=>unfold pyEq;exact .str_bool z tz b
  |int i t=>unfold pyEq;exact .str_int z tz i t
  |str x t=>unfold pyEq;exact .str_str z tz x t
  |tup h r t=>unfold pyEq;exact .str_tuple z tz t hu
  |lst h r t=>unfold pyEq;exact .str_list z tz t hu
 |@tup xs p vs its h1 r1 t1=>cases eL I (eX pb) hb rv with
  |non=>unfold pyEq;exact .tuple_none t1 hu
  |bl b=>unfold pyEq;exact .tuple_bool b t1 hu
  |int i t=>unfold pyEq;exact .tuple_int i t t1 hu
  |str x t=>unfold pyEq;exact .tuple_str x t t1 hu
  |@tup ys p' vs' its' h2 r2 t2=>
   have q:=RcAt.tuples (e:=wN xs ys) t1 t2 hu (pY (A:=A.in1) I (by first|rw[<-cK];exact pa|rw[<-dU];exact pa) (by first|rw[<-cK];exact pb|rw[<-dU];exact pb) hd h1 h2 r1 r2 (by rw[in1_units];omega));have z1:its.toArray.size=xs.length:=(by rw[RE,<-r1.length,<-h1.length]);have z2:its'.toArray.size=ys.length:=(by rw[RE,<-r2.length,<-h2.length]);rw[z1,z2,fO]at q;unfold pyEq;exact q
  |lst h r t=>unfold pyEq;exact .tuple_list t1 t hu
 |@lst xs p vs its h1 r1 t1=>cases eL I (eX pb) hb rv with
  |non=>unfold pyEq;exact .list_none t1 hu
  |bl b=>unfold pyEq;exact .list_bool b t1 hu
  |int i t=>unfold pyEq;exact .list_int i t t1 hu
  |str x t=>unfold pyEq;exact .list_str x t t1 hu
  |tup h r t=>unfold pyEq;exact .list_tuple t1 t hu
  |@lst ys p' vs' its' h2 r2 t2=>
   have z1:its.toArray.size=xs.length:=(by rw[RE,<-r1.length,<-h1.length]);have z2:its'.toArray.size=ys.length:=(by rw[RE,<-r2.length,<-h2.length]);have er:=fO xs ys;by_cases hz:its.toArray.size=its'.toArray.size
   ·have q:=RcAt.lists (e:=wN xs ys) t1 t2 hz hu (pY (A:=A.in1) I (by first|rw[<-cK];exact pa|rw[<-dU];exact pa) (by first|rw[<-cK];exact pb|rw[<-dU];exact pb) hd h1 h2 r1 r2 (by rw[in1_units];omega));rw[z1]at q;have hz':xs.length=ys.length:=(by omega);rw[<-hz',SA]at er;simp only[beq_self_eq_true,SD]at er;rw[er]at q;unfold pyEq;exact q
   ·have q:=RcAt.lists_lengths (A:=A) t1 t2 (by simpa using hz) hu;have hz':(xs.length==ys.length)=false:=by
     rw[z1,z2]at hz
     simpa using hz
    rw[hz',SE]at er;unfold pyEq;rw[<-er];exact q
theorem Cg(I:Inv X pins σ H s){n:Nat}{a b:D}{x y:V}{u v:Vh}{A:Vu}(pa:pl a=true)(pb:pl b=true)(hd:bY (n+1) a=true\/bY (n+1) b=true)(ha:b9 X.K H a x)(hb:b9 X.K H b y)(ru:RelV x u)(rv:RelV y v)(hA:A.units+n+1<VX):RcNeAt A s u v (!pyEq a b):=by
 have hu:A.units<VX:=by omega
 cases eL I (eX pa) ha ru with
 |non=>cases eL I (eX pb) hb rv with
  |non=>unfold pyEq;exact .none_none
  |bl b=>unfold pyEq;exact .none_bool b
  |int i t=>unfold pyEq;exact .none_int i t
  |str x t=>unfold pyEq;exact .none_str x t
  |tup h r t=>unfold pyEq;exact .none_tuple t hu
  |lst h r t=>unfold pyEq;exact .none_list t hu
 |bl z=>cases eL I (eX pb) hb rv with
  |non=>unfold pyEq;exact .bool_none z
  |bl b=>unfold pyEq;exact .bool_bool z b
  |int i t=>unfold pyEq;exact .bool_int z i t
  |str x t=>unfold pyEq;exact .bool_str z x t
  |tup h r t=>unfold pyEq;exact .bool_tuple z t hu
  |lst h r t=>unfold pyEq;exact .bool_list z t hu
 |int z tz=>cases eL I (eX pb) hb rv with
  |non=>unfold pyEq;exact .int_none z tz
  |bl b=>unfold pyEq;exact .int_bool z tz b
  |int i t=>unfold pyEq;exact .int_int z tz i t
  |str x t=>unfold pyEq;exact .int_str z tz x t
  |tup h r t=>unfold pyEq;exact .int_tuple z tz t hu
  |lst h r t=>unfold pyEq;exact .int_list z tz t hu
 |str z tz=>cases eL I (eX pb) hb rv with
  |non=>unfold pyEq;exact .str_none z tz
  |bl b=>unfold pyEq;exact .str_bool z tz b
  |int i t=>unfold pyEq;exact .str_int z tz i t
  |str x t=>unfold pyEq;exact .str_str z tz x t
  |tup h r t=>unfold pyEq;exact .str_tuple z tz t hu
  |lst h r t=>unfold pyEq;exact .str_list z tz t hu
 |@tup xs p vs its h1 r1 t1=>cases eL I (eX pb) hb rv with
  |non=>unfold pyEq;exact .tuple_none t1 hu
  |bl b=>unfold pyEq;exact .tuple_bool b t1 hu
  |int i t=>unfold pyEq;exact .tuple_int i t t1 hu
  |str x t=>unfold pyEq;exact .tuple_str x t t1 hu
  |@tup ys p' vs' its' h2 r2 t2=>
   have q:=RcNeAt.tuples (e:=wN xs ys) t1 t2 hu (pY (A:=A.in1) I (by first|rw[<-cK];exact pa|rw[<-dU];exact pa) (by first|rw[<-cK];exact pb|rw[<-dU];exact pb) hd h1 h2 r1 r2 (by rw[in1_units];omega));have z1:its.toArray.size=xs.length:=(by rw[RE,<-r1.length,<-h1.length]);have z2:its'.toArray.size=ys.length:=(by rw[RE,<-r2.length,<-h2.length]);rw[z1,z2,fO]at q;unfold pyEq;exact q
  |lst h r t=>unfold pyEq;exact .tuple_list t1 t hu
 |@lst xs p vs its h1 r1 t1=>cases eL I (eX pb) hb rv with
  |non=>unfold pyEq;exact .list_none t1 hu
  |bl b=>unfold pyEq;exact .list_bool b t1 hu
  |int i t=>unfold pyEq;exact .list_int i t t1 hu
  |str x t=>unfold pyEq;exact .list_str x t t1 hu
  |tup h r t=>unfold pyEq;exact .list_tuple t1 t hu
  |@lst ys p' vs' its' h2 r2 t2=>
   have z1:its.toArray.size=xs.length:=(by rw[RE,<-r1.length,<-h1.length]);have z2:its'.toArray.size=ys.length:=(by rw[RE,<-r2.length,<-h2.length]);have er:=fO xs ys;by_cases hz:its.toArray.size=its'.toArray.size
   ·have q:=RcNeAt.lists (e:=wN xs ys) t1 t2 hz hu (pY (A:=A.in1) I (by first|rw[<-cK];exact pa|rw[<-dU];exact pa) (by first|rw[<-cK];exact pb|rw[<-dU];exact pb) hd h1 h2 r1 r2 (by rw[in1_units];omega));rw[z1]at q;have hz':xs.length=ys.length:=(by omega);rw[<-hz',SA]at er;simp only[beq_self_eq_true,SD]at er;rw[er]at q;unfold pyEq;exact q
   ·have q:=RcNeAt.lists_lengths (A:=A) t1 t2 (by simpa using hz) hu;have hz':(xs.length==ys.length)=false:=by
     rw[z1,z2]at hz
     simpa using hz
    rw[hz',SE]at er;unfold pyEq;rw[<-er];exact q
end
section
variable{X:Cx}
noncomputable def rD(K:Ug)(g:D->D->bu):R2:=λx y H Q=>∃O a b d,dz H O/\b9 K (hid H O) a x/\b9 K (hid H O) b y/\g a b=some d/\∀v H',bj H H'->b9 K (hid H' O) d v->Q v H'
theorem cj{K:Ug}{g:D->D->bu}:cQ K (rD K g) g:=λa b d x y O H Q hO hg ha hb q=>⟨O,a,b,d,hO,ha,hb,hg,q⟩
theorem ni{f : Vh -> Vh -> Sem Vh}{g : D -> D -> bu}(h : ∀ (pins : bh) (s : Vm) (σ : St) (H : Hp) (a b d : D) (x y : V) (u v : Vh), Inv X pins σ H s -> b9 X.K H a x -> b9 X.K H b y -> RelV x u -> RelV y v -> g a b = some d ->
      ∃c,d=.bl c/\∀(Q:bT),Q (.bool c) s->Vx (model X.prog X.w) X.A (f u v) Q X.xe s):iK X f (rD X.K g):=by
  rintro pins s σ H x y u v Q I rx ry ⟨O,a,b,d,hO,ha,hb,hg,q⟩;obtain⟨c,rfl,hq⟩:=h pins s σ H a b d x y u v I (ha.mono (au H O)) (hb.mono (au H O)) rx ry hg;exact hq _ ⟨.bl c,H,I,rfl,q _ H (bj.refl H) (jG.mpr rfl)⟩
noncomputable def gEq(a b:D):bu:=if(pl a&&pl b)&&(bY 8 a||bY 8 b)then some (.bl (pyEq a b))else none
noncomputable def tQ(a b:D):bu:=if(pl a&&pl b)&&(bY 8 a||bY 8 b)then some (.bl (!pyEq a b))else none
theorem DN(hu:X.A.units+64<VX):iK X (VB .Eq) (rD X.K gEq):=ni λpins s σ H a b d x y u v I ha hb ru rv hg=>by
 obtain⟨h1,h2⟩:=aZ hg;subst h2;rw[R3,R3,SF]at h1;exact⟨_,rfl,λQ q=>Ig (n:=7) (A:=X.A) I h1.1.1 h1.1.2 h1.2 ha hb ru rv ‹0› X.prog X.w X.xe Q q⟩
theorem Cw(hu:X.A.units+64<VX):iK X (VB .NotEq) (rD X.K tQ):=ni λpins s σ H a b d x y u v I ha hb ru rv hg=>by
 obtain⟨h1,h2⟩:=aZ hg;subst h2;rw[R3,R3,SF]at h1;exact⟨_,rfl,λQ q=>Cg (n:=7) (A:=X.A) I h1.1.1 h1.1.2 h1.2 ha hb ru rv ‹0› X.prog X.w X.xe Q q⟩
noncomputable def inD(x:D)(ys:List D):Bool:=ys.any λy=>pyEq y x
noncomputable def xx(x y:D):bu:=match y with
 |.tup ys=>if(pl x&&mm ys)&&bY 8 x then some (.bl (inD x ys))else none
 |.lst ys=>if(pl x&&mm ys)&&bY 8 x then some (.bl (inD x ys))else none
 |_=>none
noncomputable def my(x y:D):bu:=match y with
 |.tup ys=>if(pl x&&mm ys)&&bY 8 x then some (.bl (!inD x ys))else none
 |.lst ys=>if(pl x&&mm ys)&&bY 8 x then some (.bl (!inD x ys))else none
 |_=>none
open Classical in
theorem yd{pins:bh}{σ:St}{H:Hp}{s:Vm}(I:Inv X pins σ H s){xd:D}{x:V}{u:Vh}{A:Vu}(px:pl xd=true)(hd:bY 8 xd=true)(hx:b9 X.K H xd x)(ru:RelV x u)(hA:A.units+8<VX){ys:List D}{vs:aF}{its:bc}(py:mm ys=true)(hy:aB X.K H ys vs)(rv:Vals vs its):
  ∃e:Vh->Bool,(∀y,y∈its.toArray->EqAt A s y u (e y))/\its.toArray.any e=inD xd ys:=by
 let e:Vh->Bool:=λy=>decide (∃d w,pl d=true/\b9 X.K H d w/\RelV w y/\pyEq d xd=true)
 have he:∀d w y,pl d=true->b9 X.K H d w->RelV w y->e y=pyEq d xd:=λd w y h0 h1 h2=>by
  cases hq:pyEq d xd with
  |true=>exact decide_eq_true ⟨d,w,h0,h1,h2,hq⟩
  |false=>
   refine decide_eq_false ?_;rintro⟨d',w',g0,g1,g2,g3⟩;have ew:=RelV.inj h2 g2;subst ew;rw[Inv.den_inj I h0 g0 h1 g1,g3]at hq;cases hq
 refine⟨e,λy hy'=>?_,?_⟩
 ·have hm:y∈its:=by simpa using hy'
  obtain⟨j,hj,rfl⟩:=SG hm;obtain⟨w,e1,r1⟩:=mY rv (j:=j) (by simpa using hj);obtain⟨d,f1,g1⟩:=nz hy e1;have r1':RelV w its[j]:=by simpa using r1
  have pd:=kO py _ (RY f1);rw[he d w _ pd g1 r1'];exact Cm I 8 d xd w x _ u A pd px (.inr hd) g1 hx r1' ru hA
 ·unfold inD;have go:∀(ys:List D)(vs:aF)(its:bc),mm ys=true->aB X.K H ys vs->Vals vs its->its.any e=ys.any λy=>pyEq y xd:=by
   intro ys
   induction ys with
   |nil=>
    intro vs its py h r;rw[cf]at h;subst h;cases r;rfl
   |cons y ys ih=>
    intro vs its py h r;unfold mm at py;rw[R3]at py;rw[aK]at h;obtain⟨v,r',e1,h1,h2⟩:=h;subst e1;cases r with
    |cons q1 q2=>rw[R9,R9,he y v _ py.1 h1 q1,ih _ _ py.2 h2 q2]
  rw[List.any_toArray];exact go ys vs its py hy rv
theorem BL(hu:X.A.units+64<VX):iK X (VB .In) (rD X.K xx):=ni λpins s σ H a b d x y u v I ha hb ru rv hg=>by
 cases b with
 |tup ys=>
  obtain⟨h1,h2⟩:=aZ hg;subst h2;rw[R3,R3]at h1;rw[bW]at hb;obtain⟨p,vs,e,g1,g2⟩:=hb;subst e;cases rv;obtain⟨its,r,t,_⟩:=I.tuple (oJ.of g1);obtain⟨e,he,ea⟩:=yd (A:=X.A.in1) I h1.1.1 h1.2 ha ru (by rw[in1_units];omega) h1.1.2 g2 r;exact⟨_,rfl,λQ q=>SeqAt.in_tupleAt e (show s.heap.IsTuple p its.toArray from t) he (by rw[ea];exact q)⟩
 |lst ys=>
  obtain⟨h1,h2⟩:=aZ hg;subst h2;rw[R3,R3]at h1;rw[b8]at hb;obtain⟨p,vs,e,g1,g2⟩:=hb;subst e;cases rv;obtain⟨its,r,t,_⟩:=I.list g1;obtain⟨e,he,ea⟩:=yd (A:=X.A.in1) I h1.1.1 h1.2 ha ru (by rw[in1_units];omega) h1.1.2 g2 r;exact⟨_,rfl,λQ q=>SeqAt.in_listAt e t.isList he (by rw[ea];exact q)⟩
 |_=>cases hg
theorem sL(hu:X.A.units+64<VX):iK X (VB .NotIn) (rD X.K my):=ni λpins s σ H a b d x y u v I ha hb ru rv hg=>by
 cases b with
 |tup ys=>
  obtain⟨h1,h2⟩:=aZ hg;subst h2;rw[R3,R3]at h1;rw[bW]at hb;obtain⟨p,vs,e,g1,g2⟩:=hb;subst e;cases rv;obtain⟨its,r,t,_⟩:=I.tuple (oJ.of g1);obtain⟨e,he,ea⟩:=yd (A:=X.A.in1) I h1.1.1 h1.2 ha ru (by rw[in1_units];omega) h1.1.2 g2 r;exact⟨_,rfl,λQ q=>SeqAt.notIn_tupleAt e (show s.heap.IsTuple p its.toArray from t) he (by rw[ea];exact q)⟩
 |lst ys=>
  obtain⟨h1,h2⟩:=aZ hg;subst h2;rw[R3,R3]at h1;rw[b8]at hb;obtain⟨p,vs,e,g1,g2⟩:=hb;subst e;cases rv;obtain⟨its,r,t,_⟩:=I.list g1;obtain⟨e,he,ea⟩:=yd (A:=X.A.in1) I h1.1.1 h1.2 ha ru (by rw[in1_units];omega) h1.1.2 g2 r;exact⟨_,rfl,λQ q=>SeqAt.notIn_listAt e t.isList he (by rw[ea];exact q)⟩
 |_=>cases hg
noncomputable def Hr(p:Int->Int->D)(a b:D):bu:=match a,b with
 |.int i,.int j=>some (p i j)
 |_,_=>none
noncomputable def Rj:=Hr λi j=>.bl (decide (i<j))
noncomputable def D7:=Hr λi j=>.bl (decide (i<=j))
noncomputable def Ko:=Hr λi j=>.bl (decide (j<i))
noncomputable def QJ:=Hr λi j=>.bl (decide (j<=i))
theorem eQ{K:Ug}{g:Int->Int->Bool}:cQ K (AK λi j=>.bl (g i j)) (Hr λi j=>.bl (g i j)):=λa b d x y O H Q hO hg ha hb q=>by
 cases a with
 |int i=>
  cases b with
  |int j=>cases hg;exact⟨i,j,eS.mp ha,eS.mp hb,q _ H (bj.refl H) (jG.mpr rfl)⟩
  |_=>cases hg
 |_=>cases hg
theorem qZ{K:Ug}{g:Int->Int->Int}:cQ K (AK λi j=>.int (g i j)) (Hr λi j=>.int (g i j)):=λa b d x y O H Q hO hg ha hb q=>by
 cases a with
 |int i=>
  cases b with
  |int j=>cases hg;exact⟨i,j,eS.mp ha,eS.mp hb,q _ H (bj.refl H) (eS.mpr rfl)⟩
  |_=>cases hg
 |_=>cases hg
noncomputable def Kl(c:Int->Int->Bool)(p:Int->Int->Int)(a b:D):bu:=match a,b with
 |.int i,.int j=>if c i j then some (.int (p i j))else none
 |_,_=>none
theorem jj{K:Ug}{C:Int->Int->Prop}{c:Int->Int->Bool}{g:Int->Int->Int}(hc:∀i j,c i j=true->C i j):cQ K (rI C λi j=>.int (g i j)) (Kl c g):=λa b d x y O H Q hO hg ha hb q=>by
 cases a with
 |int i=>
  cases b with
  |int j=>
   obtain⟨h1,h2⟩:=aZ hg;subst h2;exact⟨i,j,eS.mp ha,eS.mp hb,hc i j h1,q _ H (bj.refl H) (eS.mpr rfl)⟩
  |_=>cases hg
 |_=>cases hg
noncomputable def rB:=Hr λi j=>.int (i-j)
noncomputable def jy:=Kl (λi j=>decide ((-(2^64)<i/\i<2^64)\/(-(2^64)<j/\j<2^64))) (·*·)
noncomputable def Ho(_ j:Int):Prop:=0<j/\j<10^200
theorem B4:iK X (VP .FloorDiv) (rI Ho λi j=>.int (i/j)):=K7 λi j _ _ _ _ _ hc q=>by
 have h1:(0:Int)<j:=hc.1;have h2:j<10^200:=hc.2;refine PyProof.Rows.floordiv_int ‹0› (by rw[RD i ‹0›];exact q) (.inl (PyProof.noPylong_of_log2 ?_));have h3:j.natAbs<10^200:=by omega
 rw[Nat.log2_lt ‹0›];exact Sd h3 (by decide +kernel)
noncomputable def dm:=Kl (λ_ j=>decide (0<j/\j<10^200)) (·/·)
noncomputable def cm:=Kl (λ_ j=>decide (0<j)) (·%·)
noncomputable def pJ:=Kl (λi j=>decide (0<=j/\j<=1000000/\i.natAbs<2^64)) λi j=>i^j.toNat
theorem JS{K:Ug}:cQ K (AK λi j=>.int (i-j)) rB:=qZ
theorem Cr{K:Ug}:cQ K (rI Ji λi j=>.int (i*j)) jy:=jj λi j h=>by have q:=of_decide_eq_true h;exact q
theorem J1{K:Ug}:cQ K (rI Ho λi j=>.int (i/j)) dm:=jj λi j h=>by have q:=of_decide_eq_true h;exact q
theorem Iw{K:Ug}:cQ K (rI (λ_ j=>0<j) λi j=>.int (i%j)) cm:=jj λ_ _ h=>of_decide_eq_true h
theorem Ik{K:Ug}:cQ K (rI Kp λi j=>.int (i^j.toNat)) pJ:=jj λi j h=>by have q:=of_decide_eq_true h;exact q
noncomputable def K6(K:Ug):R2:=λx y H Q=>∃l b xs zs,x=.ref l/\y=.ref b/\mJ K H l xs/\mJ K H b zs/\xs.length+zs.length<=Vr/\∀p,H p=none->Q (.ref p) (upd H p (.lst (xs++zs)))
theorem Ft:iK X (VP .Add) (K6 X.K):=by
 intro pins s σ H x y v u Q I rx ry h;obtain⟨l,b,xs,zs,rfl,rfl,hH,hB,hz,q⟩:=h;cases rx;cases ry;obtain⟨its,r,t1,_⟩:=I.list hH;obtain⟨its2,r2,t2,_⟩:=I.list hB;obtain⟨⟨c1,d1,dt1,sl1⟩,n1,ho,hc,hd,hdt⟩:=t1;obtain⟨⟨c2,d2,dt2,sl2⟩,n2,ho2,hc2,hd2,hdt2⟩:=t2;simp only at hc hd hdt hc2 hd2 hdt2;subst hc hd hdt hc2 hd2 hdt2;have z1:=r.length;have z2:=r2.length;refine V3 ⟨_,ho,rfl⟩ ⟨_,ho2,rfl⟩ noFill_list_add seq_list_add F.slot_list_add F.entry_list_add (F.args_list_add_2 _ _) (PyProof.Rows.list_addW l b its.toArray its2.toArray n1 n2 none none sl1 sl2 (by rw[RE,RE];omega)) ⟨ho,ho2,?_⟩;have ea:its.toArray++its2.toArray=(its++its2).toArray:=by simp
 rw[ea];exact⟨.ref _,_,I.lnew (t':=s.toks) (r.append r2) (by rw[RZ];omega),rfl,q _ I.fresh⟩
noncomputable def Jw(K:Ug):R2:=λx y H Q=>∃a b xs ys,x=.ref a/\y=.ref b/\oJ K H a xs/\oJ K H b ys/\xs.length+ys.length<=Vr/\
 (xs=[]->Q (.ref b) H)/\(xs≠[]->ys=[]->Q (.ref a) H)/\(xs≠[]->ys≠[]->∀p,H p=none->Q (.ref p) (upd H p (.tup (xs++ys))))
theorem C0:iK X (VP .Add) (Jw X.K):=by
 intro pins s σ H x y v u Q I rx ry h;obtain⟨a,b,xs,ys,ex,ey,ha,hb,hz,q0,q1,q2⟩:=h;by_cases hx:xs=[]
 ·subst ex ey;cases rx;cases ry;obtain⟨its,r1,p1,_⟩:=I.tuple ha;obtain⟨its2,r2,p2,_⟩:=I.tuple hb;obtain⟨⟨cls,dd,data,sl⟩,ho,hc,n,hd⟩:=id p1;obtain⟨⟨cls2,dd2,data2,sl2⟩,ho2,hc2,n2,hd2⟩:=id p2;simp only at hc hd hc2 hd2;subst hc hd hc2 hd2;have e:its=[]:=r1.nil_iff.mpr hx;exact V3 ⟨_,ho,rfl⟩ ⟨_,ho2,rfl⟩ V4 V5 F.slot_tuple_add F.entry_tuple_add (F.args_tuple_add_2 _ _)
   (PyProof.Rows.tuple_addW0 a b its.toArray its2.toArray n n2 dd dd2 sl sl2 (by rw[e];rfl)) ⟨ho,ho2,⟨.ref b,H,I,rfl,q0 hx⟩⟩
 ·exact EH pins s σ H x y v u Q I rx ry ⟨a,b,xs,ys,ex,ey,ha,hb,hx,hz,q1 hx,q2 hx⟩
noncomputable def bS(a b:D):bu:=match a,b with
 |.int i,.int j=>some (.int (i+j))
 |.str x,.str y=>if small (x.length+y.length)then some (.str (x++y))else none
 |.lst xs,.lst ys=>if small (xs.length+ys.length)then some (.lst (xs++ys))else none
 |.tup xs,.tup ys=>if small (xs.length+ys.length)then some (.tup (xs++ys))else none
 |_,_=>none
theorem FV:iK X (VP .Add) (rD X.K bS):=by
 rintro pins s σ H x y u v Q I rx ry ⟨O,a,b,d,hO,ha,hb,hg,q⟩;cases a with
 |int i=>
  cases b with
  |int j=>
   cases hg;exact II pins s σ H x y u v Q I rx ry ⟨i,j,eS.mp ha,eS.mp hb,q _ H (bj.refl H) (eS.mpr rfl)⟩
  |_=>cases hg
 |str i=>
  cases b with
  |str j=>
   obtain⟨h1,h2⟩:=aZ hg;subst h2;exact wH pins s σ H x y u v Q I rx ry ⟨i,j,eD.mp ha,eD.mp hb,dJ h1,q _ H (bj.refl H) (eD.mpr rfl)⟩
  |_=>cases hg
 |lst xs=>
  cases b with
  |lst ys=>
   obtain⟨h1,h2⟩:=aZ hg;subst h2;rw[b8]at ha hb;obtain⟨p,vs,ex,g1,g2⟩:=ha;obtain⟨p',vs',ey,g1',g2'⟩:=hb;refine Ft pins s σ H x y u v Q I rx ry ⟨p,p',vs,vs',ex,ey,(au H O).seq g1,(au H O).seq g1',?_,λr hr=>?_⟩
   ·rw[<-g2.length,<-g2'.length];exact dJ h1
   ·exact q _ _ (bQ hr _) (cZ hO hr (g2.append g2'))
  |_=>cases hg
 |tup xs=>
  cases b with
  |tup ys=>
   obtain⟨h1,h2⟩:=aZ hg;subst h2;have da:=ha;have db:=hb;rw[bW]at ha hb;obtain⟨p,vs,ex,g1,g2⟩:=ha;obtain⟨p',vs',ey,g1',g2'⟩:=hb;have l1:=g2.length;have l2:=g2'.length;refine C0 pins s σ H x y u v Q I rx ry ⟨p,p',vs,vs',ex,ey,bX (au H O) g1,bX (au H O) g1',?_,λz=>?_,λz z'=>?_,λz z' r hr=>?_⟩
   ·rw[<-l1,<-l2];exact dJ h1
   ·have e:xs=[]:=List.length_eq_zero_iff.mp (by rw[l1,z];rfl);rw[<-ey];refine q _ H (bj.refl H) ?_;rw[e,SH];exact db
   ·have e:ys=[]:=List.length_eq_zero_iff.mp (by rw[l2,z'];rfl);rw[<-ex];refine q _ H (bj.refl H) ?_;rw[e,RN];exact da
   ·exact q _ _ (bQ hr _) (eO hO hr (g2.append g2'))
  |_=>cases hg
 |_=>cases hg
noncomputable def ao(a b:D):bu:=match a,b with
 |.tup xs,.int i=>mI xs i
 |.lst xs,.int i=>mI xs i
 |.str x,.int i=>if small x.length then(mI x.cps.toList i).bind λc=>some (.str ⟨#[c]⟩)else none
 |_,_=>none
theorem yh{K:Ug}{H:Hp}{ds:List D}{vs:aF}{i:Int}{d:D}(h:aB K H ds vs)(e:mI ds i=some d):∃v,mI vs i=some v/\b9 K H d v:=by
 unfold mI at e ⊢;obtain⟨j,e1,e2⟩:=bind_some e;rw[<-h.length,e1];exact h.get e2
theorem O0:Kv X (rD X.K ao):=by
 rintro value slice pins s σ H x y u v Q I rx ry ⟨O,a,b,d,hO,ha,hb,hg,q⟩ hsub;cases a with
 |tup xs=>
  cases b with
  |int i=>
   rw[bW]at ha;obtain⟨p,vs,ex,g1,g2⟩:=ha;obtain⟨w,e1,e2⟩:=yh g2 hg;refine Jx value slice pins s σ H x y u v Q I rx ry ?_ hsub;exact⟨p,vs,i,w,ex,eS.mp hb,bX (au H O) g1,e1,q w H (bj.refl H) e2⟩
  |_=>cases hg
 |lst xs=>
  cases b with
  |int i=>
   rw[b8]at ha;obtain⟨p,vs,ex,g1,g2⟩:=ha;obtain⟨w,e1,e2⟩:=yh g2 hg;refine ED value slice pins s σ H x y u v Q I rx ry ?_ hsub;exact⟨p,vs,i,w,ex,eS.mp hb,(au H O).seq g1,e1,q w H (bj.refl H) e2⟩
  |_=>cases hg
 |str z=>
  cases b with
  |int i=>
   have hg':(if small z.length then(mI z.cps.toList i).bind λc=>some (D.str ⟨#[c]⟩)else none)=some d:=hg;cases hs:small z.length with
   |false=>rw[hs]at hg';cases hg'
   |true=>
    rw[hs]at hg';obtain⟨c,e1,e2⟩:=bind_some hg';cases e2;refine JT value slice pins s σ H x y u v Q I rx ry ?_ hsub;exact⟨z,i,c,eD.mp ha,eS.mp hb,dJ hs,e1,q _ H (bj.refl H) (eD.mpr rfl)⟩
  |_=>cases hg
 |_=>cases hg
noncomputable def cutD{α:Type}(xs:List α)(lo hi:dA):List α:=(xs.drop (HT.sIx xs.length 0 lo)).take (HT.sIx xs.length xs.length hi-HT.sIx xs.length 0 lo)
theorem rC{M:Vw}{A:Vu}{E:bT}{s:Vm}{t:Vj}{items:Array Vh}{Q:Bool->dj}(ht:U8 s.heap t items)(h:Q true s):Vx M A (Builtin.Tuple.tupleIsExact (.ref t)) Q E s:=by
 unfold Builtin.Tuple.tupleIsExact;refine VF (wpAny_typeOf ht.typeIs ?_);exact VI h
theorem lL{prog:Vo}{w:Vn}{A:Vu}{E:bT}{s:Vm}{t sl:Vj}{items:Array Vh}{vl vu:Vh}{lo hi:dA}{Q:bT}(ht:U8 s.heap t items)(hs:s.heap.IsSliceOf sl vl vu .none)(pl:V6 vl lo)(pu:V6 vu hi)
  (hw:HT.sIx items.size 0 lo=0/\HT.sIx items.size items.size hi=items.size) (h:Q (.ref t) s):Vx (model prog w) A (getItem (.ref t) (.ref sl)) Q E s:=by
 obtain⟨os,hos,hcs,hds⟩:=id hs;have hTs:s.TypeIs (.ref sl) "slice":=⟨os,hos,hcs⟩
 unfold getItem
 try with_reducible refine VG ?_
 first|refine VF (VI ?_)|skip
 refine VF (wpAny_sequenceKey ht.typeIs (by decide) ?_);refine VF (V8 (name:=Str.ofString "__getitem__") ht.typeIs U6
  (V9 U6 ht.typeIs PyProof.Rows.entry_tuple_getitem ?_ (PyProof.Rows.args_tuple_getitem _ _)))
 show Vx _ _ (Builtin.Tuple.tupleItemsOf (.ref t) >>= _) _ _ s;refine VF (PyProof.Rows.tupleItemsOf_ ht ?_);refine VF (wpAny_typeOf hTs ?_);rw[if_pos (by decide)];refine VF (HT.n8 hs pl pu ?_);have hyes:(((HT.sIx items.size 0 lo:Nat):Int)==0&&(1:Int)==1&&(HT.sIx items.size items.size hi-HT.sIx items.size 0 lo)==items.size)=true:=by
  rw[hw.1,hw.2];simp
 show Vx _ _ (if(((HT.sIx items.size 0 lo:Nat):Int)==0&&(1:Int)==1&&(HT.sIx items.size items.size hi-HT.sIx items.size 0 lo)==items.size)=true then _ else _) _ _ s;rw[if_pos hyes];refine VF (rC ht ?_);rw[if_pos rfl]
 first
  |exact VF (We (VI ⟨_,rfl,VI h⟩))
  |exact VF (We (VF (VI (VI ⟨_,rfl,VI h⟩))))
noncomputable def qK(a:D)(lo hi:dA):bu:=match a with
 |.lst xs=>some (.lst (cutD xs lo hi))
 |.tup xs=>some (.tup (cutD xs lo hi))
 |.str x=>if small x.length then some (.str ⟨(cutD x.cps.toList lo hi).toArray⟩)else none
 |_=>none
theorem Hi(v:dA)(d n:Nat)(hd:d<=n):(match v with|none=>(d:Int)|some i=>if(1:Int)>0 then max 0 (min (if i<0 then i+(n:Int)else i) (n:Int))else max (-1) (min (if i<0 then i+(n:Int)else i) ((n:Int)-1)))=((HT.sIx n d v:Nat):Int):=by
 cases v with
 |none=>rfl
 |some i=>
  show(if(1:Int)>0 then max 0 (min (if i<0 then i+(n:Int)else i) (n:Int))else max (-1) (min (if i<0 then i+(n:Int)else i) ((n:Int)-1)))=(((if i<0 then(i+(n:Int)).toNat else min i.toNat n):Nat):Int)
  rw[if_pos (by decide)];by_cases h:i<0
  ·rw[if_pos h,if_pos h];omega
  ·rw[if_neg h,if_neg h];omega
theorem Dj(lo hi:dA)(n:Nat):Builtin.Str.strSliceIndices lo hi 1 n=(List.range (HT.sIx n n hi-HT.sIx n 0 lo)).map λk=>HT.sIx n 0 lo+k:=by
 have e1:=Hi lo 0 n (RM _);have e2:=Hi hi n n (RB _);have e:Builtin.Str.strSliceIndices lo hi 1 n=sliceRange ((HT.sIx n 0 lo:Nat):Int) ((HT.sIx n n hi:Nat):Int) 1:=by
  rw[<-e1,<-e2];cases lo<;>cases hi<;>rfl
 rw[e];unfold sliceRange;dsimp only;rw[if_pos (by decide:(1:Int)>0)];have e3:(if((HT.sIx n 0 lo:Nat):Int)<((HT.sIx n n hi:Nat):Int)then(((HT.sIx n n hi:Nat):Int)-((HT.sIx n 0 lo:Nat):Int)+1-1)/1 else 0:Int).toNat=HT.sIx n n hi-HT.sIx n 0 lo:=by
  rw[Int.ediv_one];split<;>omega
 rw[e3];refine SJ λk _=>?_;omega
theorem Ba{α:Type}(l:List α)(a:Nat):∀n:Nat,((List.range n).map λk=>a+k).filterMap (λi=>l[i]?)=(l.drop a).take n
 |0=>by simp
 |n+1=>by
  rw[List.range_succ,SK,List.filterMap_append,Ba l a n,List.take_add_one,List.getElem?_drop];cases e:l[a+n]?<;>simp[e]
theorem Aj(x:Str)(lo hi:dA):Txt.slice x lo hi=⟨(cutD x.cps.toList lo hi).toArray⟩:=by
 have hl:x.cps.toList.length=x.length:=by simp[Str.length]
 have pick:(Builtin.Str.strSliceIndices lo hi 1 x.length).filterMap (x.cps[·]?)=cutD x.cps.toList lo hi:=by
  rw[Dj];have q:=Ba x.cps.toList (HT.sIx x.length 0 lo) (HT.sIx x.length x.length hi-HT.sIx x.length 0 lo);unfold cutD;rw[hl,<-q];congr 1;funext i;simp
 unfold Txt.slice;split
 ·rename_i h;have h':(Builtin.Str.strSliceIndices lo hi 1 x.length).length=x.length:=by simpa using h
  rw[Dj,RJ,SL]at h';have h1:=HT.JO x.length x.length (RB _) hi;have z1:HT.sIx x.length 0 lo=0\/x.length=0:=by omega
  have e:cutD x.cps.toList lo hi=x.cps.toList:=by
   unfold cutD;rw[hl,h'];rcases z1 with z1|z1
   ·rw[z1,Su,<-hl,List.take_length]
   ·have:x.cps.toList=[]:=List.length_eq_zero_iff.mp (by rw[hl];exact z1)
    rw[this];simp
  rw[e]
 ·rw[pick]
noncomputable def O6(K:Ug):V->dA->dA->Hp->VK->Prop:=λx lo hi H Q=>∃O a d,dz H O/\b9 K (hid H O) a x/\qK a lo hi=some d/\∀v H',bj H H'->b9 K (hid H' O) d v->Q v H'
theorem aB.cut{K:Ug}{H:Hp}{ds:List D}{vs:aF}(h:aB K H ds vs)(lo hi:dA):aB K H (cutD ds lo hi) (uS vs lo hi):=by
 unfold cutD uS;rw[h.length];exact(h.drop _).take _
theorem Of:MH X (O6 X.K):=by
 rintro pins s σ H x v vl vu lo hi sl Q I rx hs pl pu ⟨O,a,d,hO,ha,hg,q⟩;cases a with
 |lst xs=>
  cases hg;rw[b8]at ha;obtain⟨p,vs,ex,g1,g2⟩:=ha;exact Fj pins s σ H x v vl vu lo hi sl Q I rx hs pl pu ⟨p,vs,ex,(au H O).seq g1,λr hr=>q _ _ (bQ hr _) (cZ hO hr (g2.cut lo hi))⟩
 |tup xs=>
  cases hg;have da:=ha;rw[bW]at ha;obtain⟨p,vs,ex,g1,g2⟩:=ha;by_cases hw:HT.sIx vs.length 0 lo=0/\HT.sIx vs.length vs.length hi=vs.length
  ·subst ex;cases rx;obtain⟨its,r,ht,hz⟩:=I.tuple (bX (au H O) g1);have hlen:its.toArray.size=vs.length:=(by rw[RE];exact r.length.symm);refine⟨"tuple",_,PyProof.Rows.slot_tuple_getitem.lookup,ht.typeIs,lL ht hs pl pu (by rw[hlen];exact hw) ⟨.ref p,H,I,rfl,q _ H (bj.refl H) ?_⟩⟩;have e:cutD xs lo hi=xs:=by
    unfold cutD;rw[g2.length,hw.1,hw.2,SM,Su,<-g2.length,List.take_length]
   rw[e];exact da
  ·exact J7 pins s σ H x v vl vu lo hi sl Q I rx hs pl pu ⟨p,vs,ex,bX (au H O) g1,hw,λr hr=>q _ _ (bQ hr _) (eO hO hr (g2.cut lo hi))⟩
 |str z=>
  obtain⟨h1,h2⟩:=aZ hg;subst h2;rw[eD]at ha;subst ha;obtain⟨t,rfl⟩:=rx;have fin:∀t' tk,EP X pins σ Q (.str (Txt.slice z lo hi) t') {s with toks:=tk}:=λt' tk=>by
   rw[Aj];exact⟨.str _,H,I.tok _,⟨_,rfl⟩,q _ H (bj.refl H) (eD.mpr rfl)⟩
  obtain⟨os,hos,hcs,hds⟩:=id hs;have hz:=dJ h1;refine⟨"str",_,F.slot_str_getitem.lookup,typeIs_str _ _ _,?_⟩;cases pl with
  |none=>
   cases pu with
   |none=>exact Wg (l:=none) (u:=none) (st:=none) ⟨os,hos,hcs,hds⟩ rfl (Wh ⟨Rq (Txt.slice_le z _ _) hz,λt' k=>fin t' k⟩)
   |int j tj=>exact Wg (l:=none) (u:=some (j,tj)) (st:=none) ⟨os,hos,hcs,hds⟩ rfl (Wh ⟨Rq (Txt.slice_le z _ _) hz,λt' k=>fin t' k⟩)
  |int i ti=>
   cases pu with
   |none=>exact Wg (l:=some (i,ti)) (u:=none) (st:=none) ⟨os,hos,hcs,hds⟩ rfl (Wh ⟨Rq (Txt.slice_le z _ _) hz,λt' k=>fin t' k⟩)
   |int j tj=>exact Wg (l:=some (i,ti)) (u:=some (j,tj)) (st:=none) ⟨os,hos,hcs,hds⟩ rfl (Wh ⟨Rq (Txt.slice_le z _ _) hz,λt' k=>fin t' k⟩)
 |_=>cases hg
noncomputable def fZ:ak->R (dA):=λ_=>.ok none
noncomputable def xE:D->Option (dA)
 |.int i=>some (some i)
 |_=>none
noncomputable def il(f:FX):ak->R (dA):=λρ=>(f ρ).bind λd=>rO (xE d)
noncomputable def QR(X:Cx)(F:ak->R dA):TO:=λσ H Q=>∃O ρ,cY X.K O H ρ σ/\dX X σ O H (F ρ) λo=>∀H',bj H H'->Q o H'
noncomputable def FO(X:Cx)(e:Option Vk)(F:ak->R dA):Prop:=PO X e (QR X F)
noncomputable def gA(f:FX)(l h:ak->R dA):FX:=λρ=>(f ρ).bind λa=>(l ρ).bind λlo=>(h ρ).bind λhi=>rO (qK a lo hi)
end
end TG
namespace TG
open PySem PySem.Spec L2
variable[aw]
noncomputable def wn(K:Ug)(g:List D->bu):aF->Hp->VK->Prop:=λxs H Q=>∃O ds d,dz H O/\aB K (hid H O) ds xs/\g ds=some d/\∀v H',bj H H'->b9 K (hid H' O) d v->Q v H'
theorem qH{K:Ug}{g:List D->bu}:yJ K (wn K g) g:=λds d xs O H Q hO hg hd q=>⟨O,ds,d,hO,hd,hg,q⟩
section
variable{X:Cx}{x:Str}{p pos:Pos}{e:Vk}{es:bx}{id T:String}{g:List D->bu}{f:aW}
noncomputable def cP:List D->bu
 |[.lst xs]=>some (.int xs.length)
 |[.tup xs]=>some (.int xs.length)
 |[.str x]=>if small x.length then some (.int x.length)else none
 |_=>none
theorem yV:dg X (.builtin "len") (wn X.K cP):=by
 rintro pins s σ H xs us Q I r ⟨O,ds,d,hO,hd,hg,q⟩;unfold cP at hg;split at hg
 ·rename_i ys;cases hg;obtain⟨v,ev,h1⟩:=hd.one;rw[b8]at h1;obtain⟨p,vs,ep,g1,g2⟩:=h1;exact nG pins s σ H xs us Q I r ⟨p,vs,by rw[ev,ep],.inl ((au H O).seq g1),q _ H (bj.refl H) (eS.mpr (by rw[g2.length]))⟩
 ·rename_i ys;cases hg;obtain⟨v,ev,h1⟩:=hd.one;rw[bW]at h1;obtain⟨p,vs,ep,g1,g2⟩:=h1;exact nG pins s σ H xs us Q I r ⟨p,vs,by rw[ev,ep],.inr (bX (au H O) g1),q _ H (bj.refl H) (eS.mpr (by rw[g2.length]))⟩
 ·rename_i z;obtain⟨h1,h2⟩:=aZ hg;subst h2;obtain⟨v,ev,h1'⟩:=hd.one;exact tX pins s σ H xs us Q I r ⟨z,by rw[ev,eD.mp h1'],dJ h1,q _ H (bj.refl H) (eS.mpr rfl)⟩
 ·cases hg
noncomputable def cW:List D->bu
 |[.lst xs]=>some (.tup xs)
 |[.tup xs]=>some (.tup xs)
 |_=>none
theorem vd:dg X (.type "tuple") (wn X.K cW):=by
 rintro pins s σ H xs us Q I r ⟨O,ds,d,hO,hd,hg,q⟩;unfold cW at hg;split at hg
 ·rename_i ys;cases hg;obtain⟨v,ev,h1⟩:=hd.one;rw[b8]at h1;obtain⟨p,vs,ep,g1,g2⟩:=h1;exact lR pins s σ H xs us Q I r ⟨p,vs,by rw[ev,ep],.inl ⟨(au H O).seq g1,λl hl=>q _ _ (bQ hl _) (eO hO hl g2)⟩⟩
 ·rename_i ys;cases hg;obtain⟨v,ev,h1⟩:=hd.one;have h0:=h1;rw[bW]at h1;obtain⟨p,vs,ep,g1,g2⟩:=h1;rw[ep]at h0;exact lR pins s σ H xs us Q I r ⟨p,vs,by rw[ev,ep],.inr ⟨bX (au H O) g1,q _ H (bj.refl H) h0⟩⟩
 ·cases hg
noncomputable def mU:List D->bu
 |[.lst xs]=>some (.lst xs)
 |[.tup xs]=>some (.lst xs)
 |_=>none
theorem xC:dg X (.type "list") (wn X.K mU):=by
 rintro pins s σ H xs us Q I r ⟨O,ds,d,hO,hd,hg,q⟩;unfold mU at hg;split at hg
 ·rename_i ys;cases hg;obtain⟨v,ev,h1⟩:=hd.one;rw[b8]at h1;obtain⟨p,vs,ep,g1,g2⟩:=h1;exact jC pins s σ H xs us Q I r ⟨p,vs,by rw[ev,ep],.inl ((au H O).seq g1),λl hl=>q _ _ (bQ hl _) (cZ hO hl g2)⟩
 ·rename_i ys;cases hg;obtain⟨v,ev,h1⟩:=hd.one;rw[bW]at h1;obtain⟨p,vs,ep,g1,g2⟩:=h1;exact jC pins s σ H xs us Q I r ⟨p,vs,by rw[ev,ep],.inr (bX (au H O) g1),λl hl=>q _ _ (bQ hl _) (cZ hO hl g2)⟩
 ·cases hg
noncomputable def kz:List D->bu
 |[.int i,.int j]=>some (.int (if j>i then j else i))
 |_=>none
noncomputable def lP:List D->bu
 |[.int i,.int j]=>some (.int (if j<i then j else i))
 |_=>none
noncomputable def xW:List D->bu
 |[.int i]=>some (.int i)
 |[.bl k]=>some (.int (if k then 1 else 0))
 |_=>none
theorem wI(hc:X.calm=true):dg X (.builtin "max") (wn X.K kz):=by
 rintro pins s σ H xs us Q I r ⟨O,ds,d,hO,hd,hg,q⟩;unfold kz at hg;split at hg
 ·rename_i i j;cases hg;obtain⟨v,w,ev,h1,h2⟩:=hd.two;exact Ak hc pins s σ H xs us Q I r ⟨i,j,by rw[ev,eS.mp h1,eS.mp h2],q _ H (bj.refl H) (eS.mpr rfl)⟩
 ·cases hg
theorem xq(hc:X.calm=true):dg X (.builtin "min") (wn X.K lP):=by
 rintro pins s σ H xs us Q I r ⟨O,ds,d,hO,hd,hg,q⟩;unfold lP at hg;split at hg
 ·rename_i i j;cases hg;obtain⟨v,w,ev,h1,h2⟩:=hd.two;exact zy hc pins s σ H xs us Q I r ⟨i,j,by rw[ev,eS.mp h1,eS.mp h2],q _ H (bj.refl H) (eS.mpr rfl)⟩
 ·cases hg
theorem wg:dg X (.type "int") (wn X.K xW):=by
 rintro pins s σ H xs us Q I r ⟨O,ds,d,hO,hd,hg,q⟩;unfold xW at hg;split at hg
 ·rename_i i;cases hg;obtain⟨v,ev,h1⟩:=hd.one;exact tL pins s σ H xs us Q I r (.inl ⟨i,by rw[ev,eS.mp h1],q _ H (bj.refl H) (eS.mpr rfl)⟩)
 ·rename_i k;cases hg;obtain⟨v,ev,h1⟩:=hd.one;exact tL pins s σ H xs us Q I r (.inr ⟨k,by rw[ev,jG.mp h1],q _ H (bj.refl H) (eS.mpr rfl)⟩)
 ·cases hg
noncomputable def Jh:D->String
 |.non=>"NoneType"
 |.bl _=>"bool"
 |.int _=>"int"
 |.str _=>"str"
 |.tup _=>"tuple"
 |.lst _=>"list"
 |.dct _ _=>"dict"
 |_=>""
noncomputable def Fs(T:String)(d:D):Bool:=match d with
 |.bl _=>T=="bool"||T=="int"
 |.non=>T=="NoneType"
 |.int _=>T=="int"
 |.str _=>T=="str"
 |.tup _=>T=="tuple"
 |.lst _=>T=="list"
 |.dct _ _=>T=="dict"
 |_=>false
noncomputable def xo(K:Ug)(T:String):Prop:=∀d:D,top d=true->UJ K (.type (Jh d)) (.type T)=some (Fs T d)
noncomputable def N4(K:Ug)(T:String):aF->Hp->VK->Prop:=λxs H Q=>∃O x d,xs=[x,.ty T]/\top d=true/\b9 K (hid H O) d x/\Q (.bl (Fs T d)) H
theorem BZ(ok:xo X.K T):dg X (.builtin "isinstance") (N4 X.K T):=by
 rintro pins s σ H xs us Q I r ⟨O,x,d,ex,td,hd,q⟩;subst ex;obtain⟨u,w',rfl,rx,rt⟩:=vals2 r;cases rt;have e:=ok d td;have fin:∀tk,EP X pins σ Q (.bool (Fs T d)) {s with toks:=tk}:=λtk=>⟨.bl _,H,I.tok _,rfl,q⟩
 cases eL I td (hd.mono (au H O)) rx with
 |non=>exact UK PySem.W.kitx_none I.kIn True.intro e (λz=>nomatch z) fin
 |bl b=>exact UK PySem.W.kitx_bool I.kIn True.intro e (λz=>nomatch z) fin
 |int i t=>exact UK PySem.W.kitx_int I.kIn True.intro e (λz=>nomatch z) fin
 |str y t=>exact UK PySem.W.kitx_str I.kIn True.intro e (λz=>nomatch z) fin
 |tup h rv t=>
  obtain⟨o,h1,h2,_⟩:=t;exact UK PySem.W.kitx_tuple I.kIn ⟨o,h1,h2⟩ e (λz=>nomatch z) fin
 |lst h rv t=>
  obtain⟨o,h1,h2,_⟩:=t;exact UK PySem.W.kitx_list I.kIn ⟨o,h1,h2⟩ e (λz=>nomatch z) fin
theorem vY:Vt "isinstance"=some (.builtin "isinstance"):=by first|rfl|decide +kernel
noncomputable def wo(T:String)(d:D):bu:=if top d then some (.bl (Fs T d))else none
noncomputable def pF(T:String)(f:FX):FX:=f1 (wo T) f
end
section
variable{X:Cx}{a:Vk}{f:FX}{pos:Pos}
noncomputable def isNon:D->Bool
 |.non=>true
 |_=>false
theorem zA{K:Ug}{H:Hp}{d:D}{v:V}(h:b9 K H d v):decide (v=.non)=isNon d:=by
 cases d with
 |non=>rw[jD.mp h];rfl
 |bl b=>rw[jG.mp h];rfl
 |int i=>rw[eS.mp h];rfl
 |str x=>rw[eD.mp h];rfl
 |tup xs=>obtain⟨_,_,e,_⟩:=bW.mp h;rw[e];rfl
 |lst xs=>obtain⟨_,_,e,_⟩:=b8.mp h;rw[e];rfl
 |dct _ _=>obtain⟨_,_,e,_⟩:=MM.mp h;rw[e];rfl
 |obj _ _ _=>obtain⟨_,_,e,_⟩:=FQ.mp h;rw[e];rfl
 |exc _ _ _=>obtain⟨_,_,e,_⟩:=MN.mp h;rw[e];rfl
noncomputable def Nw(d:D):bu:=some (.bl (isNon d))
noncomputable def LJ(d:D):bu:=some (.bl (!isNon d))
noncomputable def u6(f:FX):FX:=f1 Nw f
noncomputable def KS(f:FX):FX:=f1 LJ f
theorem yt:∀σ H Q,tF X (u6 f) σ H Q->tF X f σ H λv H'=>Q (.bl (decide (v=.non))) H':=λσ H Q ⟨O,ρ,E,hF⟩=>⟨O,ρ,E,(dX.bind hF).imp λa hF v H1 s1 d1=>by
 obtain⟨d,e,q⟩:=dX.rO hF;cases e;rw[zA d1];exact q _ H1 s1 (jG.mpr rfl)⟩
end
noncomputable def Walk(K:Ug)(Hd:Hp)(J:It)(ds:List D):Prop:=
 ∀(Hn:Hp)(O':aA)(i:Nat),dz Hn O'->bj Hd (hid Hn O')->(∀d,ds[i]?=some d->J.go i Hn/\∀x H2,J.yld i Hn x H2->bj Hn H2/\b9 K (hid H2 O') d x)/\(i=ds.length->J.stop i Hn)
noncomputable def NE(X:Cx)(G:aW):TI:=λσ H RR=>∃O ρ,cY X.K O H ρ σ/\dX X σ O H (G ρ) λds=>∀J H1,bj H H1->Walk X.K (hid H1 O) J ds->RR J H1
noncomputable def FI(X:Cx)(tg iter:Vk)(G:aW):Prop:=PI X tg iter (NE X G)
noncomputable def qO:D->Option (List D)
 |.lst xs=>some xs
 |.tup xs=>some xs
 |_=>none
noncomputable def bR(f:FX):aW:=λρ=>(f ρ).bind λd=>rO (qO d)
section
variable{X:Cx}{tg:Vk}
theorem Ag{K:Ug}{Hd:Hp}{a:Vj}{ds:List D}{vs:aF}(h:mJ K Hd a vs)(g:aB K Hd ds vs):Walk K Hd (NY K a) ds:=λHn O' i hO s=>
  have s':bj Hd Hn:=s.trans (au Hn O')
  ⟨fun d e=>by
    obtain⟨v,ev,dv⟩:=g.get e;refine⟨⟨vs,v,s'.seq h,ev⟩,λx H2 ⟨e2,y⟩=>?_⟩;have q:=y vs (s'.seq h);rw[ev]at q;cases q;subst e2;exact⟨bj.refl _,dv.mono s⟩,
   λhl=>⟨vs,s'.seq h,by rw[<-g.length];exact RK hl.symm⟩⟩
theorem BG{K:Ug}{Hd:Hp}{a:Vj}{ds:List D}{vs:aF}(h:Hd a=some (.tup vs))(g:aB K Hd ds vs):Walk K Hd (O8 K a) ds:=λHn O' i hO s=>
  have s':bj Hd Hn:=s.trans (au Hn O')
  ⟨fun d e=>by
    obtain⟨v,ev,dv⟩:=g.get e;refine⟨⟨vs,v,bX s' h,ev⟩,λx H2 ⟨e2,y⟩=>?_⟩;have q:=y vs (bX s' h);rw[ev]at q;cases q;subst e2;exact⟨bj.refl _,dv.mono s⟩,
   λhl=>⟨vs,bX s' h,by rw[<-g.length];exact RK hl.symm⟩⟩
noncomputable def dY(lo:Int)(n:Nat):List D:=(List.range n).map λ(k:Nat)=>D.int (lo+(k:Int))
theorem rG(lo:Int)(n:Nat):(dY lo n).length=n:=by unfold dY;rw[RJ,SL]
theorem qG{K:Ug}{Hd:Hp}(lo:Int)(n:Nat):Walk K Hd (K8 lo n) (dY lo n):=λHn O' i hO s=>
  ⟨fun d e=>by
    unfold dY at e;rw[RX]at e;cases hi:(List.range n)[i]? with
    |none=>rw[hi]at e;cases e
    |some k=>
      rw[hi]at e;cases e;have hlt:i<n:=by
        have:=(List.getElem?_eq_some_iff.mp hi).1
        rwa [SL]at this
      have ek:k=i:=by
        rw[SN hlt]at hi;exact(Option.some.inj hi).symm
      subst ek;exact⟨hlt,λx H2 ⟨e1,e2⟩=>by subst e1;exact⟨bj.refl _,eS.mpr e2⟩⟩,
   λhl=>by rw[rG]at hl;exact RK hl.symm⟩
noncomputable def okR(j:Int):Bool:=decide (-(2^62)<=j/\j<2^62)
noncomputable def m7:List D->Option (List D)
 |[.int j]=>if okR j then some (dY 0 j.toNat)else none
 |_=>none
noncomputable def mR:List D->Option (List D)
 |[.int i,.int j]=>if okR i&&okR j then some (dY i (j-i).toNat)else none
 |_=>none
noncomputable def iA(f:aW):aW:=λρ=>(f ρ).bind λds=>rO (m7 ds)
noncomputable def kT(f:aW):aW:=λρ=>(f ρ).bind λds=>rO (mR ds)
end
noncomputable abbrev GF:=D->ak->Option ak
noncomputable def Mj(K:Ug)(g:GF):TG:=λv σ H Q=>∃O ρ d ρ',cY K O H ρ σ/\b9 K (hid H O) d v/\g d ρ=some ρ'/\∀σ',cY K O H ρ' σ'->(∀(i:Nat) x,ρ'[i]?=some (some x)->(∀d,x≠.val d)->σ'[i]?=σ[i]?/\ρ[i]?=some (some x))->Q σ' H
noncomputable def FG(X:Cx)(tg:Vk)(g:GF):Prop:=PG X tg (Mj X.K g)
noncomputable def setV(i:Nat)(d:D)(ρ:ak):ak:=ρ.set i (some (.val d))
theorem bf{α:Type}{l:List α}{i j:Nat}{a b:α}(h:(l.set i a)[j]?=some b):(j=i/\b=a)\/(j≠i/\l[j]?=some b):=by
 by_cases e:j=i
 ·subst e;left;have hj:j<(l.set j a).length:=(List.getElem?_eq_some_iff.mp h).1;rw[R4]at hj;rw[Ry hj]at h;exact⟨rfl,(Option.some.inj h).symm⟩
 ·right;rw[Rz (Ne.symm e)]at h;exact⟨e,h⟩
theorem cY.setV{K:Ug}{O:aA}{H:Hp}{ρ:ak}{σ:St}(E:cY K O H ρ σ){i:Nat}{d:D}{v:V}(hi:i<σ.length)(hd:b9 K (hid H O) d v):cY K O H (setV i d ρ) (σ.set i (some v)):=
  ⟨fun j d' e=>by
    rcases bf e with⟨hj,eq⟩|⟨ne,eq⟩
    ·cases eq;rw[hj];exact⟨v,Ry hi,hd⟩
    · obtain⟨w,e1,e2⟩:=E.val j d' eq
      exact⟨w,by rw[Rz (Ne.symm ne)];exact e1,e2⟩,
   λj xs e=>by
    rcases bf e with⟨_,eq⟩|⟨ne,eq⟩
    ·cases eq
    · obtain⟨a,e1,e2⟩:=E.own j xs eq
      exact⟨a,by rw[Rz (Ne.symm ne)];exact e1,e2⟩,
   λj k xs ys a e1 e2 e3 e4=>by
    rcases bf e1 with⟨_,q1⟩|⟨ne1,q1⟩
    ·cases q1
    · rcases bf e2 with⟨_,q2⟩|⟨ne2,q2⟩
      ·cases q2
      · rw[Rz (Ne.symm ne1)]at e3
        rw[Rz (Ne.symm ne2)]at e4;exact E.one j k xs ys a q1 q2 e3 e4,E.all⟩
section
variable{X:Cx}{pos:Pos}
noncomputable def gN(i:Nat):GF:=λd ρ=>some (setV i d ρ)
noncomputable abbrev D6:=List D->ak->Option ak
noncomputable def Ol(K:Ug)(g:D6):G9:=λvs σ H Q=>∃O ρ ds ρ',cY K O H ρ σ/\aB K (hid H O) ds vs/\g ds ρ=some ρ'/\∀σ',cY K O H ρ' σ'->(∀(i:Nat) x,ρ'[i]?=some (some x)->(∀d,x≠.val d)->σ'[i]?=σ[i]?/\ρ[i]?=some (some x))->Q σ' H
noncomputable def Qn(X:Cx)(ts:bx)(g:D6):Prop:=LX X ts (Ol X.K g)
noncomputable def Hv:D6:=λds ρ=>match ds with
 |[]=>some ρ
 |_=>none
noncomputable def Bt(g:GF)(h:D6):D6:=λds ρ=>match ds with
 |d::r=>(g d ρ).bind λρ1=>h r ρ1
 |_=>none
noncomputable def gT(n:Nat)(g:D6):GF:=λd ρ=>match d with
 |.tup xs=>if xs.length=n then g xs ρ else none
 |_=>none
end
noncomputable def wA{α:Type}(r:R α):R α:=match r with
 |.ok a=>.ok a
 |.error _=>un
theorem Dv{α:Type}{r:R α}{a:α}(h:wA r=.ok a):r=.ok a:=by
 cases r with
 |ok b=>exact h
 |error z=>cases h
noncomputable def inB(ix:gx)(ρ:ak):ak:=ix.map λo=>match o with
 |some i=>match ρ[i]? with
  |some (some (.val d))=>some (.val d)
  |_=>none
 |none=>none
noncomputable def xj(ρ:ak)(g:GF)(C:b6)(Fe:FX):List D->R (List D)
 |[]=>.ok []
 |d::ds=>(rO (g d ρ)).bind λρ1=>(wA (C ρ1)).bind λc=>if c then(wA (Fe ρ1)).bind λv=>(xj ρ g C Fe ds).bind λr=>.ok (v::r)else xj ρ g C Fe ds
theorem nB(ρ:ak)(g:GF)(C:b6)(Fe:FX)(d:D)(ds:List D):xj ρ g C Fe (d::ds)=(rO (g d ρ)).bind λρ1=>(wA (C ρ1)).bind λc=>if c then(wA (Fe ρ1)).bind λv=>(xj ρ g C Fe ds).bind λr=>.ok (v::r)else xj ρ g C Fe ds:=rfl
noncomputable def hX(ix:gx)(G:aW)(g:GF)(C:b6)(Fe:FX):FX:=λρ=>(G ρ).bind λds=>if small ds.length then wA ((xj (inB ix ρ) g C Fe ds).bind λr=>.ok (.lst r))else un
noncomputable def PH(X:Cx)(ifs:bx)(F:b6):Prop:=JQ X ifs (Ml X F)
noncomputable def dq:b6:=λ_=>.ok true
theorem mP{ix:gx}{ρ:ak}{j:Nat}{x:S}(e:(inB ix ρ)[j]?=some (some x)):∃i d,ix[j]?=some (some i)/\ρ[i]?=some (some (.val d))/\x=.val d:=by
 unfold inB at e;rw[RX]at e;cases q:ix[j]? with
 |none=>rw[q]at e;cases e
 |some o=>
  rw[q]at e;cases o with
  |none=>cases e
  |some i=>
   have e':(match ρ[i]? with|some (some (.val d))=>some (S.val d)|_=>none)=some x:=Option.some.inj e;split at e'
   ·rename_i d hd;cases e';exact⟨i,d,rfl,hd,rfl⟩
   ·cases e'
theorem GP{K:Ug}{O:aA}{H:Hp}{ρ:ak}{σ:St}(ix:gx)(E:cY K O H ρ σ):cY K O H (inB ix ρ) (inBlock ix σ):=by
 refine⟨λj d e=>?_,λj xs e=>?_,λj k xs ys a e=>?_,E.all⟩
 ·obtain⟨i,d',q1,q2,q3⟩:=mP e;cases q3;obtain⟨v,e1,e2⟩:=E.val i d q2;refine⟨v,?_,e2⟩;unfold inBlock;rw[RX,q1];show some ((σ[i]?).getD none)=some (some v);rw[e1];rfl
 ·obtain⟨_,_,_,_,q3⟩:=mP e;cases q3
 ·obtain⟨_,_,_,_,q3⟩:=mP e;cases q3
theorem vE{H:Hp}{O:aA}{p:Vj}{o:HO}(hp:H p=none):bj (hid H O) (hid (upd H p o) (p::O)):=λb u h=>by
 unfold hid at h ⊢;by_cases hb:b∈O
 ·rw[if_pos hb]at h;cases h
 ·rw[if_neg hb]at h;have ne:=aY h hp;rw[if_neg (by intro z;rcases List.mem_cons.mp z with z|z;exact ne z;exact hb z),aM ne];exact h
theorem cY.hideNew{K:Ug}{O:aA}{H:Hp}{ρ:ak}{σ:St}{p:Vj}{o:HO}(m:rQ o)(E:cY K O H ρ σ)(hp:H p=none):cY K (p::O) (upd H p o) ρ σ:=by
 have s:bj (hid H O) (hid (upd H p o) (p::O)):=vE hp;refine⟨λi d e=>let ⟨v,a,b⟩:=E.val i d e;⟨v,a,b.mono s⟩,λi xs e=>?_,E.one,(E.all.same (bQ hp o)).cons aH m⟩;obtain⟨a,e1,e2,e3⟩:=E.own i xs e;obtain⟨u,hu⟩:=e3.some;exact⟨a,e1,Rv _ e2,e3.mono (by rw[aM (aY hu hp)]) s⟩
theorem cY.rewrite{K:Ug}{O:aA}{H:Hp}{ρ:ak}{σ:St}{p:Vj}{o:HO}(m:rQ o)(E:cY K O H ρ σ)(hp:p∈O)(hs:∀(i:Nat) xs,ρ[i]?=some (some (.own xs))->σ[i]?≠some (some (.ref p))):cY K O (upd H p o) ρ σ:=by
 have s:bj (hid H O) (hid (upd H p o) O):=iz hp;refine⟨λi d e=>let ⟨v,a,b⟩:=E.val i d e;⟨v,a,b.mono s⟩,λi xs e=>?_,E.one,E.all.upd hp m⟩;obtain⟨a,e1,e2,e3⟩:=E.own i xs e;have ne:a≠p:=λz=>hs i xs e (by rw[<-z];exact e1);exact⟨a,e1,e2,e3.mono (by rw[aM ne]) s⟩
theorem cY.forget{K:Ug}{O:aA}{H:Hp}{ρ ρ':ak}{σ:St}(E:cY K O H ρ σ)(h:∀(i:Nat) x,ρ'[i]?=some (some x)->ρ[i]?=some (some x)):cY K O H ρ' σ:=
 ⟨λi d e=>E.val i d (h i _ e),λi xs e=>E.own i xs (h i _ e),λi j xs ys a e1 e2=>E.one i j xs ys a (h i _ e1) (h j _ e2),E.all⟩
noncomputable def Fills(ρ:ak)(g:GF):Prop:=∀d ρ1,g d ρ=some ρ1->∀(i:Nat) x,ρ[i]?=some (some x)->ρ1[i]?=some (some x)
theorem sj(ix:gx)(ρ:ak):∀(i:Nat) xs,(inB ix ρ)[i]?≠some (some (.own xs)):=by
 intro j xs e;obtain⟨_,_,_,_,q3⟩:=mP e;cases q3
theorem Lw{α:Type}{o:Option α}{a:α}(h:rO o=.ok a):o=some a:=by
 cases o with
 |none=>cases h
 |some b=>cases h;rfl
end TG
namespace TG
open PySem PySem.Spec L2
variable[aw]
section
variable{X:Cx}{elt tg iter:Vk}{ifs:bx}{scope:Vv}{pos:Pos}{N:av}{ix:gx}{G:aW}{g:GF}{C:b6}{Fe:FX}
structure nF(ix:gx)(g:GF):Prop where
 fill:∀ρ,Fills (inB ix ρ) g
 own:∀ρ d ρ1,g d (inB ix ρ)=some ρ1->∀(i:Nat) xs,ρ1[i]?≠some (some (.own xs))
theorem v8{ρ:ak}{i:Nat}(h:ix[i]?=some none):∀x,(inB ix ρ)[i]?≠some (some x):=λx e=>by
 obtain⟨_,_,q,_⟩:=mP e;rw[h]at q;cases q
theorem iV{i:Nat}(h:ix[i]?=some none):nF ix (gN i):=
  ⟨fun ρ d ρ1 e j x q=>by
    cases e;by_cases z:j=i
    ·subst z;exact absurd q (v8 h x)
    ·unfold setV;rw[Rz (Ne.symm z)];exact q,
   λρ d ρ1 e j xs q=>by
    cases e;rcases bf q with⟨_,z⟩|⟨_,z⟩
    ·cases z
    ·exact sj ix ρ j xs z⟩
noncomputable def Gf(ix:gx)(is:List Nat):Bool:=is.all λi=>match ix[i]? with
 |some none=>true
 |_=>false
noncomputable def oO:List Nat->D6
 |[]=>Hv
 |i::is=>Bt (gN i) (oO is)
theorem yp:∀(is:List Nat)(ds:List D)(ρ ρ1:ak),oO is ds ρ=some ρ1->∀(k:Nat)(x:S),ρ1[k]?=some (some x)->(k∈is/\∃d,x=.val d)\/ρ[k]?=some (some x)
 |[],ds,ρ,ρ1,h,k,x,e=>by
  cases ds with
  |nil=>cases h;exact .inr e
  |cons _ _=>cases h
 |i::is,ds,ρ,ρ1,h,k,x,e=>by
  cases ds with
  |nil=>cases h
  |cons d ds=>
   rcases yp is ds (setV i d ρ) ρ1 h k x e with⟨a,b⟩|q
   ·exact .inl ⟨Rv _ a,b⟩
   ·rcases bf q with⟨z,w⟩|⟨_,w⟩
    ·exact .inl ⟨by rw[z];exact Ru,d,Option.some.inj w⟩
    ·exact .inr w
theorem vi:∀(is:List Nat)(ds:List D)(ρ ρ1:ak),oO is ds ρ=some ρ1->∀(k:Nat)(x:S),k∉is->ρ[k]?=some (some x)->ρ1[k]?=some (some x)
 |[],ds,ρ,ρ1,h,k,x,_,e=>by
  cases ds with
  |nil=>cases h;exact e
  |cons _ _=>cases h
 |i::is,ds,ρ,ρ1,h,k,x,n,e=>by
  cases ds with
  |nil=>cases h
  |cons d ds=>
   refine vi is ds (setV i d ρ) ρ1 h k x (λz=>n (Rv _ z)) ?_;unfold setV;rw[Rz (λz=>n (by rw[z];exact Ru))];exact e
theorem gX{is:List Nat}{n:Nat}(h:Gf ix is=true):nF ix (gT n (oO is)):=by
 have hn:∀i∈is,ix[i]?=some none:=λi hi=>by
  have:=List.all_eq_true.mp h i hi
  cases e:ix[i]? with
  |none=>rw[e]at this;cases this
  |some o=>cases o with
   |none=>rfl
   |some _=>rw[e]at this;cases this
 have shape:∀ρ d ρ1,gT n (oO is) d ρ=some ρ1->∃ds,oO is ds ρ=some ρ1:=λρ d ρ1 e=>by
  cases d with
  |tup xs=>
   have e':(if xs.length=n then oO is xs ρ else none)=some ρ1:=e;by_cases hl:xs.length=n
   ·rw[if_pos hl]at e';exact⟨xs,e'⟩
   ·rw[if_neg hl]at e';cases e'
  |_=>cases e
 refine⟨λρ d ρ1 e k x q=>?_,λρ d ρ1 e k xs q=>?_⟩
 ·obtain⟨ds,e⟩:=shape _ d ρ1 e;exact vi is ds _ ρ1 e k x (λz=>v8 (hn k z) x q) q
 ·obtain⟨ds,e⟩:=shape _ d ρ1 e;rcases yp is ds _ ρ1 e k _ q with⟨_,d,z⟩|z
  ·cases z
  ·exact sj ix ρ k xs z
structure kY(X:Cx)(scope:Vv)(N:av)(ix:gx):Prop where
 cell:∀y∈scope.names,y.2≠.cell
 kind:scope.kind=.function
 names:∀y∈scope.names,y.2=.local->scope.names.lookup y.1=some .local
 free:∀y∈scope.names,y.2=.free->X.env.scope.names.lookup y.1=some .cell\/X.env.scope.names.lookup y.1=some .free
 ix:uq X.N N scope.names ix=true
noncomputable def jA(XS:ql)(XN:av)(scope:Vv)(N:av)(ix:gx):Bool:=
 scope.names.all (λy=>decide (y.2≠.cell))&&decide (scope.kind=.function)&&scope.names.all (λy=>decide (y.2≠.local)||decide (scope.names.lookup y.1=some .local)) &&
  scope.names.all (λy=>decide (y.2≠.free)||(decide (XS.lookup y.1=some .cell)||decide (XS.lookup y.1=some .free)))&&uq XN N scope.names ix
theorem kY.of(h:jA X.env.scope.names X.N scope N ix=true):kY X scope N ix:=by
 unfold jA at h;simp only[R3]at h;obtain⟨⟨⟨⟨h1,h2⟩,h3⟩,h4⟩,h5⟩:=h;refine⟨λy hy=>of_decide_eq_true (List.all_eq_true.mp h1 y hy),of_decide_eq_true h2,λy hy e=>?_,λy hy e=>?_,h5⟩
 ·rcases SF _ _ ▸ List.all_eq_true.mp h3 y hy with q|q
  ·exact absurd e (of_decide_eq_true q)
  ·exact of_decide_eq_true q
 ·rcases SF _ _ ▸ List.all_eq_true.mp h4 y hy with q|q
  ·exact absurd e (of_decide_eq_true q)
  ·rcases SF _ _ ▸ q with q|q
   ·exact .inl (of_decide_eq_true q)
   ·exact .inr (of_decide_eq_true q)
noncomputable def Pw(X:Cx)(scope:Vv)(N:av)(tg elt:Vk)(ifs:bx)(g:GF)(C:b6)(Fe:FX):Prop:=
 ∀cl C' fp s H E,FG (cv X scope N cl C' fp s H E) tg g/\PH (cv X scope N cl C' fp s H E) ifs C/\FE (cv X scope N cl C' fp s H E) elt Fe
noncomputable def JN(K:Ug)(F:b6):TT:=λσ H Q=>∃O ρ b,cY K O H ρ σ/\F ρ=.ok b/\∀H',bj H H'->Q b H'
noncomputable def Oe(K:Ug)(F:FX):TE:=λσ H Q=>∃O ρ d,cY K O H ρ σ/\F ρ=.ok d/\∀v H',bj H H'->b9 K (hid H' O) d v->Q v H'
theorem Pw.k(hb:Pw X scope N tg elt ifs g C Fe):∀cl C' fp s H E,PG (cv X scope N cl C' fp s H E) tg (Mj X.K g)/\JQ (cv X scope N cl C' fp s H E) ifs (JN X.K C)/\PE (cv X scope N cl C' fp s H E) elt (Oe X.K Fe):=λcl C' fp s H E=>by
 obtain⟨h1,h2,h3⟩:=hb cl C' fp s H E;refine⟨h1,λpins s σ H Q I ⟨O,ρ,b,e1,e2,q⟩=>h2 pins s σ H Q I ⟨O,ρ,e1,by rw[e2];exact q⟩,λpins s σ H Q I ⟨O,ρ,d,e1,e2,q⟩=>h3 pins s σ H Q I ⟨O,ρ,e1,by rw[e2];exact q⟩⟩
noncomputable def MU(X:Cx)(F:FX):TE:=λσ H Q=>∃O ρ,cY X.K O H ρ σ/\dX X σ O H (F ρ) λd=>∀D H' total acc,d=.lst total->bj H H'->H D=none->H' D=some (.lst acc)->aB X.K (hid H' (D::O)) total acc->Q (.ref D) H'
theorem N3{F:FX}:∀σ H Q,tF X F σ H Q->MU X F σ H Q:=λσ H Q ⟨O,ρ,E,hF⟩=>⟨O,ρ,E,hF.imp λd q D H' total acc e sm hD hD' dn=>by
 subst e;have DO:D∉O:=E.all.not hD;exact q _ H' sm (b8.mpr ⟨D,acc,rfl,mJ.of (by rw[dH DO];exact hD'),dn.mono (iM λa ha=>Rv _ ha)⟩)⟩
theorem A0(tk:nF ix g):∀σ H Q,MU X (hX ix G g C Fe) σ H Q->Mw (NE X G) (Mj X.K g) (JN X.K C) (Oe X.K Fe) ix σ H Q:=λσ H Q ⟨O,ρ,E,hF⟩=>by
 refine⟨O,ρ,E,(dX.bind hF).imp λds hF=>?_⟩;have hz:small ds.length=true:=by
  cases e:small ds.length with
  |true=>rfl
  |false=>rw[e]at hF;exact hF.elim
 rw[hz,if_pos rfl]at hF;cases hL:xj (inB ix ρ) g C Fe ds with
 |error z=>rw[hL]at hF;exact hF.elim
 |ok total=>
 rw[hL]at hF;have q:∀D H' total' acc,TG.D.lst total=.lst total'->bj H H'->H D=none->H' D=some (.lst acc)->aB X.K (hid H' (D::O)) total' acc->Q (.ref D) H':=hF;have e2:=hL;have hfill:=tk.fill;have hown:=tk.own;refine λJ H1 s1 wk D hD=>?_;have E1:cY X.K (D::O) (upd H1 D (.lst [])) (inB ix ρ) (inBlock ix σ):=((GP ix E).same s1).hideNew trivial hD;have DO:D∉O:=(E.all.same s1).not hD;refine⟨λi m σ' H'=>m=ds.length-i/\i<=ds.length/\bj H1 H'/\cY X.K (D::O) H' (inB ix ρ) σ'/\∃acc dn rest,H' D=some (.lst acc)/\acc.length<=i/\aB X.K (hid H' (D::O)) dn acc/\xj (inB ix ρ) g C Fe (ds.drop i)=.ok rest/\dn++rest=total,
  ⟨ds.length,by rw[SM],RM _,bQ hD _,E1,[],[],total,aH,RB _,cf.mpr rfl,by rw[Su];exact e2,rfl⟩,?_⟩
 rintro i m σ' H' ⟨rfl,hi,sm,E',acc,dn,rest,hacc,hlen,hdn,hrest,htot⟩;have sH:bj (hid H1 O) (hid H' (D::O)):=λb o h=>by
  have h2:=sm b o (au H1 O b o h);unfold hid at h ⊢;by_cases hb:b∈O
  ·rw[if_pos hb]at h;cases h
  ·rw[if_neg hb]at h;have ne:b≠D:=aY h hD;rw[if_neg (by intro z;rcases List.mem_cons.mp z with z|z;exact ne z;exact hb z)];exact h2
 by_cases hlt:i<ds.length
 ·right;obtain⟨go,yl⟩:=(wk H' (D::O) i E'.all sH).1 ds[i] (by simp[hlt]);refine⟨go,λx H2 y=>?_⟩;obtain⟨s2,dx'⟩:=yl x H2 y;have E':=E'.same s2;have sm:=sm.trans s2;have hacc:=s2 _ _ hacc;have hdn:=hdn.mono (bC s2);rw[SR hlt,nB]at hrest;obtain⟨ρ1,g1,hrest⟩:=pS hrest;have g1:=Lw g1;obtain⟨c,c1,hrest⟩:=pS hrest;have c1:=Dv c1;refine⟨D::O,inB ix ρ,ds[i],ρ1,E',dx',g1,λσ3 E3 _=>?_⟩;refine⟨D::O,ρ1,c,E3,c1,λH4 s4=>?_⟩;have E4:=E3.same s4;have back:∀{H5:Hp},cY X.K (D::O) H5 ρ1 σ3->cY X.K (D::O) H5 (inB ix ρ) σ3:=λz=>z.forget λj x e=>hfill ρ _ _ g1 j x e;cases c with
  |true=>
   refine vt ?_;rw[if_pos rfl]at hrest;obtain⟨v,v1,hrest⟩:=pS hrest;have v1:=Dv v1;obtain⟨r,r1,hrest⟩:=pS hrest;cases hrest;refine⟨D::O,ρ1,v,E4,v1,λw H5 s5 dw=>?_⟩;have s45:=s4.trans s5;have ha5:H5 D=some (.lst acc):=s45 _ _ hacc;have hzl:ds.length<Vr:=SU (of_decide_eq_true hz) (by decide);refine⟨acc,ha5,by omega,ds.length-(i+1),by omega,rfl,hlt,?_,?_,acc++[w],dn++[v],r,aH,by rw[RZ,R6];omega,?_,r1,by rw[SV];exact htot⟩
   ·intro b o h;rw[aM (aY h hD)];exact s45 _ _ (sm _ _ h)
   ·exact back ((E3.same s45).rewrite trivial Ru λj xs e=>absurd e (hown ρ _ _ g1 j xs))
   ·have s6:bj (hid H5 (D::O)) (hid (upd H5 D (.lst (acc++[w]))) (D::O)):=iz Ru;exact(hdn.mono ((bC s45).trans s6)).snoc (dw.mono s6)
  |false=>
   refine vT ?_;rw[if_neg RF]at hrest;exact⟨ds.length-(i+1),by omega,rfl,hlt,sm.trans s4,back E4,acc,dn,rest,s4 _ _ hacc,by omega,hdn.mono (bC s4),hrest,htot⟩
 ·left;have ei:i=ds.length:=by omega
  subst ei;refine⟨(wk H' (D::O) ds.length E'.all sH).2 rfl,?_⟩;rw[List.drop_length]at hrest;cases hrest;rw[RN]at htot;subst htot;exact q D H' _ acc rfl (s1.trans sm) (s1.free hD) hacc hdn
theorem Ct(tk:nF ix g):∀σ H Q,tF X (hX ix G g C Fe) σ H Q->Mw (NE X G) (Mj X.K g) (JN X.K C) (Oe X.K Fe) ix σ H Q:=λσ H Q h=>A0 tk σ H Q (N3 σ H Q h)
end
structure Ks where
 nx:ak->R D
 bk:ak->R D:=λ_=>un
 ct:ak->R D:=λ_=>un
 ex:Ex->ak->R D:=λx _=>.error (some x)
noncomputable abbrev bN:=Ks->ak->R D
noncomputable def o8{α:Type}(r:R α)(k:Ks)(ρ:ak)(f:α->R D):R D:=match r with
 |.ok a=>f a
 |.error (some x)=>k.ex x ρ
 |.error none=>un
structure Base(Hb:Hp)(Ob:aA)(H:Hp)(O:aA):Prop where
 same:bj Hb H
 sub:∀a∈Ob,a∈O
 new:∀a∈O,a∈Ob\/Hb a=none
noncomputable def Dy(K:Ug)(H:Hp)(O:aA):aA->List D->Prop
 |[],[]=>True
 |b::bs,x::xs=>gu K H O b x/\Dy K H O bs xs
 |_,_=>False
noncomputable def yw(K:Ug)(H:Hp)(O:aA)(a:Vj)(bs:aA)(d:D):Prop:=
 ∃xs,Dy K H O bs xs/\((d=.lst xs/\H a=some (.lst (bs.map .ref)))\/(∃kvs:List (List Key×V),d=.dct (kvs.map λp=>.tup (p.1.map bm)) xs/\H a=some (.dT kvs)/\kvs.map (·.2)=bs.map .ref)\/(d=.dct [] xs/\bs=[]/\H a=some (.dK [])))
noncomputable def Dg(K:Ug)(Hb:Hp)(Ob O:aA)(H:Hp)(ρ:ak)(σ:St)(i:Nat)(d:D):Prop:=
 ∃a bs,σ[i]?=some (some (.ref a))/\yw K H O a bs d/\(a::bs).Nodup/\(∀b∈a::bs,b∈O/\Hb b=none/\b∉Ob/\∀(j:Nat) d',ρ[j]?=some (some (.own d'))->σ[j]?≠some (some (.ref b)))/\∀(j:Nat) d',ρ[j]?=some (some (.nest d'))->j=i
theorem Dy.mono{K:Ug}{H H':Hp}{O O':aA}(s:bj (hid H O) (hid H' O')):∀{bs:aA}{xs:List D},Dy K H O bs xs->(∀b∈bs,(∃o,H b=some o)->H' b=H b)->Dy K H' O' bs xs
 |[],[],_,_=>trivial
 |b::bs,x::xs,h,e=>⟨h.1.mono (e b Ru h.1.some).symm s,Dy.mono s h.2 λb' hb=>e b' (Rv _ hb)⟩
 |[],_::_,h,_=>h.elim
 |_::_,[],h,_=>h.elim
theorem Dy.some{K:Ug}{H:Hp}{O:aA}:∀{bs:aA}{xs:List D},Dy K H O bs xs->∀b∈bs,∃o,H b=some o
 |[],_,_,_,hb=>nomatch hb
 |b::bs,x::xs,h,b',hb=>by
  rcases List.mem_cons.mp hb with z|z
  ·rw[z];exact h.1.some
  ·exact Dy.some h.2 b' z
 |_::_,[],h,_,_=>h.elim
theorem yw.some{K:Ug}{H:Hp}{O:aA}{a:Vj}{bs:aA}{d:D}(h:yw K H O a bs d):∀b∈a::bs,∃o,H b=some o:=λb hb=>by
 obtain⟨xs,h1,h2⟩:=h;rcases List.mem_cons.mp hb with z|z
 ·rw[z];rcases h2 with⟨_,q⟩|⟨_,_,q,_⟩|⟨_,_,q⟩<;>exact⟨_,q⟩
 ·exact h1.some b z
theorem yw.mono{K:Ug}{H H':Hp}{O O':aA}{a:Vj}{bs:aA}{d:D}(h:yw K H O a bs d)(s:bj (hid H O) (hid H' O'))(e:∀b∈a::bs,(∃o,H b=Option.some o)->H' b=H b):yw K H' O' a bs d:=by
 have ea:=e a Ru (h.some a Ru);obtain⟨xs,h1,h2⟩:=h;refine⟨xs,h1.mono s λb hb=>e b (Rv _ hb),?_⟩;rw[ea];exact h2
theorem Dg.to{K:Ug}{Hb Hb':Hp}{Ob O O':aA}{H H':Hp}{ρ ρ':ak}{σ σ':St}{i:Nat}{d:D}(h:Dg K Hb Ob O H ρ σ i d)(hσ:σ'[i]?=σ[i]?)(s:bj (hid H O) (hid H' O'))
  (k:∀b,b∈O->Hb b=none->b∉Ob->(∀(j:Nat) d',ρ[j]?=some (some (.own d'))->σ[j]?≠some (some (.ref b)))->(∃o,H b=some o)->H' b=H b/\b∈O'/\Hb' b=none/\∀(j:Nat) d',ρ'[j]?=some (some (.own d'))->σ'[j]?≠some (some (.ref b)))
  (n:∀(j:Nat) d',ρ'[j]?=some (some (.nest d'))->∃d2,ρ[j]?=some (some (.nest d2))):Dg K Hb' Ob O' H' ρ' σ' i d:=by
 obtain⟨a,bs,h1,h2,h3,h4,h5⟩:=h;refine⟨a,bs,hσ.trans h1,h2.mono s λb hb ho=>?_,h3,λb hb=>?_,λj d' q=>?_⟩
 ·obtain⟨q1,q2,q3,q4⟩:=h4 b hb;exact(k b q1 q2 q3 q4 ho).1
 ·obtain⟨q1,q2,q3,q4⟩:=h4 b hb;obtain⟨_,w2,w3,w4⟩:=k b q1 q2 q3 q4 (h2.some b hb);exact⟨w2,w3,q3,w4⟩
 ·obtain⟨d2,q⟩:=n j d' q;exact h5 j d2 q
structure fg(K:Ug)(Hb:Hp)(Ob O:aA)(H:Hp)(ρ:ak)(σ:St):Prop where
 env:cY K O H ρ σ
 base:Base Hb Ob H O
 mine:∀(i:Nat) xs a,ρ[i]?=some (some (.own xs))->σ[i]?=some (some (.ref a))->Hb a=none/\a∉Ob
 nst:∀(i:Nat) d,ρ[i]?=some (some (.nest d))->Dg K Hb Ob O H ρ σ i d
theorem Base.same'{Hb:Hp}{Ob:aA}{H H':Hp}{O:aA}(b:Base Hb Ob H O)(s:bj H H'):Base Hb Ob H' O:=⟨b.same.trans s,b.sub,b.new⟩
theorem fg.same{K:Ug}{Hb:Hp}{Ob O:aA}{H H':Hp}{ρ:ak}{σ:St}(h:fg K Hb Ob O H ρ σ)(s:bj H H'):fg K Hb Ob O H' ρ σ:=⟨h.env.same s,h.base.same' s,h.mine,λi d q=>(h.nst i d q).to rfl (bC s) (λb q1 q2 q3 q4 ⟨o,ho⟩=>⟨by rw[ho,s _ _ ho],q1,q2,q4⟩) λj d' z=>⟨d',z⟩⟩
theorem fg.after{K:Ug}{Hb:Hp}{Ob O:aA}{H:Hp}{ρ ρ':ak}{σ σ':St}(S:fg K Hb Ob O H ρ σ)(E':cY K O H ρ' σ')(own:∀(i:Nat) x,ρ'[i]?=some (some x)->(∀d,x≠.val d)->σ'[i]?=σ[i]?/\ρ[i]?=some (some x)):fg K Hb Ob O H ρ' σ':=
 ⟨E',S.base,fun i xs a q1 q2=>by
  obtain⟨w1,w2⟩:=own i _ q1 (λ_ z=>nomatch z);rw[w1]at q2;exact S.mine i xs a w2 q2,λi d q=>by
  obtain⟨w1,w2⟩:=own i _ q (λ_ z=>nomatch z);refine(S.nst i d w2).to w1 (λ_ _ z=>z) (λb q1 q2 q3 q4 _=>⟨rfl,q1,q2,λl d' w=>?_⟩) λl d' w=>⟨d',(own l _ w (λ_ z=>nomatch z)).2⟩
  obtain⟨z1,z2⟩:=own l _ w (λ_ z=>nomatch z);rw[z1];exact q4 l d' z2⟩
structure MD(X:Cx)(Hb:Hp)(Ob:aA)(E:Ends)(k:Ks)(r:R D):Prop where
 ne:r≠un
 nx:∀O ρ σ H,fg X.K Hb Ob O H ρ σ->k.nx ρ=r->E.nx σ H
 bk:∀O ρ σ H,fg X.K Hb Ob O H ρ σ->k.bk ρ=r->E.bk σ H
 ct:∀O ρ σ H,fg X.K Hb Ob O H ρ σ->k.ct ρ=r->E.ct σ H
 rt:∀d O v H,r=.ok d->Base Hb Ob H O->b9 X.K (hid H O) d v->E.rt v H
 ex:∀O ρ σ H x,fg X.K Hb Ob O H ρ σ->k.ex x ρ=r->Kb X σ O H x
noncomputable def Pa(X:Cx)(Hb:Hp)(Ob:aA)(F:bN):TS:=λE σ H=>∃O ρ k r,fg X.K Hb Ob O H ρ σ/\F k ρ=r/\MD X Hb Ob E k r
noncomputable def FS(X:Cx)(st:Vl)(F:bN):Prop:=∀Hb Ob,PS X st (Pa X Hb Ob F)
noncomputable def Pj(X:Cx)(st:dZ)(F:bN):Prop:=∀Hb Ob,vW X st (Pa X Hb Ob F)
theorem dX.on{X:Cx}{Hb:Hp}{Ob O:aA}{H:Hp}{ρ:ak}{σ:St}{E:Ends}{k:Ks}{r:R D}{α:Type}{fr:R α}{G:α->R D}{Q:α->Prop}(h:o8 fr k ρ G=r)(hk:MD X Hb Ob E k r)(S:fg X.K Hb Ob O H ρ σ)(q:∀a,G a=r->Q a):dX X σ O H fr Q:=by
 match fr,h with
 |.ok a,h=>exact q a h
 |.error (some x),h=>exact hk.ex O ρ σ H x S h
 |.error none,h=>exact absurd h.symm hk.ne
section
variable{X:Cx}{st:Vl}{rest body:dZ}{pos:Pos}
noncomputable def bq:bN:=λk ρ=>k.nx ρ
noncomputable def aq(F1 F2:bN):bN:=λk ρ=>F1 {k with nx:=F2 k} ρ
noncomputable def aD(f:FX):bN:=λk ρ=>o8 (f ρ) k ρ .ok
noncomputable def Lv:bN:=λ_ _=>.ok .non
noncomputable def yq(f:FX):bN:=λk ρ=>o8 (f ρ) k ρ λ_=>k.nx ρ
noncomputable def eR(c:b6)(A B:bN):bN:=λk ρ=>o8 (c ρ) k ρ λb=>if b then A k ρ else B k ρ
noncomputable def aT(i:Nat)(f:FX):bN:=λk ρ=>o8 (f ρ) k ρ λd=>k.nx (setV i d ρ)
theorem fg.setV{K:Ug}{Hb:Hp}{Ob O:aA}{H:Hp}{ρ:ak}{σ:St}(E:fg K Hb Ob O H ρ σ){i:Nat}{d:D}{v:V}(hi:i<σ.length)(hd:b9 K (hid H O) d v):fg K Hb Ob O H (setV i d ρ) (σ.set i (some v)):=
  ⟨E.env.setV hi hd,E.base,fun j xs a e1 e2=>by
    rcases bf e1 with⟨_,q⟩|⟨ne,q⟩
    ·cases q
    · rw[Rz (Ne.symm ne)]at e2
      exact E.mine j xs a q e2,
   λj dn e=>by
    rcases bf e with⟨_,q⟩|⟨ne,q⟩
    ·cases q
    · refine(E.nst j dn q).to (Rz (Ne.symm ne)) (λ_ _ z=>z) (λb q1 q2 q3 q4 _=>⟨rfl,q1,q2,λl d' w=>?_⟩) λl d' w=>?_
      · rcases bf w with⟨_,z⟩|⟨nl,z⟩
        ·cases z
        ·rw[Rz (Ne.symm nl)];exact q4 l d' z
      · rcases bf w with⟨_,z⟩|⟨_,z⟩
        ·cases z
        ·exact⟨d',z⟩⟩
theorem oT{f:FX}{i:Nat}(hi:i<X.N.length)(h:PS X st (A6 (tF X f) (tM i))):FS X st (aT i f):=λHb Ob pins s σ H E I ⟨O,ρ,k,r,S,hF,hk⟩=>
 h pins s σ H E I ⟨O,ρ,S.env,dX.on hF hk S λd e v H1 s1 d1=>hk.nx O _ _ H1 ((S.same s1).setV (by rw[I.len];exact hi) d1) e⟩
noncomputable def wO(f:FX)(g:GF):bN:=λk ρ=>o8 (f ρ) k ρ λd=>(rO (g d ρ)).bind k.nx
noncomputable def j3:bN:=λ_ _=>un
noncomputable def kill(is:List Nat)(ρ:ak):ak:=is.foldl (λρ i=>ρ.set i none) ρ
theorem jg:∀(is:List Nat)(ρ:ak)(i:Nat)(x:S),(kill is ρ)[i]?=some (some x)->ρ[i]?=some (some x)
 |[],ρ,i,x,e=>e
 |j::is,ρ,i,x,e=>by
  rcases bf (jg is (ρ.set j none) i x e)with⟨_,q⟩|⟨_,q⟩
  ·cases q
  ·exact q
theorem fg.kill{K:Ug}{Hb:Hp}{Ob O:aA}{H:Hp}{ρ:ak}{σ:St}(E:fg K Hb Ob O H ρ σ)(is:List Nat):fg K Hb Ob O H (kill is ρ) σ:=
 ⟨E.env.forget (jg is ρ),E.base,λi xs a e1 e2=>E.mine i xs a (jg is ρ i _ e1) e2,λi d q=>(E.nst i d (jg is ρ i _ q)).to rfl (λ_ _ z=>z) (λb q1 q2 q3 q4 _=>⟨rfl,q1,q2,λl d' w=>q4 l d' (jg is ρ l _ w)⟩) λl d' w=>⟨d',jg is ρ l _ w⟩⟩
noncomputable def dr(is:List Nat)(F:bN):bN:=λk ρ=>F k (kill is ρ)
end
noncomputable def fV(g:GF)(B:bN)(k:Ks):List D->ak->R D
 |[],ρ=>k.nx ρ
 |d::ds,ρ=>(rO (g d ρ)).bind λρ1=>B ⟨fV g B k ds,k.nx,fV g B k ds,k.ex⟩ ρ1
noncomputable def kL(G:aW)(g:GF)(B:bN):bN:=λk ρ=>o8 (G ρ) k ρ λds=>fV g B k ds ρ
noncomputable def lb(H:Hp)(O Ob:aA):Hp:=λb=>if b∈O/\b∉Ob then none else H b
theorem uE{H:Hp}{O Ob:aA}{b:Vj}(h1:b∈O)(h2:b∉Ob):lb H O Ob b=none:=by unfold lb;rw[if_pos ⟨h1,h2⟩]
theorem Fq{H:Hp}{O Ob:aA}{b:Vj}{o:HO}(h:lb H O Ob b=some o):H b=some o/\¬(b∈O/\b∉Ob):=by
 unfold lb at h;split at h
 ·cases h
 ·rename_i n;exact⟨h,n⟩
theorem Dw{H:Hp}{O Ob:aA}{b:Vj}{o:HO}(h:H b=some o)(n:¬(b∈O/\b∉Ob)):lb H O Ob b=some o:=by unfold lb;rw[if_neg n];exact h
theorem Base.loop{Hb:Hp}{Ob:aA}{H:Hp}{O:aA}(b:Base Hb Ob H O):Base (lb H O Ob) Ob H O:=
 ⟨fun c o h=>(Fq h).1,b.sub,fun a ha=>by
  by_cases h:a∈Ob
  ·exact .inl h
  ·exact .inr (uE ha h)⟩
theorem Base.back{Hb:Hp}{Ob:aA}{H H':Hp}{O O':aA}(b:Base Hb Ob H O)(b':Base (lb H O Ob) Ob H' O'):Base Hb Ob H' O':=by
 have up:bj Hb (lb H O Ob):=λc o h=>Dw (b.same c o h) λ⟨z1,z2⟩=>by
  rcases b.new c z1 with z|z
  ·exact z2 z
  ·rw[z]at h;cases h
 exact⟨up.trans b'.same,b'.sub,λa ha=>(b'.new a ha).imp id up.free⟩
theorem fg.loop{K:Ug}{Hb:Hp}{Ob O:aA}{H:Hp}{ρ:ak}{σ:St}(E:fg K Hb Ob O H ρ σ):fg K (lb H O Ob) Ob O H ρ σ:=
 ⟨E.env,E.base.loop,fun i xs a e1 e2=>by
  obtain⟨_,n⟩:=E.mine i xs a e1 e2;obtain⟨a',e3,e4,_⟩:=E.env.own i xs e1;rw[e2]at e3;cases e3;exact⟨uE e4 n,n⟩,λi d q=>(E.nst i d q).to rfl (λ_ _ z=>z) (λb q1 q2 q3 q4 _=>⟨rfl,q1,uE q1 q3,q4⟩) λl d' w=>⟨d',w⟩⟩
theorem fg.back{K:Ug}{Hb:Hp}{Ob O O':aA}{H H':Hp}{ρ':ak}{σ':St}(b:Base Hb Ob H O)(E:fg K (lb H O Ob) Ob O' H' ρ' σ'):fg K Hb Ob O' H' ρ' σ':=
 have up:bj Hb (lb H O Ob):=λc o h=>Dw (b.same c o h) λ⟨z1,z2⟩=>by
  rcases b.new c z1 with z|z
  ·exact z2 z
  ·rw[z]at h;cases h
 ⟨E.env,b.back E.base,fun i xs a e1 e2=>by
  obtain⟨z,n⟩:=E.mine i xs a e1 e2;exact⟨up.free z,n⟩,λi d q=>(E.nst i d q).to rfl (λ_ _ z=>z) (λb q1 q2 q3 q4 _=>⟨rfl,q1,up.free q2,q4⟩) λl d' w=>⟨d',w⟩⟩
theorem CY{Hb:Hp}{Ob O O':aA}{H H':Hp}(b:Base Hb Ob H O)(b':Base (lb H O Ob) Ob H' O'):bj (hid H O) (hid H' O'):=λc o h=>by
 unfold hid at h ⊢;by_cases hc:c∈O
 ·rw[if_pos hc]at h;cases h
 ·rw[if_neg hc]at h;have h1:lb H O Ob c=some o:=Dw h λz=>hc z.1;rw[if_neg]
  ·exact b'.same _ _ h1
  ·intro z;rcases b'.new c z with z|z
   ·exact hc (b.sub c z)
   ·rw[h1]at z;cases z
theorem MD.loop{X:Cx}{Hb:Hp}{Ob O:aA}{H:Hp}{E E':Ends}{k k':Ks}{r:R D}(hk:MD X Hb Ob E k r)(b:Base Hb Ob H O)(hn:∀O' ρ' σ' H',fg X.K (lb H O Ob) Ob O' H' ρ' σ'->k'.nx ρ'=r->E'.nx σ' H')(hc:∀O' ρ' σ' H',fg X.K (lb H O Ob) Ob O' H' ρ' σ'->k'.ct ρ'=r->E'.ct σ' H')
    (eb:k'.bk=k.nx) (ee:k'.ex=k.ex) (Eb:E'.bk=E.nx) (Er:E'.rt=E.rt):MD X (lb H O Ob) Ob E' k' r:=
  ⟨hk.ne,hn,fun O' ρ' σ' H' S e=>by rw [Eb]; exact hk.nx O' ρ' σ' H' (S.back b) (by rw [<- eb]; exact e),hc,fun d O' v H' e b' dv=>by rw [Er]; exact hk.rt d O' v H' e (b.back b') dv,
   λO' ρ' σ' H' x S e=>hk.ex O' ρ' σ' H' x (S.back b) (by rw[<-ee];exact e)⟩
section
variable{X:Cx}{st:Vl}{rest body:dZ}{pos:Pos}
end
end TG
namespace TG
open PySem PySem.Spec L2
variable[aw]
theorem fg.setO{K:Ug}{Hb:Hp}{Ob O:aA}{H:Hp}{ρ:ak}{σ:St}(E:fg K Hb Ob O H ρ σ){i:Nat}{d d':D}{a:Vj}{o:HO}(hi:ρ[i]?=some (some (.own d)))(ha:σ[i]?=some (some (.ref a)))(m:rQ o)(new:gu K (upd H a o) O a d'):
  fg K Hb Ob O (upd H a o) (ρ.set i (some (.own d'))) σ:=by
 obtain⟨a',ha',haO,hat⟩:=E.env.own i d hi;rw[ha]at ha';cases ha';obtain⟨m1,m2⟩:=E.mine i d a hi ha;have s:bj (hid H O) (hid (upd H a o) O):=iz haO;have own:∀(j:Nat) ys,(ρ.set i (some (.own d')))[j]?=some (some (.own ys))->∃ys',ρ[j]?=some (some (.own ys')):=λj ys q=>by
  rcases bf q with⟨hj,_⟩|⟨_,q⟩
  ·rw[hj];exact⟨d,hi⟩
  ·exact⟨ys,q⟩
 refine⟨⟨λj d1 e=>?_,λj ys e=>?_,λj l ys zs b q1 q2 q3 q4=>?_,E.env.all.upd haO m⟩,⟨λb u h=>?_,E.base.sub,E.base.new⟩,λj ys b q1 q2=>?_,λj dn q=>?_⟩
 ·rcases bf e with⟨_,q⟩|⟨ne,q⟩
  ·cases q
  ·obtain⟨w,q1,q2⟩:=E.env.val j d1 q;exact⟨w,q1,q2.mono s⟩
 ·rcases bf e with⟨hj,q⟩|⟨ne,q⟩
  ·cases q;rw[hj];exact⟨a,ha,haO,new⟩
  ·obtain⟨b,q1,q2,q3⟩:=E.env.own j ys q;have nb:b≠a:=λz=>ne (E.env.one j i ys d a q hi (by rw[<-z];exact q1) ha);exact⟨b,q1,q2,q3.mono (by rw[aM nb]) s⟩
 ·obtain⟨_,q1'⟩:=own j ys q1;obtain⟨_,q2'⟩:=own l zs q2;exact E.env.one j l _ _ b q1' q2' q3 q4
 ·have nb:b≠a:=λz=>by rw[z,m1]at h;cases h
  rw[aM nb];exact E.base.same b u h
 ·obtain⟨ys',q⟩:=own j ys q1;exact E.mine j ys' b q q2
 ·have q:ρ[j]?=some (some (.nest dn)):=by
   rcases bf q with⟨_,z⟩|⟨_,z⟩
   ·cases z
   ·exact z
  refine(E.nst j dn q).to rfl s (λb q1 q2 q3 q4 _=>⟨aM λz=>q4 i d hi (by rw[z];exact ha),q1,q2,λl d1 w=>?_⟩) λl d1 w=>?_
  ·obtain⟨_,w'⟩:=own l d1 w;exact q4 l _ w'
  ·rcases bf w with⟨_,z⟩|⟨_,z⟩
   ·cases z
   ·exact⟨d1,z⟩
theorem fg.setNew{K:Ug}{Hb:Hp}{Ob O:aA}{H H':Hp}{ρ:ak}{σ:St}(E:fg K Hb Ob O H ρ σ){i:Nat}{d:D}{p:Vj}(hi:i<σ.length)(sm:bj H H')(hp:H p=none)(m:∃o,H' p=some o/\rQ o)(new:gu K H' (p::O) p d):
  fg K Hb Ob (p::O) H' (ρ.set i (some (.own d))) (σ.set i (some (.ref p))):=by
 have hpO:p∉O:=E.env.all.not hp;have s:bj (hid H O) (hid H' (p::O)):=λb o h=>by
  unfold hid at h ⊢;by_cases hb:b∈O
  ·rw[if_pos hb]at h;cases h
  ·rw[if_neg hb]at h;have ne:=aY h hp;rw[if_neg (by intro z;rcases List.mem_cons.mp z with z|z;exact ne z;exact hb z)];exact sm _ _ h
 have other:∀(j:Nat) xs,ρ[j]?=some (some (.own xs))->σ[j]?≠some (some (.ref p)):=λj xs e z=>by
  obtain⟨a,e1,e2,e3⟩:=E.env.own j xs e;rw[z]at e1;cases e1;obtain⟨o,e3⟩:=e3.some;rw[hp]at e3;cases e3
 refine⟨⟨λj d' e=>?_,λj xs e=>?_,λj k xs ys a e1 e2 e3 e4=>?_,⟨(E.env.all.same sm).1,λa ha=>?_⟩⟩,⟨E.base.same.trans sm,λa ha=>Rv _ (E.base.sub a ha),λa ha=>?_⟩,λj xs a e1 e2=>?_,λj dn e=>?_⟩
 ·rcases bf e with⟨_,q⟩|⟨ne,q⟩
  ·cases q
  ·obtain⟨v,q1,q2⟩:=E.env.val j d' q;exact⟨v,by rw[Rz (Ne.symm ne)];exact q1,q2.mono s⟩
 ·rcases bf e with⟨hj,q⟩|⟨ne,q⟩
  ·cases q;rw[hj];exact⟨p,Ry hi,Ru,new⟩
  ·obtain⟨a,q1,q2,q3⟩:=E.env.own j xs q;obtain⟨o,ho⟩:=q3.some;exact⟨a,by rw[Rz (Ne.symm ne)];exact q1,Rv _ q2,q3.mono (kQ sm ho) s⟩
 ·rcases bf e1 with⟨hj,q1⟩|⟨nj,q1⟩
  ·rcases bf e2 with⟨hk,q2⟩|⟨nk,q2⟩
   ·exact hj.trans hk.symm
   ·rw[hj,Ry hi]at e3;cases e3;rw[Rz (Ne.symm nk)]at e4;exact absurd e4 (other k ys q2)
  ·rcases bf e2 with⟨hk,q2⟩|⟨nk,q2⟩
   ·rw[hk,Ry hi]at e4;cases e4;rw[Rz (Ne.symm nj)]at e3;exact absurd e3 (other j xs q1)
   ·rw[Rz (Ne.symm nj)]at e3;rw[Rz (Ne.symm nk)]at e4;exact E.env.one j k xs ys a q1 q2 e3 e4
 ·rcases List.mem_cons.mp ha with rfl|ha
  ·exact m
  ·exact(E.env.all.same sm).2 a ha
 ·rcases List.mem_cons.mp ha with rfl|ha
  ·exact .inr (E.base.same.free hp)
  ·exact E.base.new a ha
 ·rcases bf e1 with⟨hj,q1⟩|⟨nj,q1⟩
  ·rw[hj,Ry hi]at e2;cases e2;exact⟨E.base.same.free hp,λz=>hpO (E.base.sub p z)⟩
  ·rw[Rz (Ne.symm nj)]at e2;exact E.mine j xs a q1 e2
 ·rcases bf e with⟨_,q⟩|⟨ne,q⟩
  ·cases q
  ·refine(E.nst j dn q).to (Rz (Ne.symm ne)) s (λb q1 q2 q3 q4 ⟨o,ho⟩=>⟨by rw[ho,sm _ _ ho],Rv _ q1,q2,λl d1 w=>?_⟩) λl d1 w=>?_
   ·rcases bf w with⟨hl,z⟩|⟨nl,z⟩
    ·rw[hl,Ry hi];intro z;cases z;rw[hp]at ho;cases ho
    ·rw[Rz (Ne.symm nl)];exact q4 l d1 z
   ·rcases bf w with⟨_,z⟩|⟨_,z⟩
    ·cases z
    ·exact⟨d1,z⟩
noncomputable def NN(X:Cx)(F:FX):TE:=λσ H Q=>∃O ρ,cY X.K O H ρ σ/\dX X σ O H (F ρ) λd=>∀p H',bj H H'->H p=none->(∃o,H' p=some o/\rQ o)->gu X.K H' (p::O) p d->Q (.ref p) H'
noncomputable def FN(X:Cx)(e:Vk)(F:FX):Prop:=PE X e (NN X F)
section
variable{X:Cx}{pos:Pos}
theorem kj{K:Ug}{H:Hp}{O:aA}{p:Vj}{ds:List D}{vs:aF}(hp:H p=none)(d:aB K (hid H O) ds vs):gu K (upd H p (.lst vs)) (p::O) p (.lst ds):=⟨_,vs,aH,rfl,d.mono (vE hp)⟩
noncomputable def v6:FX:=λ_=>.ok (.dct [] [])
theorem KL:FN X (.Dict [] [] pos) v6:=PE.weak Bz λσ H Q ⟨O,ρ,E,q⟩ p hp=>q p _ (bQ hp _) hp ⟨_,aH,trivial⟩ ⟨_,[],aH,cf.mpr rfl,.inr ⟨[],rfl,rfl,rfl⟩⟩
noncomputable def lK(i:Nat)(f:FX):bN:=λk ρ=>o8 (f ρ) k ρ λd=>k.nx (ρ.set i (some (.own d)))
theorem sO{st:Vl}{f:FX}{i:Nat}(hi:i<X.N.length)(h:PS X st (A6 (NN X f) (tM i))):FS X st (lK i f):=λHb Ob pins s σ H E I ⟨O,ρ,k,r,S,hF,hk⟩=>
 h pins s σ H E I ⟨O,ρ,S.env,dX.on hF hk S λd e p H1 s1 hp m o=>hk.nx _ _ _ H1 (S.setNew (by rw[I.len];exact hi) s1 hp m o) e⟩
end
theorem Hy{X:Cx}{F:FX}:∀σ H Q,NN X F σ H Q->MU X F σ H Q:=λσ H Q ⟨O,ρ,E,hF⟩=>⟨O,ρ,E,hF.imp λd q D H' total acc e sm hD hD' dn=>by
 subst e;exact q D H' sm hD ⟨_,hD',trivial⟩ ⟨_,acc,hD',rfl,dn⟩⟩
noncomputable def uX(i:Nat)(u:List D->List D->Option (List D))(f:aW):bN:=λk ρ=>match ρ[i]? with
 |some (some (.own (.lst xs)))=>o8 (f ρ) k ρ λds=>(rO (u xs ds)).bind λys=>k.nx (ρ.set i (some (.own (.lst ys))))
 |_=>un
noncomputable def G5(K:Ug)(r:V->aF->Hp->VK->Prop)(u:List D->List D->Option (List D)):Prop:=
 ∀(H:Hp)(O:aA)(a:Vj)(xs ys as:List D)(ws vs:aF)(Q:VK),dz H O->a∈O->H a=some (.lst ws)->aB K (hid H O) xs ws->aB K (hid H O) as vs->u xs as=some ys->(∀ws' v,aB K (hid H O) ys ws'->Q v (upd H a (.lst ws')))->r (.ref a) vs H Q
theorem pB{K:Ug}{H:Hp}{O:aA}{a:Vj}{ys:List D}{ws:aF}(ha:a∈O)(h:aB K (hid H O) ys ws):gu K (upd H a (.lst ws)) O a (.lst ys):=⟨_,ws,aH,rfl,h.mono (iz ha)⟩
noncomputable def gq(xs:List D)(ds:List D):Option (List D):=match ds with
 |[y]=>if small (xs.length+1)then some (xs++[y])else none
 |_=>none
theorem y3{K:Ug}:G5 K xS gq:=λH O a xs ys as ws vs Q hO haO ha dx da hu q=>by
 unfold gq at hu;split at hu
 ·rename_i y;obtain⟨h1,h2⟩:=aZ hu;subst h2;obtain⟨v,rfl,dv⟩:=da.one
  have:=dJ h1
  rw[dx.length]at this;exact⟨a,ws,v,rfl,rfl,ha,by omega,q _ _ (dx.snoc dv)⟩
 ·cases hu
noncomputable def Rc(xs:List D)(ds:List D):Option (List D):=match ds with
 |[.int i,y]=>if decide (0<=i/\i<=xs.length)&&small (xs.length+1)then some (xs.take i.toNat++y::xs.drop i.toNat)else none
 |_=>none
noncomputable def lY(i:Nat)(fi fv:FX):bN:=λk ρ=>match ρ[i]? with
 |some (some (.own (.lst xs)))=>o8 ((fv ρ).bind λy=>(fi ρ).bind λj=>.ok (y,j)) k ρ λp=>match p.2 with
  |.int j=>match uP xs.length j with
   |some n=>k.nx (ρ.set i (some (.own (.lst (xs.set n p.1)))))
   |none=>un
  |_=>un
 |_=>un
theorem Gn{X:Cx}{i:Nat}{x:Str}{idx value:Vk}{fi fv:FX}{npos tpos pos:Pos}(hx:PE X (.Name x npos) (ua i))(hi:FE X idx fi)(hv:FE X value fv)
  (hs:swapsWithSole [.Subscript (.Name x npos) idx tpos] value pos.line X.env=pure false:=by rfl) (hw:swappedStores [.Subscript (.Name x npos) idx tpos] value X.env=pure none:=by rfl)
  (h1:(assignEach [.Subscript (.Name x npos) idx tpos] X.env).map (·.2)=[assign (.Subscript (.Name x npos) idx tpos) X.env]:=by rfl)
  (hg:PG X (.Subscript (.Name x npos) idx tpos) (L2.rB (ua i) (tF X fi) Hz)):
  FS X (.Assign [.Subscript (.Name x npos) idx tpos] value pos) (lY i fi fv):=λHb Ob pins s σ H E I ⟨O,ρ,k,rr,S,hF,hk⟩=>by
 unfold lY at hF;split at hF
 ·rename_i xs hxs;obtain⟨a,ha,haO,hat⟩:=S.env.own i _ hxs;obtain⟨o,vs0,ho,eo,dn⟩:=hat;subst eo;have hP:=dX.on hF hk S (Q:=λp=>(match p.2 with|.int j=>(match uP xs.length j with|some n=>k.nx (ρ.set i (some (.own (.lst (xs.set n p.1)))))|none=>un)|_=>un)=rr) λp e=>e;refine DK hv hg hs hw h1 pins s σ H E I ⟨O,ρ,S.env,(dX.bind hP).imp λy hP v H1 s1 d1=>?_⟩;have S1:=S.same s1;refine⟨.ref a,ha,O,ρ,S1.env,((dX.bind hP).mono s1).imp λj hP w H2 s2 d2=>?_⟩;have S2:=S1.same s2;cases j with
  |int j=>
   cases hn:uP xs.length j with
   |none=>
    have e:(match uP xs.length j with|some n=>k.nx (ρ.set i (some (.own (.lst (xs.set n y)))))|none=>un)=rr:=hP;rw[hn]at e;exact absurd e.symm hk.ne
   |some n=>
    have e:(match uP xs.length j with|some n=>k.nx (ρ.set i (some (.own (.lst (xs.set n y)))))|none=>un)=rr:=hP;rw[hn]at e;have s12:=s1.trans s2;refine⟨a,vs0,j,n,rfl,eS.mp d2,s12 _ _ ho,by rw[<-dn.length];exact hn,hk.nx O _ σ _ (S2.setO hxs ha trivial (pB haO ?_)) e⟩;exact(dn.mono (bC s12)).set (d1.mono (bC s2)) n
  |_=>exact absurd (show un=rr from hP).symm hk.ne
 ·exact absurd hF.symm hk.ne
noncomputable def frz(i:Nat)(ρ:ak):ak:=match ρ[i]? with
 |some (some (.own d))=>setV i d ρ
 |_=>ρ
theorem cY.frz{K:Ug}{O:aA}{H:Hp}{ρ:ak}{σ:St}(E:cY K O H ρ σ)(i:Nat):∃O',cY K O' H (frz i ρ) σ/\(∀b∈O',b∈O)/\∀b∈O,b∉O'->∃d,ρ[i]?=some (some (.own d))/\σ[i]?=some (some (.ref b)):=by
 unfold TG.frz;split
 ·rename_i d hd;obtain⟨a,ha,haO,hat⟩:=E.own i d hd;have sub:∀b∈O.filter (λb=>decide (b≠a)),b∈O:=λb hb=>(List.mem_filter.mp hb).1;have s:bj (hid H O) (hid H (O.filter λb=>decide (b≠a))):=iM sub;have na:a∉O.filter λb=>decide (b≠a):=λz=>absurd rfl (of_decide_eq_true (List.mem_filter.mp z).2);refine⟨O.filter λb=>decide (b≠a),⟨λj d' e=>?_,λj ys e=>?_,λj l ys zs b q1 q2 q3 q4=>?_,⟨E.all.1,λb hb=>E.all.2 b (sub b hb)⟩⟩,sub,λb hb nb=>?_⟩
  ·rcases bf e with⟨hj,q⟩|⟨ne,q⟩
   ·cases q;rw[hj];exact⟨.ref a,ha,hat.den s na⟩
   ·obtain⟨w,q1,q2⟩:=E.val j d' q;exact⟨w,q1,q2.mono s⟩
  ·rcases bf e with⟨_,q⟩|⟨ne,q⟩
   ·cases q
   ·obtain⟨b,q1,q2,q3⟩:=E.own j ys q;have nb:b≠a:=λz=>ne (E.one j i ys d a q hd (by rw[<-z];exact q1) ha);exact⟨b,q1,List.mem_filter.mpr ⟨q2,decide_eq_true nb⟩,q3.mono rfl s⟩
  ·rcases bf q1 with⟨_,q⟩|⟨_,q⟩
   ·cases q
   ·rcases bf q2 with⟨_,q'⟩|⟨_,q'⟩
    ·cases q'
    ·exact E.one j l ys zs b q q' q3 q4
  ·by_cases z:b=a
   ·exact⟨d,hd,by rw[z];exact ha⟩
   ·exact absurd (List.mem_filter.mpr ⟨hb,decide_eq_true z⟩) nb
 ·exact⟨O,E,λ_ z=>z,λb hb nb=>absurd hb nb⟩
theorem fg.frz{K:Ug}{Hb:Hp}{Ob O:aA}{H:Hp}{ρ:ak}{σ:St}(E:fg K Hb Ob O H ρ σ)(i:Nat):∃O',fg K Hb Ob O' H (frz i ρ) σ:=by
 obtain⟨O',E',sub,gone⟩:=E.env.frz i;refine⟨O',E',⟨E.base.same,λa ha=>?_,λa ha=>E.base.new a (sub a ha)⟩,λj xs a q1 q2=>?_,λj dn q1=>?_⟩
 ·by_cases z:a∈O'
  ·exact z
  ·obtain⟨d,e1,e2⟩:=gone a (E.base.sub a ha) z;exact absurd ha (E.mine i d a e1 e2).2
 ·have q:ρ[j]?=some (some (.own xs)):=by
   unfold TG.frz at q1;split at q1
   ·rcases bf q1 with⟨_,q⟩|⟨_,q⟩
    ·cases q
    ·exact q
   ·exact q1
  exact E.mine j xs a q q2
 ·have bk:∀(l:Nat) x,(TG.frz i ρ)[l]?=some (some x)->(∀d,x≠.val d)->ρ[l]?=some (some x):=λl x e nv=>by
   unfold TG.frz at e;split at e
   ·rcases bf e with⟨_,q⟩|⟨_,q⟩
    ·cases q;exact absurd rfl (nv _)
    ·exact q
   ·exact e
  refine(E.nst j dn (bk j _ q1 (λ_ z=>nomatch z))).to rfl (iM sub) (λb w1 w2 w3 w4 _=>⟨rfl,?_,w2,λl d1 w=>w4 l d1 (bk l _ w (λ_ z=>nomatch z))⟩) λl d1 w=>⟨d1,bk l _ w (λ_ z=>nomatch z)⟩
  by_cases z:b∈O'
  ·exact z
  ·obtain⟨d,e1,e2⟩:=gone b w1 z;exact absurd e2 (w4 i d e1)
noncomputable def oN(i:Nat)(F:bN):bN:=λk ρ=>F k (frz i ρ)
mutual
noncomputable def lf:D->Bool
 |.tup xs=>yf xs
 |.lst _=>false
 |.dct _ _=>false
 |.obj _ _ vs=>yf vs
 |.exc _ _ _=>false
 |_=>true
noncomputable def yf:List D->Bool
 |[]=>true
 |x::xs=>lf x&&yf xs
end
mutual
theorem Cj{K:Ug}{H:Hp}{O O':aA}(hO:dz H O):∀{d:D}{v:V},lf d=true->b9 K (hid H O') d v->b9 K (hid H O) d v
 |.non,_,_,h=>by unfold b9 at h ⊢;exact h
 |.bl _,_,_,h=>by unfold b9 at h ⊢;exact h
 |.int _,_,_,h=>by unfold b9 at h ⊢;exact h
 |.str _,_,_,h=>by unfold b9 at h ⊢;exact h
 |.lst _,_,l,_=>by unfold lf at l;cases l
 |.dct _ _,_,l,_=>by unfold lf at l;cases l
 |.exc _ _ _,_,l,_=>by unfold lf at l;cases l
 |.obj c fs xs,_,l,h=>by
  unfold lf at l;rw[FQ]at h ⊢;obtain⟨a,ws,e,h1,hl,C,dx,hc,ha⟩:=h;refine⟨a,ws,e,nq hO l h1,hl,C,dx,hc,?_⟩;have q':=au H O' a _ ha;rw[dH λz=>by obtain⟨u,e1,e2⟩:=hO.2 a z;rw[q']at e1;cases e1;exact e2.elim];exact q'
 |.tup xs,_,l,h=>by
  unfold lf at l;rw[bW]at h ⊢;obtain⟨a,vs,e,h1,h2⟩:=h;refine⟨a,vs,e,?_,nq hO l h2⟩;have key:∀{o:HO},hid H O' a=some o->¬rQ o->hid H O a=some o:=λ{o} q n=>by
   have q':=au H O' a o q;rw[dH λz=>by obtain⟨u,e1,e2⟩:=hO.2 a z;rw[q']at e1;cases e1;exact n e2];exact q'
  exact key h1 λz=>z.elim
theorem nq{K:Ug}{H:Hp}{O O':aA}(hO:dz H O):∀{ds:List D}{vs:aF},yf ds=true->aB K (hid H O') ds vs->aB K (hid H O) ds vs
 |[],_,_,h=>by rw[cf]at h ⊢;exact h
 |x::xs,_,l,h=>by
  unfold yf at l;rw[R3]at l;rw[aK]at h ⊢;obtain⟨v,r,e,h1,h2⟩:=h;exact⟨v,r,e,Cj hO l.1 h1,nq hO l.2 h2⟩
end
noncomputable def frzs(is:List Nat)(ρ:ak):ak:=is.foldl (λρ i=>frz i ρ) ρ
theorem cY.frzs{K:Ug}{H:Hp}{σ:St}:∀(is:List Nat){O:aA}{ρ:ak},cY K O H ρ σ->∃O',cY K O' H (frzs is ρ) σ
 |[],O,_,E=>⟨O,E⟩
 |i::is,_,_,E=>by
  obtain⟨O',E',_⟩:=E.frz i;exact cY.frzs is E'
noncomputable def gF(is:List Nat)(f:FX):FX:=λρ=>(wA (f (frzs is ρ))).bind λd=>if lf d then .ok d else un
end TG
namespace TG
open PySem PySem.Spec L2
variable[aw]
noncomputable def yN(K:Ug)(n:Nat)(g:bE):Sp:=λvs H Q E=>∃O ds,vs.length=n/\dz H O/\aB K (hid H O) ds vs/\match g ds with
 |.ok d=>∀v H',bj H H'->b9 K (hid H' O) d v->Q v H'
 |.error (some x)=>Nk K H O x E
 |.error none=>False
section
variable{X:Cx}{k:Nat}{f C:Vj}{fd:VY}{ps:av}{sp:Sp}{x m:Str}{p pos apos:Pos}{e o:Vk}{es:bx}{ta:TE}{t:TA}
theorem uI{pins:bh}{σ:St}{H:Hp}{s:Vm}{Q:VK}{E:XK}{us:bc}{vs:aF}(F:ig X.prog X.w X.K X.mg X.base (nK X.prog X.w) k f fd ps sp)(hr:gD k X.A)(hb:Binds X.K fd ps [])(hx:kD (nK X.prog X.w) X σ E)
  (I:Inv X pins σ H s) (r:Vals vs us) (h:sp vs H Q E):Vx (model X.prog X.w) X.A (call (.ref f) us) (EP X pins σ Q) X.xe s:=by
 have hl:(us++[]).length=ps.length:=by rw[RN,<-r.length];exact F.len _ _ _ _ h
 have hb':=hb s us I.kIn hl;rw[RN]at hb';refine V0 (V1 (F.run X.A X.stack s H ⟨us,[]⟩ us vs Q E hr I.env0 hb' r h) λr s' hq=>?_);cases r with
 |error e=>exact hx pins H s e s' I hq
 |ok fl=>
  cases fl with
  |ret u=>exact I.after hq
  |next=>exact False.elim hq
  |brk=>exact False.elim hq
  |cont=>exact False.elim hq
noncomputable def CN(X:Cx)(sp:Sp)(t:TA):TE:=λσ H Q=>t σ H λvs H1=>∃E,kD (nK X.prog X.w) X σ E/\sp vs H1 Q E
theorem Dh(F:ig X.prog X.w X.K X.mg X.base (nK X.prog X.w) k f fd ps sp)(hr:gD k X.A)(hg:Gl X x)(hm:X.mg x=some (.ref f))(hk:UB X.K (.ref f)=true)(hb:Binds X.K fd ps [])
  (ha:PA X (e::es) t) (hdb:(x==("__debug__":Str))=false:=by decide) (he:Vy (e::es) X.env=(false,eval e X.env)::Vy es X.env:=by rfl) (hpl:(backTo pos (Vy es X.env)).any (·.1)=false:=by rfl):
  PE X (.Call (.Name x p) (e::es) [] pos) (CN X sp t):=by
 intro pins s σ H Q I h;refine V2 (pW I hg hm ?_ hdb);refine UC (h₀:=X.base) I.ok.mod.kin hk (cE (ha pos pins s σ H _ I h) λus s1 ⟨vs,H1,I1,r,E,hx,q⟩=>⟨I1.kIn,?_⟩) he hpl;exact uI F hr hb hx I1 r q
theorem Ai{n:Nat}{g:bE}{f:aW}(hn:∀ds,g ds≠un->ds.length=n):∀σ H Q,tF X (fR g f) σ H Q->CN X (yN X.K n g) (NT X f) σ H Q:=λσ H Q ⟨O,ρ,E,hF⟩=>
 ⟨O,ρ,E,(dX.bind hF).imp fun ds hF vs H1 s1 d1=>by
  cases hg:g ds with
  |ok d=>
   rw[hg]at hF;refine⟨E0,xV,O,ds,by rw[<-d1.length];exact hn ds (by rw[hg];intro z;cases z),E.all.same s1,d1,?_⟩;rw[hg];exact λv H2 s2 d2=>hF v H2 (s1.trans s2) d2
  |error z=>
   rw[hg]at hF;cases z with
   |none=>exact hF.elim
   |some x=>
    refine⟨yB X O H1 x,yE (Kb.mono hF s1),O,ds,by rw[<-d1.length];exact hn ds (by rw[hg];intro z;cases z),E.all.same s1,d1,?_⟩;rw[hg];exact ve⟩
end
noncomputable def Callee(P:Vo)(w:Vn)(K:Ug)(mg:cN)(base:Vq)(k:Nat)(x:Str)(ps:av)(g:bE):Prop:=
 ∃f fd,ig P w K mg base (nK P w) k f fd ps (yN K ps.length g)/\Binds K fd ps []/\UB K (.ref f)=true/\mg x=some (.ref f)
noncomputable def Ar(n:Nat)(g:bE):Prop:=∀ds,g ds≠un->ds.length=n
noncomputable def K0:Ks:={nx:=λ_=>.ok .non}
noncomputable def env0(n:Nat)(ds:List D):ak:=ds.map (λd=>some (.val d))++List.replicate (n-ds.length) none
noncomputable def ai(B:bN)(np n:Nat):bE:=λds=>if ds.length=np then B K0 (env0 n ds)else un
theorem dB{B:bN}{np n:Nat}:Ar np (ai B np n):=λds h=>by
 unfold ai at h;split at h
 ·assumption
 ·exact absurd rfl h
theorem kI{n:Nat}{ds:List D}(i:Nat)(x:S)(e:(env0 n ds)[i]?=some (some x)):∃d,ds[i]?=some d/\x=.val d:=by
 unfold env0 at e;by_cases hi:i<ds.length
 ·rw[RW (by rw[RJ];exact hi),RX,Sz hi]at e;have e':some (S.val ds[i])=some x:=Option.some.inj e;exact⟨ds[i],by rw[Sz hi],(Option.some.inj e').symm⟩
 ·rw[RU (by rw[RJ];omega),RJ,RV]at e;split at e
  ·cases e
  ·cases e
theorem xr{K:Ug}{O:aA}{H:Hp}{N:av}{ds:List D}{vs:aF}(hO:dz H O)(h:aB K (hid H O) ds vs):cY K O H (env0 N.length ds) (L2.start N vs):=by
 refine⟨λi d e=>?_,λi xs e=>?_,λi j xs ys a e=>?_,hO⟩
 ·obtain⟨d',e1,e2⟩:=kI i _ e;cases e2;obtain⟨v,e3,e4⟩:=h.get e1;refine⟨v,?_,e4⟩;unfold L2.start;have hi:i<vs.length:=(List.getElem?_eq_some_iff.mp e3).1;rw[RW (by rw[RJ];exact hi),RX,e3];rfl
 ·obtain⟨d',_,e2⟩:=kI i _ e;cases e2
 ·obtain⟨d',_,e2⟩:=kI i _ e;cases e2
section
variable{P:Vo}{w:Vn}{K:Ug}{mg:cN}{base:Vq}
structure BodyOk(P:Vo)(w:Vn)(K:Ug)(mg:cN)(base:Vq)(k:Nat)(N:av)(qual:Str)(st:Vl)(f:Vj)(B:bN):Prop where
 h:∀(cdv:Vh)(A:Vu)(outer:List Env)(s:Vm)(H:Hp)(E:XK),gD k (A.deeper (U7 qual (aG st) s.heap.objs.size f cdv))->VM (model P w) (A.deeper (U7 qual (aG st) s.heap.objs.size f cdv)) (U7 qual (aG st) s.heap.objs.size f cdv) (jZ (nK P w) P w K mg base N qual (aG st) f cdv A outer s H E).xe->
  Pj (jZ (nK P w) P w K mg base N qual (aG st) f cdv A outer s H E) (eB st) B
theorem Nf{x qual:Str}{st:Vl}{f:Vj}{fd:VY}{N ps:av}{k:Nat}{sp:Sp}{CX:wx}(F:t6 K x qual st f fd)(S:cR N ps (aG st))(len:∀vs H Q E,sp vs H Q E->vs.length=ps.length)
  (hbody:∀ (cdv:Vh) (A:Vu) (outer:List Env) (s:Vm) (H:Hp) (vs:aF) (Q:VK) (E:XK),gD k (A.deeper (U7 qual (aG st) s.heap.objs.size f cdv))->sp vs H Q E ->
   ∃t,vW (jZ CX P w K mg base N qual (aG st) f cdv A outer s H E) (eB st) t/\t {nx:=λ_ H'=>Q .non H',rt:=Q} (L2.start N vs) H):ig P w K mg base CX (k+1) f fd ps sp:=by
 obtain⟨oc,od,kV,doc,pm,an,cdv,ct,osl,rfl,lk,hcd⟩:=F.ex;exact Hx lk hcd S len λA outer s H vs Q E hr hsp=>hbody cdv A outer s H vs Q E hr hsp
theorem ig.any{CX:wx}{k:Nat}{f:Vj}{fd:VY}{ps:av}{sp:Sp}(F:ig P w K mg base ME k f fd ps sp):ig P w K mg base CX k f fd ps sp:=
 ⟨F.len,fun A outer s H args us vs Q E hr he hb hv hs=>V1 (F.run A outer s H args us vs Q E hr he hb hv hs) fun r s' h=>by
  cases r with
  |error e=>exact False.elim h
  |ok fl=>cases fl<;>exact h⟩
theorem uh{x qual:Str}{st:Vl}{f:Vj}{fd:VY}{N ps:av}{k:Nat}{B:bN}(F:t6 K x qual st f fd)(SC:cR N ps (aG st))(hb:BodyOk P w K mg base k N qual st f B):
  ig P w K mg base (nK P w) (k+1) f fd ps (yN K ps.length (ai B ps.length N.length)):=by
 refine Nf F SC (λvs H Q E h=>?_) λcdv A outer s H vs Q E hr h=>?_
 ·obtain⟨O,ds,h1,_⟩:=h;exact h1
 ·obtain⟨O,ds,h1,h2,h3,h4⟩:=h;have hl:ds.length=ps.length:=h3.length.trans h1;have e4:ai B ps.length N.length ds=B K0 (env0 N.length ds):=by unfold ai;rw[if_pos hl]
  rw[e4]at h4;refine⟨_,hb.h cdv A outer s H E hr PassesOwn.leaving H O,O,env0 N.length ds,K0,_,⟨xr h2 h3,⟨bj.refl H,λ_ z=>z,λa z=>.inl z⟩,λi xs a e=>?_,λi d e=>by obtain⟨d',_,e2⟩:=kI i _ e;cases e2⟩,rfl,?_⟩
  ·obtain⟨d',_,e2⟩:=kI i _ e;cases e2
  ·generalize B K0 (env0 N.length ds)=r at h4;refine⟨λz=>by rw[z]at h4;exact h4,λO' ρ' σ' H' S e=>?_,λO' ρ' σ' H' S e=>?_,λO' ρ' σ' H' S e=>?_,λd O' v H' e b dv=>?_,λO' ρ' σ' H' x S e=>?_⟩
   ·have e:(.ok .non:R D)=r:=e;subst e;exact h4 .non H' S.base.same (jD.mpr rfl)
   ·have e:(un:R D)=r:=e;subst e;exact h4.elim
   ·have e:(un:R D)=r:=e;subst e;exact h4.elim
   ·subst e;exact h4 v H' b.same (dv.mono (iM b.sub))
   ·have e:(.error (some x):R D)=r:=e;subst e;exact IJ h4 S.base.same S.base.sub
theorem zJ{x qual:Str}{st:Vl}{f:Vj}{fd:VY}{N ps:av}{k:Nat}{B:bN}(F:t6 K x qual st f fd)(b:Binds K fd ps [])(m:mg x=some (.ref f))(SC:cR N ps (aG st))(hb:BodyOk P w K mg base k N qual st f B):
  Callee P w K mg base (k+1) x ps (ai B ps.length N.length):=⟨f,fd,uh F SC hb,b,F.kp,m⟩
theorem vh{x qual:Str}{st:Vl}{f:Vj}{fd:VY}{ps:av}(k:Nat)(F:t6 K x qual st f fd)(b:Binds K fd ps [])(m:mg x=some (.ref f)):Callee P w K mg base k x ps (λ_=>un):=by
 have no:∀vs H Q E,¬yN K ps.length (λ_=>un) vs H Q E:=λvs H Q E ⟨O,ds,_,_,_,e⟩=>e;exact⟨f,fd,⟨λvs H Q E h=>absurd h (no vs H Q E),λA outer s H args us vs Q E _ _ _ _ h=>absurd h (no vs H Q E)⟩,b,F.kp,m⟩
end
theorem pR{K:Ug}{T:String}(h1:UJ K (.type "NoneType") (.type T)=some (T=="NoneType"))(h2:UJ K (.type "bool") (.type T)=some (T=="bool"||T=="int"))(h3:UJ K (.type "int") (.type T)=some (T=="int"))(h4:UJ K (.type "str") (.type T)=some (T=="str"))
  (h5:UJ K (.type "tuple") (.type T)=some (T=="tuple")) (h6:UJ K (.type "list") (.type T)=some (T=="list")):xo K T:=λd hd=>by
 cases d with
 |dct _ _=>cases hd
 |obj _ _ _=>cases hd
 |exc _ _ _=>cases hd
 |non=>exact h1
 |bl _=>exact h2
 |int _=>exact h3
 |str _=>exact h4
 |tup _=>exact h5
 |lst _=>exact h6
theorem Cd{K:Ug}:xo K "int":=pR rfl rfl rfl rfl rfl rfl
theorem y6{K:Ug}:xo K "bool":=pR rfl rfl rfl rfl rfl rfl
theorem BO{K:Ug}:xo K "str":=pR rfl rfl rfl rfl rfl rfl
theorem wv{K:Ug}:xo K "tuple":=pR rfl rfl rfl rfl rfl rfl
end TG
namespace TG
open PySem PySem.Spec L2
variable[aw]
section
variable{X:Cx}{a b c:Vk}{fa fb fc:FX}{pos:Pos}
theorem Ic{r:V->Hp->VK->Prop}{g:D->bu}(s:GQ X.K r g):∀σ H Q,tF X (f1 g fa) σ H Q->PB r (tF X fa) σ H Q:=λσ H Q ⟨O,ρ,E,hF⟩=>⟨O,ρ,E,(dX.bind hF).imp λa hF x H1 s1 d1=>by
 obtain⟨d,e,q⟩:=dX.rO hF;exact s a d x O H1 Q (E.all.same s1) e d1 λv H2 s2 d2=>q v H2 (s1.trans s2) d2⟩
noncomputable def mE(g g':D->D->bu)(fa fb fc:FX):FX:=λρ=>(fa ρ).bind λx=>(fb ρ).bind λy=>(rO (g x y)).bind λz=>wz z ((fc ρ).bind λw=>rO (g' y w))
theorem tS{r r':R2}{g g':D->D->bu}(s:cQ X.K r g)(s':cQ X.K r' g'):∀σ H Q,tF X (mE g g' fa fb fc) σ H Q->wB r r' (tF X fa) (tF X fb) (tF X fc) σ H Q:=λσ H Q ⟨O,ρ,E,hF⟩=>
 ⟨O,ρ,E,(dX.bind hF).imp fun x hF v1 H1 s1 d1=>⟨O,ρ,E.same s1,((dX.bind hF).mono s1).imp fun y hF v2 H2 s2 d2=>by
  obtain⟨z,e3,hF⟩:=dX.rO (dX.bind hF);refine s x y z v1 v2 O H2 _ (E.all.same (s1.trans s2)) e3 (d1.mono (bC s2)) d2 λv3 H3 s3 d3=>?_;cases z with
  |bl k=>
   refine⟨k,jG.mp d3,?_⟩;cases k with
   |false=>exact vT (hF _ H3 ((s1.trans s2).trans s3) (jG.mpr rfl))
   |true=>
    refine vt ⟨O,ρ,E.same ((s1.trans s2).trans s3),((dX.bind (show dX X σ O H ((fc ρ).bind λw=>rO (g' y w)) _ from hF)).mono ((s1.trans s2).trans s3)).imp λw hF v4 H4 s4 d4=>?_⟩;obtain⟨d,e5,q⟩:=dX.rO hF;exact s' y w d v2 v4 O H4 Q (E.all.same (((s1.trans s2).trans s3).trans s4)) e5 (d2.mono (bC (s3.trans s4))) d4 λv5 H5 s5 d5=>q v5 H5 ((((s1.trans s2).trans s3).trans s4).trans s5) d5
  |_=>exact hF.elim⟩⟩
noncomputable def IM:D->bu
 |.int i=>some (.int (-i))
 |_=>none
noncomputable def wM(f:FX):FX:=f1 IM f
noncomputable def DV:List D->bu
 |[.int i]=>if decide (i.natAbs.log2<1920)then some (.str (toString i))else none
 |_=>none
theorem zL:dg X (.type "str") (wn X.K DV):=by
 rintro pins s σ H xs us Q I r ⟨O,ds,d,hO,hd,hg,q⟩;unfold DV at hg;split at hg
 ·rename_i i;obtain⟨h1,h2⟩:=aZ hg;subst h2;obtain⟨v,ev,h1'⟩:=hd.one;exact uz pins s σ H xs us Q I r ⟨i,by rw[ev,eS.mp h1'],of_decide_eq_true h1,q _ H (bj.refl H) (eD.mpr rfl)⟩
 ·cases hg
noncomputable def Bu:D->bu
 |.str x=>if small x.length then some (.str (Txt.upper x))else none
 |_=>none
noncomputable def HL(f:FX):FX:=f1 Bu f
noncomputable def HR:D->bu
 |.lst xs=>some (.lst xs.reverse)
 |.tup xs=>some (.tup xs.reverse)
 |_=>none
noncomputable def NR(f:FX):FX:=f1 HR f
noncomputable def allB:List D->Option Bool
 |[]=>some true
 |.bl b::r=>(allB r).bind λc=>some (b&&c)
 |_=>none
noncomputable def AA:List D->bu
 |[.lst xs]=>(allB xs).bind λb=>some (.bl b)
 |_=>none
theorem u5:∀{xs:List D}{b:Bool},allB xs=some b->∃bs:List Bool,xs=bs.map .bl/\b=bs.all id
 |[],b,h=>by cases h;exact⟨[],rfl,rfl⟩
 |.bl x::r,b,h=>by
  obtain⟨c,e1,e2⟩:=bind_some (show((allB r).bind λc=>some (x&&c))=some b from h);cases e2;obtain⟨bs,e3,e4⟩:=u5 e1;exact⟨x::bs,by rw[RH,e3],by rw[Sw,e4];rfl⟩
 |.non::_,_,h=>by cases h
 |.int _::_,_,h=>by cases h
 |.str _::_,_,h=>by cases h
 |.tup _::_,_,h=>by cases h
 |.lst _::_,_,h=>by cases h
 |.dct _ _::_,_,h=>by cases h
 |.obj _ _ _::_,_,h=>by cases h
 |.exc _ _ _::_,_,h=>by cases h
theorem mr{K:Ug}{H:Hp}:∀{bs:List Bool}{vs:aF}{us:bc},aB K H (bs.map .bl) vs->Vals vs us->us=bs.map Value.bool
 |[],vs,us,h,r=>by
  rw[R7,cf]at h;subst h;cases r;rfl
 |b::bs,vs,us,h,r=>by
  rw[RH,aK]at h;obtain⟨v,r',e,h1,h2⟩:=h;subst e;cases r with
  |cons q1 q2=>
   rw[jG]at h1;subst h1;cases q1;rw[RH,mr h2 q2]
theorem range_all(bs:List Bool):((List.range bs.length).all λi=>(bs[i]?).getD true)=bs.all id:=by
 induction bs with
 |nil=>rfl
 |cons b bs ih=>
  rw[RG,Sx,Sw,Sy,Sw,<-ih];rfl
theorem yT(hc:X.calm=true):dg X (.builtin "all") (wn X.K AA):=by
 rintro pins s σ H xs us Q I r ⟨O,ds,d,hO,hd,hg,q⟩;unfold AA at hg;split at hg
 ·rename_i ys;obtain⟨bv,e1,e2⟩:=bind_some hg;cases e2;obtain⟨bs,eb,ev⟩:=u5 e1;subst eb ev;obtain⟨v,evv,h1⟩:=hd.one;subst evv;obtain⟨p,vs,ep,g1,g2⟩:=b8.mp h1;subst ep;obtain⟨u,eu,ru⟩:=vals1 r;subst eu;cases ru;obtain⟨its,rv,pl,hz⟩:=I.list ((au H O).seq g1);have ei:=mr g2 rv;have hl:=pl.isList;have hlt:p<s.heap.objs.size:=by obtain⟨_,e,_⟩:=hl;exact UW e
  refine call_all_walk (VL hl ?_);refine⟨s.heap.objs.size,[s.heap.objs.size,p],[s.heap.objs.size],its.toArray.size,_,_,λi=>(bs[i]?).getD true,rfl,Walks.list (A:=X.A.in1) (I.ok.hd hc) _ p (Rp hlt) its.toArray,
   ⟨⟨_,UZ _ rfl,rfl,rfl⟩,hl.push _⟩,λi v s' Q' E' hP hQ=>?_,λh' tk hk=>?_⟩
  ·have e:bs[i]?.map Value.bool=some v:=by
    rw[<-RX,<-ei]
    simpa using hP
   cases eb:bs[i]? with
   |none=>rw[eb]at e;cases e
   |some b=>
    rw[eb]at e;cases e;simp only[eb,SW]at hQ;exact VD hQ
  ·have e:((List.range its.toArray.size).all λi=>(bs[i]?).getD true)=bs.all id:=by
    have:its.toArray.size=bs.length:=(by rw[RE,ei,RJ]);rw[this];exact range_all bs
   rw[e];have k:∀b x,s.heap.get? b=some x->h'.get? b=some x:=λb x e=>hk b x (λhm=>by rw[List.mem_singleton.mp hm]at e;exact Ro _ (UW e)) (UY _ e);exact⟨.bl _,H,I.kept k,rfl,q _ H (bj.refl H) (jG.mpr rfl)⟩
 ·cases hg
end
end TG
namespace ZI
open PySem PySem.Spec PyProof.Rows
section
variable{prog:Vo}{w:Vn}{A:Vu}{E:Vh->Vm->Prop}{s:Vm}
theorem xc{it t:Vj}{i:Nat}{its:Array Vh}{x:Vh}{Q:Vh->Vm->Prop}(hit:s.heap.IsTupleIter it t i)(ht:s.heap.IsTuple t its)(hx:its[i]?=some x)
  (hQ:∀g,g.IsTupleIter it t (i+1)->UX it s.heap g->Q x {s with heap:=g}):Vx (model prog w) A (Builtin.SmallTypes.nextOf (.ref it)) Q E s:=by
 obtain⟨ob,h1,h2,h3⟩:=id hit;obtain⟨ol,g1,_,n,g2⟩:=ht;unfold Builtin.SmallTypes.nextOf;refine VF (V8 (name:=Str.ofString "__next__") hit.typeIs F.slot_tuple_iterator_next (V9 F.slot_tuple_iterator_next hit.typeIs F.entry_tuple_iterator_next ?_ (F.args_tuple_iterator_next_1 _)));show Vx _ _ (field (.ref it) 0 >>= _) _ _ s;refine VF (V7 h1 h3 (x:=.ref t) rfl ?_);show Vx _ _ (if(Value.ref t==Value.none)=true then _ else _) _ _ s;rw[if_neg (show¬((Value.ref t==Value.none)=true)from λz=>RF z)];show Vx _ _ (field (.ref it) 1 >>= _) _ _ s;refine VF (V7 h1 h3 (x:=.int i 0) rfl ?_);show Vx _ _ (seqItems? (.ref t) >>= _) _ _ s;refine VF (Wi g1 g2 ?_);simp only[R0,hx];refine VF (Wj h1 h3 (by simp) (VI ⟨x,rfl,VI (hQ _ ⟨_,U1 _ h1 (Obj.isFreed_of_fields (Obj.data_mapFields h3 _)),(Obj.cls_mapFields ..).trans h2,by rw[Obj.data_mapFields h3];simp[rawInt]⟩ (Heap.SameBut.update ..))⟩))
theorem zt{it t:Vj}{i:Nat}{its:Array Vh}{Q:Vh->Vm->Prop}(hh:A.handled=none)(hit:s.heap.IsTupleIter it t i)(ht:s.heap.IsTuple t its)(hx:its[i]?=none)
  (hE:∀g e,Heap.ExtBut it s.heap g->(∃o,g.get? e=some o/\o.cls=.type "StopIteration")->E (.ref e) {s with heap:=g}):Vx (model prog w) A (Builtin.SmallTypes.nextOf (.ref it)) Q E s:=by
 obtain⟨ob,h1,h2,h3⟩:=id hit;obtain⟨ol,g1,_,n,g2⟩:=ht;unfold Builtin.SmallTypes.nextOf;refine VF (V8 (name:=Str.ofString "__next__") hit.typeIs F.slot_tuple_iterator_next (V9 F.slot_tuple_iterator_next hit.typeIs F.entry_tuple_iterator_next ?_ (F.args_tuple_iterator_next_1 _)));show Vx _ _ (field (.ref it) 0 >>= _) _ _ s;refine VF (V7 h1 h3 (x:=.ref t) rfl ?_);show Vx _ _ (if(Value.ref t==Value.none)=true then _ else _) _ _ s;rw[if_neg (show¬((Value.ref t==Value.none)=true)from λz=>RF z)];show Vx _ _ (field (.ref it) 1 >>= _) _ _ s;refine VF (V7 h1 h3 (x:=.int i 0) rfl ?_);show Vx _ _ (seqItems? (.ref t) >>= _) _ _ s;refine VF (Wi g1 g2 ?_);simp only[R0,hx];refine VF (We (VF (Wj h1 h3 (by simp) ?_)));show Vx _ _ (newExc (.type "StopIteration") [] >>= _) _ _ _;refine VF ?_;simp only[newExc,newTuple];refine VF (Wa ?_ (by size_fits));refine VF (m:=firstArgMember _ _) (wpAny_of_eq (a:=Value.none) (by first|rfl|(simp only[firstArgMember];rfl)) ?_);refine Wa ?_ (by size_fits);simp only[raiseNew];refine VF (wpAny_handled ?_)
 first|rw[show A.in1.handled=none from hh]|rw[hh]
 refine VF (VI (wpAny_throw ?_));exact hE _ _ (((Heap.SameBut.update ..).extBut.push _).push _) ⟨_,UZ _ rfl,rfl⟩
end
theorem Jo{prog:Vo}{w:Vn}{A:Vu}(hh:A.handled=none)(it t:Vj)(hne:t≠it)(its:Array Vh):Draws prog w A it [it,t] its.size (λi v=>its[i]?=some v) (λi h=>h.IsTupleIter it t i/\h.IsTuple t its)where
 live:=λi h ⟨⟨o,e,_⟩,_⟩=>⟨o,e⟩
 frame:=λi h h' ⟨x,y⟩ k=>⟨x.at λo e=>k it (by simp) o e,let ⟨o,e,r⟩:=y;⟨o,k t (by simp) o e,r⟩⟩
 item:=λi s Q E hi ⟨x,y⟩ hQ=>xc x y (Array.getElem?_eq_getElem hi) λg hg hs=>hQ _ g s.toks (Array.getElem?_eq_getElem hi) ⟨hg,let ⟨o,e,r⟩:=y;⟨o,(hs.2 t hne).trans e,r⟩⟩ hs
 done:=λs Q E ⟨x,y⟩ hE=>zt hh x y (by simp) hE
structure Apart(z TI TO i1 i2:Vj)(fp1 fp2:List Vj):Prop where
 a1:TI≠z
 a2:TO≠z
 a3:TI≠TO
 b1:z∉fp1
 b2:TO∉fp1
 b3:i2∉fp1
 c1:z∉fp2
 c2:TO∉fp2
 c3:i1∉fp2
 d1:TI≠i1
 d2:TI≠i2
 e1:i1∈fp1
 e2:i2∈fp2
section
variable{prog:Vo}{w:Vn}{A:Vu}{E:Vh->Vm->Prop}{s:Vm}{z TI TO i1 i2:Vj}{fp1 fp2:List Vj}{n1 n2 i:Nat}{P1 P2:Nat->Vh->Prop}{S1 S2:Nat->Vq->Prop}{a b:Vh}
theorem next_item{Q:Vh->Vm->Prop}(Ap:Apart z TI TO i1 i2 fp1 fp2)(D1:Draws prog w A i1 fp1 n1 P1 S1)(D2:Draws prog w A i2 fp2 n2 P2 S2)(hz:Wk s.heap z TI TO .none)(hTI:Wm s.heap TI (.ref i1) (.ref i2))(hTO:Wm s.heap TO a b)(st1:S1 i s.heap)(st2:S2 i s.heap)(l1:i<n1)(l2:i<n2)
  (hQ:∀ x y g tk,P1 i x->P2 i y->Wk g z TI TO (rawInt s.heap.objs.size)->Wm g TO x y->S1 (i+1) g->S2 (i+1) g->Wm g s.heap.objs.size x y->g.objs.size=s.heap.objs.size+1 ->
   (∀c o,c≠z->c≠TO->c≠i1->c≠i2->s.heap.get? c=some o->g.get? c=some o)->Q (.ref s.heap.objs.size) {s with heap:=g,toks:=tk}):
  Vx (model prog w) A (Builtin.«zip.__next__» ⟨[.ref z],[]⟩) (λfin s'=>∃v,fin=.done (.ret v)/\Q v s') E s:=by
 have n1z:i1≠z:=λe=>Ap.b1 (e ▸ Ap.e1);have n2z:i2≠z:=λe=>Ap.c1 (e ▸ Ap.e2);have n1T:i1≠TO:=λe=>Ap.b2 (e ▸ Ap.e1);have n2T:i2≠TO:=λe=>Ap.c2 (e ▸ Ap.e2);show Vx _ _ (field (.ref z) 2 >>= _) _ _ _;refine VF (V7 hz rfl (x:=.bool false) rfl ?_);show Vx _ _ (field (.ref z) 3 >>= _) _ _ _;refine VF (V7 hz rfl (x:=.ref TI) rfl ?_);refine VF (Wi hTI rfl ?_);show Vx _ _ (Builtin.SmallTypes.ownedTupleIsFree (.ref z) >>= _) _ _ _;refine VF ?_;unfold Builtin.SmallTypes.ownedTupleIsFree;refine VF (V7 hz rfl (x:=.none) rfl (VI ?_));simp only[if_true];refine VF (We ?_);refine VF (V7 hz rfl (x:=.ref TO) rfl ?_);refine VF (Wn hz (by simp) λg1 hz1 k1=>?_);have hz1:Wk g1 z TI TO .ellipsis:=hz1;refine VF ?_;simp only[List.zipIdx_cons,List.zipIdx_nil,Sg,List.forIn_nil];refine VF (VF (Wo ?_));show Vx _ _ (Builtin.SmallTypes.nextOf (.ref i1) >>= _) _ _ _;have q1:S1 i g1:=D1.frame _ _ _ st1 λb hb o e=>k1.extBut _ _ (λz'=>Ap.b1 (z' ▸ hb)) e;refine VF (D1.item i {s with heap:=g1} _ _ l1 q1 λx g2 tk2 p1 q2 k2=>VI ?_);have t2:Wm g2 TO a b:=k2.extBut _ _ n1T.symm (k1.extBut _ _ Ap.a2 hTO);refine VF (Wi t2 rfl ?_);refine VF (Wp t2 λg3 t3 k3=>?_);have t3:Wm g3 TO x b:=t3;refine VF (wpAny_letGo (VI ?_));refine VF (VF (Wo ?_));show Vx _ _ (Builtin.SmallTypes.nextOf (.ref i2) >>= _) _ _ _;have q3:S2 i g3:=D2.frame _ _ _ st2 λb hb o e=>k3.extBut _ _ (λz'=>Ap.c2 (z' ▸ hb)) (k2.extBut _ _ (λz'=>Ap.c3 (z' ▸ hb)) (k1.extBut _ _ (λz'=>Ap.c1 (z' ▸ hb)) e));refine VF (D2.item i {s with heap:=g3,toks:=tk2} _ _ l2 q3 λy g4 tk4 p2 q4 k4=>VI ?_);have t4:Wm g4 TO x b:=k4.extBut _ _ n2T.symm t3;refine VF (Wi t4 rfl ?_);refine VF (Wp t4 λg5 t5 k5=>?_);have t5:Wm g5 TO x y:=t5;refine VF (wpAny_letGo (VI (VI ?_)));refine VF (Wi t5 rfl ?_);refine VF (wpAny_newTuple ?_);have hsz:g5.objs.size=s.heap.objs.size:=by rw[k5.1,k4.1,k3.1,k2.1,k1.1]
 have hz5:Wk g5 z TI TO .ellipsis:=k5.extBut _ _ Ap.a2.symm (k4.extBut _ _ n2z.symm (k3.extBut _ _ Ap.a2.symm (k2.extBut _ _ n1z.symm hz1)));have k15:∀c o,c≠z->c≠TO->c≠i1->c≠i2->s.heap.get? c=some o->g5.get? c=some o:=λc o c1 c2 c3 c4 e=>k5.extBut _ _ c2 (k4.extBut _ _ c4 (k3.extBut _ _ c2 (k2.extBut _ _ c3 (k1.extBut _ _ c1 e))));have r1:S1 (i+1) g5:=D1.frame _ _ _ q2 λb hb o e=>k5.extBut _ _ (λz'=>Ap.b2 (z' ▸ hb)) (k4.extBut _ _ (λz'=>Ap.b3 (z' ▸ hb)) (k3.extBut _ _ (λz'=>Ap.b2 (z' ▸ hb)) e));have r2:S2 (i+1) g5:=D2.frame _ _ _ q4 λb hb o e=>k5.extBut _ _ (λz'=>Ap.c2 (z' ▸ hb)) e;have lz:z<g5.objs.size:=UW hz5;show Vx _ _ (Builtin.SmallTypes.ownedTupleHandOut (.ref z) (.ref g5.objs.size) >>= _) _ _ _;refine VF ?_;unfold Builtin.SmallTypes.ownedTupleHandOut;have hz6:Wk (g5.push {cls:=.type "tuple",data:=.seq #[x,y]}) z TI TO .ellipsis:=UY _ hz5;refine VF (Wn hz6 (by simp) λg7 hz7 k7=>?_);have hz7:Wk g7 z TI TO (rawInt g5.objs.size):=hz7;refine Wn hz7 (by simp) λg8 hz8 k8=>?_;have hz8:Wk g8 z TI TO (rawInt g5.objs.size):=hz8;have up:∀c o,c≠z->g5.get? c=some o->g8.get? c=some o:=λc o c1 e=>k8.extBut _ _ c1 (k7.extBut _ _ c1 (UY _ e));have t8:Wm g8 g5.objs.size x y:=k8.extBut _ _ (RA lz) (k7.extBut _ _ (RA lz) (UZ _ rfl));have s8:g8.objs.size=g5.objs.size+1:=by rw[k8.1,k7.1,U0]
 rw[hsz]at hz8 t8 s8;refine VI ⟨_,rfl,?_⟩;show Q (.ref g5.objs.size) _;rw[hsz];exact hQ x y g8 tk4 p1 p2 hz8 (up _ _ Ap.a2 t5) (D1.frame _ _ _ r1 λb hb o e=>up b o (λz'=>Ap.b1 (z' ▸ hb)) e) (D2.frame _ _ _ r2 λb hb o e=>up b o (λz'=>Ap.c1 (z' ▸ hb)) e) t8 s8 λc o c1 c2 c3 c4 e=>up c o c1 (k15 c o c1 c2 c3 c4 e)
theorem next_end{Q:Fin->Vm->Prop}(Ap:Apart z TI TO i1 i2 fp1 fp2)(D1:Draws prog w A i1 fp1 n1 P1 S1)(D2:Draws prog w A i2 fp2 n2 P2 S2)(hz:Wk s.heap z TI TO .none)(hTI:Wm s.heap TI (.ref i1) (.ref i2))(hTO:Wm s.heap TO a b)(st1:S1 i s.heap)(st2:S2 i s.heap)(hend:i=n1\/(i<n1/\i=n2))
  (hE:∀g e tk,(∀c o,c≠z->c≠TO->c≠i1->c≠i2->s.heap.get? c=some o->g.get? c=some o)->(∃o,g.get? e=some o/\o.cls=.type "StopIteration")->E (.ref e) {s with heap:=g,toks:=tk}):
  Vx (model prog w) A (Builtin.«zip.__next__» ⟨[.ref z],[]⟩) Q E s:=by
 have n1z:i1≠z:=λe=>Ap.b1 (e ▸ Ap.e1);have n2z:i2≠z:=λe=>Ap.c1 (e ▸ Ap.e2);have n1T:i1≠TO:=λe=>Ap.b2 (e ▸ Ap.e1);show Vx _ _ (field (.ref z) 2 >>= _) _ _ _;refine VF (V7 hz rfl (x:=.bool false) rfl ?_);show Vx _ _ (field (.ref z) 3 >>= _) _ _ _;refine VF (V7 hz rfl (x:=.ref TI) rfl ?_);refine VF (Wi hTI rfl ?_);show Vx _ _ (Builtin.SmallTypes.ownedTupleIsFree (.ref z) >>= _) _ _ _;refine VF ?_;unfold Builtin.SmallTypes.ownedTupleIsFree;refine VF (V7 hz rfl (x:=.none) rfl (VI ?_));simp only[if_true];refine VF (We ?_);refine VF (V7 hz rfl (x:=.ref TO) rfl ?_);refine VF (Wn hz (by simp) λg1 hz1 k1=>?_);have hz1:Wk g1 z TI TO .ellipsis:=hz1;refine VF ?_;simp only[List.zipIdx_cons,List.zipIdx_nil,Sg,List.forIn_nil];refine VF (VF (Wo ?_));show Vx _ _ (Builtin.SmallTypes.nextOf (.ref i1) >>= _) _ _ _;have q1:S1 i g1:=D1.frame _ _ _ st1 λb hb o e=>k1.extBut _ _ (λz'=>Ap.b1 (z' ▸ hb)) e;rcases hend with hend|⟨l1,hend⟩
 ·subst hend;refine VF (D1.done {s with heap:=g1} _ _ q1 λg2 e k2 he=>?_);obtain⟨oe,hoe,hce⟩:=he;have hz2:Wk g2 z TI TO .ellipsis:=k2 _ _ n1z.symm hz1;have hez:e≠z:=λx=>by rw[x,hz2]at hoe;cases hoe;simp at hce
  exact Wn hz2 (by simp) λg3 _ k3=>hE g3 e s.toks (λc o c1 _ c3 _ x=>k3.extBut _ _ c1 (k2 _ _ c3 (k1.extBut _ _ c1 x))) ⟨oe,k3.extBut _ _ hez hoe,hce⟩
 ·refine VF (D1.item i {s with heap:=g1} _ _ l1 q1 λx g2 tk2 p1 q2 k2=>VI ?_);have t2:Wm g2 TO a b:=k2.extBut _ _ n1T.symm (k1.extBut _ _ Ap.a2 hTO);refine VF (Wi t2 rfl ?_);refine VF (Wp t2 λg3 t3 k3=>?_);refine VF (wpAny_letGo (VI ?_));refine VF (VF (Wo ?_));show Vx _ _ (Builtin.SmallTypes.nextOf (.ref i2) >>= _) _ _ _;have q3:S2 i g3:=D2.frame _ _ _ st2 λb hb o e=>k3.extBut _ _ (λz'=>Ap.c2 (z' ▸ hb)) (k2.extBut _ _ (λz'=>Ap.c3 (z' ▸ hb)) (k1.extBut _ _ (λz'=>Ap.c1 (z' ▸ hb)) e));subst hend;refine VF (D2.done {s with heap:=g3,toks:=tk2} _ _ q3 λg4 e k4 he=>?_);obtain⟨oe,hoe,hce⟩:=he;have hz4:Wk g4 z TI TO .ellipsis:=k4 _ _ n2z.symm (k3.extBut _ _ Ap.a2.symm (k2.extBut _ _ n1z.symm hz1));have hez:e≠z:=λx=>by rw[x,hz4]at hoe;cases hoe;simp at hce
  exact Wn hz4 (by simp) λg5 _ k5=>hE g5 e tk2 (λc o c1 c2 c3 c4 x=>k5.extBut _ _ c1 (k4 _ _ c4 (k3.extBut _ _ c2 (k2.extBut _ _ c3 (k1.extBut _ _ c1 x))))) ⟨oe,k5.extBut _ _ hez hoe,hce⟩
end
noncomputable def SQ(b:Bool)(h:Vq)(l:Vj)(xs:Array Vh):Prop:=if b then h.IsList l xs else h.IsTuple l xs
noncomputable def SI(b:Bool)(h:Vq)(i l:Vj)(k:Nat):Prop:=if b then h.IsListIter i l k else h.IsTupleIter i l k
noncomputable def Mt(b:Bool):String:=if b then"list_iterator"else"tuple_iterator"
theorem SQ.keep{b:Bool}{h h':Vq}{l:Vj}{xs:Array Vh}(x:SQ b h l xs)(k:∀o,h.get? l=some o->h'.get? l=some o):SQ b h' l xs:=by
 cases b with
 |true=>exact Heap.IsList.at x k
 |false=>obtain⟨o,e,r⟩:=(show h.IsTuple l xs from x);exact(show h'.IsTuple l xs from⟨o,k o e,r⟩)
theorem SI.keep{b:Bool}{h h':Vq}{i l:Vj}{n:Nat}(x:SI b h i l n)(k:∀o,h.get? i=some o->h'.get? i=some o):SI b h' i l n:=by
 cases b with
 |true=>exact Heap.IsListIter.at x k
 |false=>exact Heap.IsTupleIter.at x k
theorem SQ.lt{b:Bool}{h:Vq}{l:Vj}{xs:Array Vh}(x:SQ b h l xs):l<h.objs.size:=by
 cases b with
 |true=>obtain⟨o,e,_⟩:=(show h.IsList l xs from x);exact UW e
 |false=>obtain⟨o,e,_⟩:=(show h.IsTuple l xs from x);exact UW e
theorem SI.get{b:Bool}{h:Vq}{i l:Vj}{n:Nat}(x:SI b h i l n):∃o,h.get? i=some o/\∀v,o.data≠.cell v:=by
 cases b with
 |true=>obtain⟨o,e,_,d⟩:=(show h.IsListIter i l n from x);exact⟨o,e,λv z=>by rw[d]at z;cases z⟩
 |false=>obtain⟨o,e,_,d⟩:=(show h.IsTupleIter i l n from x);exact⟨o,e,λv z=>by rw[d]at z;cases z⟩
theorem SI.new{b:Bool}{h:Vq}{l:Vj}:SI b (h.push {cls:=.type (Mt b),data:=.fields #[.ref l,.int 0 0]}) h.objs.size l 0:=by
 cases b with
 |true=>exact⟨_,UZ _ rfl,rfl,rfl⟩
 |false=>exact⟨_,UZ _ rfl,rfl,rfl⟩
theorem rh{b:Bool}{prog:Vo}{w:Vn}{A:Vu}{E:Vh->Vm->Prop}{s:Vm}{l:Vj}{xs:Array Vh}{Q:Vh->Vm->Prop}(h:SQ b s.heap l xs)
  (hQ:Q (.ref s.heap.objs.size) {s with heap:=s.heap.push {cls:=.type (Mt b),data:=.fields #[.ref l,.int 0 0]}}):Vx (model prog w) A (pyIter (.ref l)) Q E s:=by
 cases b with
 |true=>exact VL h hQ
 |false=>exact wpAny_pyIter_tuple h hQ
theorem lw{prog:Vo}{w:Vn}{A:Vu}(b:Bool)(hh:A.handled=none)(it l:Vj)(hne:l≠it)(its:Array Vh):Draws prog w A it [it,l] its.size (λi v=>its[i]?=some v) (λi h=>SI b h it l i/\SQ b h l its):=by
 cases b with
 |true=>exact Draws.list hh it l hne its
 |false=>exact Jo hh it l hne its
noncomputable abbrev AJ(b1:Bool)(h:Vq)(l1:Vj):Vq:=h.push {cls:=.type (Mt b1),data:=.fields #[.ref l1,.int 0 0]}
noncomputable abbrev Ku(b1 b2:Bool)(h:Vq)(l1 l2:Vj):Vq:=(AJ b1 h l1).push {cls:=.type (Mt b2),data:=.fields #[.ref l2,.int 0 0]}
noncomputable abbrev Mq(b1 b2:Bool)(h:Vq)(l1 l2:Vj):Vq:=(Ku b1 b2 h l1 l2).push {cls:=.type "tuple",data:=.seq #[.ref h.objs.size,.ref (AJ b1 h l1).objs.size]}
noncomputable abbrev Ms(b1 b2:Bool)(h:Vq)(l1 l2:Vj):Vq:=(Mq b1 b2 h l1 l2).push {cls:=.type "tuple",data:=.seq #[.none,.none]}
noncomputable abbrev Ht(b1 b2:Bool)(h:Vq)(l1 l2:Vj):Vq:=(Ms b1 b2 h l1 l2).push {cls:=.type "zip",data:=.fields #[.none,.bool false,.bool false,.ref (Ku b1 b2 h l1 l2).objs.size,.ref (Mq b1 b2 h l1 l2).objs.size]}
theorem Bm(b1 b2:Bool)(l1 l2:Vj)(xs ys:Array Vh):Meets (Builtin.«zip.__new__» ⟨[.type "zip",.ref l1,.ref l2],[]⟩) (λ_ R s=>SQ b1 s.heap l1 xs/\SQ b2 s.heap l2 ys/\R (.ok (.ret (.ref (Ms b1 b2 s.heap l1 l2).objs.size))) {s with heap:=Ht b1 b2 s.heap l1 l2}):=
 .of_wp λprog w A R s h=>by
  obtain⟨hp,g,d,tk,os⟩:=s;obtain⟨q1,q2,h⟩:=h;have hsub:=sub_zip;have e1:SQ b1 (Shared.heap ⟨hp,g,d,tk,os⟩) l1 xs:=q1;have e2:SQ b2 (Shared.heap ⟨AJ b1 hp l1,g,d,tk,os⟩) l2 ys:=q2.keep λo e=>UY _ e
  wp_walk using rh e1,rh e2
  exact⟨_,rfl,h⟩
theorem Bn{prog:Vo}{w:Vn}{A:Vu}{E:Vh->Vm->Prop}{s:Vm}{b1 b2:Bool}{l1 l2:Vj}{xs ys:Array Vh}{Q:Vh->Vm->Prop}(h1:SQ b1 s.heap l1 xs)(h2:SQ b2 s.heap l2 ys)
  (h:∀ g,Wk g (s.heap.objs.size+4) (s.heap.objs.size+2) (s.heap.objs.size+3) .none->Wm g (s.heap.objs.size+2) (.ref s.heap.objs.size) (.ref (s.heap.objs.size+1))->Wm g (s.heap.objs.size+3) .none .none->SI b1 g s.heap.objs.size l1 0->SI b2 g (s.heap.objs.size+1) l2 0 ->
   (∀c o,s.heap.get? c=some o->g.get? c=some o)->Q (.ref (s.heap.objs.size+4)) {s with heap:=g}):Vx (model prog w) A (call (.type "zip") [.ref l1,.ref l2]) Q E s:=by
 refine callType_new F.called_zip (by decide) (F.typeCall_zip_2 _ _) (F.newCall_zip_2 _ _) (λobj=>F.args_object_init_3 obj _ _) F.entry_zip_new (Bm b1 b2 l1 l2 xs ys) ⟨h1,h2,?_⟩;have z1:(AJ b1 s.heap l1).objs.size=s.heap.objs.size+1:=U0 ..
 have z2:(Ku b1 b2 s.heap l1 l2).objs.size=s.heap.objs.size+2:=by rw[U0,z1]
 have z3:(Mq b1 b2 s.heap l1 l2).objs.size=s.heap.objs.size+3:=by rw[U0,z2]
 have z4:(Ms b1 b2 s.heap l1 l2).objs.size=s.heap.objs.size+4:=by rw[U0,z3]
 have u1:∀c o,(AJ b1 s.heap l1).get? c=some o->(Ht b1 b2 s.heap l1 l2).get? c=some o:=λc o e=>UY _ (UY _ (UY _ (UY _ e)));have u2:∀c o,(Ku b1 b2 s.heap l1 l2).get? c=some o->(Ht b1 b2 s.heap l1 l2).get? c=some o:=λc o e=>UY _ (UY _ (UY _ e));have g5:(Ht b1 b2 s.heap l1 l2).get? (Ms b1 b2 s.heap l1 l2).objs.size=some _:=UZ _ rfl;have g4:(Ht b1 b2 s.heap l1 l2).get? (Mq b1 b2 s.heap l1 l2).objs.size=some _:=UY _ (UZ _ rfl);have g3:(Ht b1 b2 s.heap l1 l2).get? (Ku b1 b2 s.heap l1 l2).objs.size=some _:=UY _ (UY _ (UZ _ rfl));have g2:SI b2 (Ht b1 b2 s.heap l1 l2) (AJ b1 s.heap l1).objs.size l2 0:=SI.keep (SI.new (h:=AJ b1 s.heap l1)) λo e=>u2 _ o e;have g1:SI b1 (Ht b1 b2 s.heap l1 l2) s.heap.objs.size l1 0:=SI.keep SI.new λo e=>u1 _ o e;show _/\_;rw[z2,z3,z4]at g5;rw[z1,z2]at g3;rw[z3]at g4;rw[z1]at g2;rw[z4];exact⟨⟨_,g5,rfl⟩,h _ g5 g3 g4 g1 g2 λc o e=>u1 c o (UY _ e)⟩
theorem zS(b : Bool)(l : Vj)(xs : Array Vh): Meets (Builtin.«enumerate.__new__» ⟨[.type "enumerate", .ref l], []⟩) (fun _ R s => SQ b s.heap l xs /\
      R (.ok (.ret (.ref (AJ b s.heap l).objs.size))) {s with heap:=(AJ b s.heap l).push {cls:=.type "enumerate",data:=.fields #[.none,.bool false,.ref s.heap.objs.size,rawInt 0,.none,.none]}}):=
  .of_wp λprog w A R s h=>by
    obtain⟨hp,g,d,tk,os⟩:=s;obtain⟨q1,h⟩:=h;have hsub:=sub_enumerate;have e1:SQ b (Shared.heap ⟨hp,g,d,tk,os⟩) l xs:=q1
    wp_walk using rh e1
    refine wpAny_stack_any λst=>VI ?_;split
    · rename_i c _ _ _ _ _
      cases(c==Value.type "enumerate")<;>(wp_walk using rh e1;exact⟨_,rfl,h⟩)
    · wp_walk using rh e1
      exact⟨_,rfl,h⟩
end ZI
namespace TG
open PySem PySem.Spec L2 ZI
variable[aw]
section
variable{X:Cx}{pins:bh}{σ:St}{H:Hp}{s:Vm}{h':Vq}
theorem Inv.turnedL{ch:aA}{p:Vj}{o:HO}{t':Nat}(I:Inv X pins σ H s)(hf:∀b∈ch,rA X pins H b)(k:∀b u,b∉ch->s.heap.get? b=some u->h'.get? b=some u)(hp:s.heap.objs.size<=p)(new:cG X.prog X.w (upd H p o) h' p o):
  Inv X pins σ (upd H p o) {s with heap:=h',toks:=t'}:=by
 have hn:=I.hok.fresh hp;have nch:∀b u,H b=some u->b∉ch:=λb u e z=>by rw[(hf b z).1]at e;cases e
 refine I.step (g':=s.gens) (d':=s.drawn) (ch:=ch) (λb hb=>?_) (λb o _ _ hc e _=>k b o hc e) (λb o _ _ hc e _=>⟨o.slots,k b o hc e⟩) (λb u _ q n=>by rw[aM (Rp (Rm (UW q) hp))];exact n)
  (λb o hc e=>⟨o,k b o hc e⟩) (λb xs q=>by rw[aM (aY q hn)];exact q) (λb u xs q=>by rw[aM (aY q hn)];exact q) (λb ps q=>⟨#[],by rw[aM (aY q hn),q];simp⟩) (λm hm=>?_) (λb u e=>?_) I.bare
 ·obtain⟨_,f1,_,f3,f4,f5⟩:=hf b hb;exact⟨f3,f1,f4,f5⟩
 ·obtain⟨o,es,ep,ho,r⟩:=hm;exact⟨o,es,ep,k _ o (λz=>(hf _ z).2.1 rfl) ho,r⟩
 ·by_cases hb:b=p
  ·subst hb;rw[aH]at e;cases e;exact new
  ·rw[aM hb]at e;refine(I.hok b u e).stay (λc v hc q=>k c v ?_ q) (λc q=>by rw[aM (aY q hn)];exact q) λc xs q=>by rw[aM (aY q hn)];exact q
   rcases hc with z|z
   ·rw[z];exact nch b u e
   ·exact nch c _ z
theorem Inv.turned0{ch:aA}{t':Nat}(I:Inv X pins σ H s)(hf:∀b∈ch,rA X pins H b)(k:∀b u,b∉ch->s.heap.get? b=some u->h'.get? b=some u):Inv X pins σ H {s with heap:=h',toks:=t'}:=by
 have nch:∀b u,H b=some u->b∉ch:=λb u e z=>by rw[(hf b z).1]at e;cases e
 refine I.step (g':=s.gens) (d':=s.drawn) (ch:=ch) (λb hb=>?_) (λb o _ _ hc e _=>k b o hc e) (λb o _ _ hc e _=>⟨o.slots,k b o hc e⟩) (λ_ _ _ _ n=>n)
  (λb o hc e=>⟨o,k b o hc e⟩) (λ_ _ e=>e) (λ_ _ _ e=>e) (λb ps e=>⟨#[],by rw[e];simp⟩) (λm hm=>?_) (λb u e=>?_) I.bare
 ·obtain⟨_,f1,_,f3,f4,f5⟩:=hf b hb;exact⟨f3,f1,f4,f5⟩
 ·obtain⟨o,es,ep,ho,r⟩:=hm;exact⟨o,es,ep,k _ o (λz=>(hf _ z).2.1 rfl) ho,r⟩
 ·refine(I.hok b u e).stay (λc v hc q=>k c v ?_ q) (λ_ q=>q) λ_ _ q=>q;rcases hc with z|z
  ·rw[z];exact nch b u e
  ·exact nch c _ z
end
noncomputable def SX(K:Ug)(b:Bool)(H:Hp)(a:Vj)(xs:aF):Prop:=if b then mJ K H a xs else oJ K H a xs
theorem SX.same{K:Ug}{b:Bool}{H H':Hp}{a:Vj}{xs:aF}(e:bj H H')(h:SX K b H a xs):SX K b H' a xs:=by
 cases b with
 |true=>exact e.seq (show mJ K H a xs from h)
 |false=>exact Am e (show oJ K H a xs from h)
section
variable{X:Cx}{pins:bh}{σ:St}{H:Hp}{s:Vm}
theorem Inv.sx(I:Inv X pins σ H s){b:Bool}{a:Vj}{xs:aF}(h:SX X.K b H a xs):∃its:bc,Vals xs its/\SQ b s.heap a its.toArray/\xs.length<=Vr:=by
 cases b with
 |true=>obtain⟨its,r,p,z⟩:=I.list (show mJ X.K H a xs from h);exact⟨its,r,p.isList,z⟩
 |false=>obtain⟨its,r,p,z⟩:=I.tuple (show oJ X.K H a xs from h);exact⟨its,r,p,z⟩
theorem Inv.sx_inj(I:Inv X pins σ H s){b:Bool}{a:Vj}{xs ys:aF}(h:SX X.K b H a xs)(h':SX X.K b H a ys):xs=ys:=by
 cases b with
 |true=>exact I.list_inj h h'
 |false=>exact I.tuple_inj h h'
end
noncomputable def Pt(K:Ug)(b1 b2:Bool)(a1 a2:Vj):It:=
  ⟨fun i H=>∃ xs ys,SX K b1 H a1 xs/\SX K b2 H a2 ys/\i < xs.length/\i < ys.length,
   λi H v H'=>∃p x y,v=.ref p/\H p=none/\H'=upd H p (.tup [x,y])/\(∀xs,SX K b1 H a1 xs->xs[i]?=some x)/\∀ys,SX K b2 H a2 ys->ys[i]?=some y,
   λi H=>∃xs ys,SX K b1 H a1 xs/\SX K b2 H a2 ys/\(i=xs.length\/(i<xs.length/\i=ys.length))⟩
theorem CM{P:Vo}{w:Vn}{K:Ug}{es:bx}{k:Nat}{pos:Pos}{b1 b2:Bool}{a1 a2 z TI TO i1 i2:Vj}(Ap:Apart z TI TO i1 i2 [i1,a1] [i2,a2])(n1:a1≠i1)(n2:a2≠i2)(n3:z≠i1)(n4:z≠i2):Turn P w K (.Tuple es k pos) (Pt K b1 b2 a1 a2) [z,TI,TO,i1,i2] z
  (λi h=>Wk h z TI TO .none/\Wm h TI (.ref i1) (.ref i2)/\(∃a b,Wm h TO a b)/\SI b1 h i1 a1 i/\SI b2 h i2 a2 i)where
 mem:=by simp
 obj:=λi h ⟨hz,hI,⟨a,b,hO⟩,s1,s2⟩ c hc=>by
  simp only[SY,SZ,or_false]at hc;rcases hc with rfl|rfl|rfl|rfl|rfl
  ·exact⟨_,hz,λv q=>by cases q⟩
  ·exact⟨_,hI,λv q=>by cases q⟩
  ·exact⟨_,hO,λv q=>by cases q⟩
  ·exact s1.get
  ·exact s2.get
 keep:=λi h h' ⟨hz,hI,⟨a,b,hO⟩,s1,s2⟩ kp=>⟨kp z (by simp) _ hz,kp TI (by simp) _ hI,⟨a,b,kp TO (by simp) _ hO⟩,s1.keep λo e=>kp i1 (by simp) o e,s2.keep λo e=>kp i2 (by simp) o e⟩
 item:=by
  rintro X hP hw hK hc i pins s σ H E I hf ⟨hz,hI,⟨a,b,hO⟩,s1,s2⟩ hg;subst hP hw hK;obtain⟨xs,ys,g1,g2,l1,l2⟩:=hg;obtain⟨its1,r1,q1,z1⟩:=Inv.sx I g1;obtain⟨its2,r2,q2,z2⟩:=Inv.sx I g2;have hh:X.A.in1.handled=none:=I.ok.hd hc;have hT:s.TypeIs (.ref z) "zip":=⟨_,hz,rfl⟩
  unfold pyNext;refine VF (Wq (V8 (name:=Str.ofString "__next__") hT F.slot_zip_next (V9 F.slot_zip_next hT F.entry_zip_next
   (next_item Ap (lw (A:=X.A.in1) b1 hh i1 a1 n1 its1.toArray) (lw (A:=X.A.in1) b2 hh i2 a2 n2 its2.toArray) hz hI hO ⟨s1,q1⟩ ⟨s2,q2⟩ (by rw[RE,<-r1.length];exact l1) (by rw[RE,<-r2.length];exact l2) λu v g tk p1 p2 hz' hO' t1 t2 hp sz kp=>?_) (F.args_zip_next_1 _))))
  have e1:its1[i]?=some u:=by simpa using p1
  have e2:its2[i]?=some v:=by simpa using p2
  have hx:∃x,xs[i]?=some x/\RelV x u:=by
   obtain⟨u',hu,ru⟩:=r1.get (i:=i) (x:=xs[i]) (by simp[l1]);rw[e1]at hu;cases hu;exact⟨xs[i],by simp[l1],ru⟩
  have hy:∃y,ys[i]?=some y/\RelV y v:=by
   obtain⟨u',hu,ru⟩:=r2.get (i:=i) (x:=ys[i]) (by simp[l2]);rw[e2]at hu;cases hu;exact⟨ys[i],by simp[l2],ru⟩
  obtain⟨x,ex,rx⟩:=hx;obtain⟨y,ey,ry⟩:=hy;refine VI ⟨_,rfl,?_⟩;refine wpAny_letOwnedTupleGo_zip hz' λg' hz2 sb=>?_;have hpz:s.heap.objs.size≠z:=RA (UW hz);have hp':Wm g' s.heap.objs.size u v:=sb.extBut _ _ hpz hp;have I':Inv X pins σ (upd H s.heap.objs.size (.tup [x,y])) {s with heap:=g',toks:=tk}:=Inv.turnedL (ch:=[z,TI,TO,i1,i2]) I hf (λc o hc e=>by
   simp only[SY,SZ,or_false,not_or]at hc;exact sb.extBut _ _ hc.1 (kp c o hc.1 hc.2.2.1 hc.2.2.2.1 hc.2.2.2.2 e)) (RB _) ⟨by show 2<=Vr;decide,[u,v],.cons rx (.cons ry .nil),_,hp',rfl,_,rfl⟩
  have fr:H s.heap.objs.size=none:=I.fresh;have ne:∀c∈[z,TI,TO,i1,i2],c≠s.heap.objs.size:=λc hc e=>by
   simp only[SY,SZ,or_false]at hc;rcases hc with rfl|rfl|rfl|rfl|rfl
   ·exact hpz e.symm
   ·exact absurd (UW hI) (by rw[e];exact Ro _)
   ·exact absurd (UW hO) (by rw[e];exact Ro _)
   ·obtain⟨o,q,_⟩:=s1.get;exact absurd (UW q) (by rw[e];exact Ro _)
   ·obtain⟨o,q,_⟩:=s2.get;exact absurd (UW q) (by rw[e];exact Ro _)
  refine⟨.ref s.heap.objs.size,_,I',rfl,⟨_,x,y,rfl,fr,rfl,λxs' h=>by rw[Inv.sx_inj I h g1];exact ex,λys' h=>by rw[Inv.sx_inj I h g2];exact ey⟩,⟨hz2,?_,⟨u,v,sb.extBut _ _ Ap.a2 hO'⟩,?_,?_⟩,λc hc=>by rw[aM (ne c hc)];exact(hf c hc).1⟩
  ·exact sb.extBut _ _ Ap.a1 (kp TI _ Ap.a1 Ap.a3 Ap.d1 Ap.d2 hI)
  ·exact t1.1.keep λo e=>sb.extBut _ _ n3.symm e
  ·exact t2.1.keep λo e=>sb.extBut _ _ n4.symm e
 done:=by
  rintro X hP hw hK hc i pins s σ H E I hf ⟨hz,hI,⟨a,b,hO⟩,s1,s2⟩ hg;subst hP hw hK;obtain⟨xs,ys,g1,g2,hl⟩:=hg;obtain⟨its1,r1,q1,z1⟩:=Inv.sx I g1;obtain⟨its2,r2,q2,z2⟩:=Inv.sx I g2;have hh:X.A.in1.handled=none:=I.ok.hd hc;have hT:s.TypeIs (.ref z) "zip":=⟨_,hz,rfl⟩
  unfold pyNext;refine VF (Wq (V8 (name:=Str.ofString "__next__") hT F.slot_zip_next (V9 F.slot_zip_next hT F.entry_zip_next
   (next_end (i:=i) Ap (lw (A:=X.A.in1) b1 hh i1 a1 n1 its1.toArray) (lw (A:=X.A.in1) b2 hh i2 a2 n2 its2.toArray) hz hI hO ⟨s1,q1⟩ ⟨s2,q2⟩ (by rw[RE,RE,<-r1.length,<-r2.length];exact hl) λg e tk kp he=>?_) (F.args_zip_next_1 _))))
  obtain⟨o,ho,hce⟩:=he;refine VF (wpAny_isInstance (T:="StopIteration") (b:=true) ⟨o,ho,hce⟩ isSubtype_stop ?_);refine VI ⟨rfl,Inv.turned0 (ch:=[z,TI,TO,i1,i2]) I hf λc o hc e=>?_⟩;simp only[SY,SZ,or_false,not_or]at hc;exact kp c o hc.1 hc.2.2.1 hc.2.2.2.1 hc.2.2.2.2 e
 self:=λ_ _ _ _ _ ⟨hz,_⟩ h=>wpAny_pyIter_zip hz h
noncomputable def GH:D->Option (Bool×List D)
 |.lst xs=>some (true,xs)
 |.tup xs=>some (false,xs)
 |_=>none
theorem rz{K:Ug}{H:Hp}{d:D}{b:Bool}{xs:List D}{v:V}(e:GH d=some (b,xs))(h:b9 K H d v):∃a vs,v=.ref a/\SX K b H a vs/\aB K H xs vs:=by
 cases d with
 |lst ys=>cases e;exact b8.mp h
 |tup ys=>cases e;obtain⟨a,vs,e1,e2,e3⟩:=bW.mp h;exact⟨a,vs,e1,oJ.of e2,e3⟩
 |_=>cases e
noncomputable def pH:List D->List D->List D
 |x::xs,y::ys=>.tup [x,y]::pH xs ys
 |_,_=>[]
theorem pj:∀xs ys:List D,(pH xs ys).length=min xs.length ys.length
 |[],_=>by simp[pH]
 |_::_,[]=>by simp[pH]
 |x::xs,y::ys=>by
  rw[pH,RG,pj xs ys,RG,RG];omega
theorem vG:∀{xs ys:List D}{i:Nat}{d:D},(pH xs ys)[i]?=some d->∃x y,xs[i]?=some x/\ys[i]?=some y/\d=.tup [x,y]
 |[],_,i,d,h=>by simp[pH]at h
 |_::_,[],i,d,h=>by simp[pH]at h
 |x::xs,y::ys,0,d,h=>by
  rw[pH,S0]at h;cases h;exact⟨x,y,rfl,rfl,rfl⟩
 |x::xs,y::ys,i+1,d,h=>by
  rw[pH,S3]at h;obtain⟨a,b,h1,h2,h3⟩:=vG h;exact⟨a,b,by rw[S3];exact h1,by rw[S3];exact h2,h3⟩
theorem Ci{K:Ug}{Hd:Hp}{b1 b2:Bool}{a1 a2:Vj}{ds es:List D}{vs ws:aF}(h1:SX K b1 Hd a1 vs)(g1:aB K Hd ds vs)(h2:SX K b2 Hd a2 ws)(g2:aB K Hd es ws):Walk K Hd (Pt K b1 b2 a1 a2) (pH ds es):=λHn O' i hO sm=>
  have s':bj Hd Hn:=sm.trans (au Hn O')
  ⟨fun d e=>by
    obtain⟨x,y,e1,e2,rfl⟩:=vG e;have l1:i<ds.length:=(List.getElem?_eq_some_iff.mp e1).1;have l2:i<es.length:=(List.getElem?_eq_some_iff.mp e2).1;obtain⟨v,ev,dv⟩:=g1.get e1;obtain⟨w,ew,dw⟩:=g2.get e2;refine⟨⟨vs,ws,h1.same s',h2.same s',by rw[<-g1.length];exact l1,by rw[<-g2.length];exact l2⟩,λu H2 ⟨p,x',y',eu,hp,eH,q1,q2⟩=>?_⟩;have z1:=q1 vs (h1.same s');rw[ev]at z1;cases z1;have z2:=q2 ws (h2.same s');rw[ew]at z2;cases z2;subst eH eu;exact⟨bQ hp _,eO hO hp (aK.mpr ⟨v,_,rfl,dv.mono sm,aK.mpr ⟨w,_,rfl,dw.mono sm,cf.mpr rfl⟩⟩)⟩,
   λhl=>by
    rw[pj]at hl;refine⟨vs,ws,h1.same s',h2.same s',?_⟩;rw[<-g1.length,<-g2.length]
    omega⟩
noncomputable def CL:List D->Option (List D)
 |[a,b]=>(GH a).bind λx=>(GH b).bind λy=>some (pH x.2 y.2)
 |_=>none
noncomputable def EX(f:aW):aW:=λρ=>(f ρ).bind λds=>rO (CL ds)
section
variable{X:Cx}
theorem IQ{a b c:Vj}(h1:a≠b)(h2:a≠c):a∉[b,c]:=λh=>by
 rcases List.mem_cons.mp h with z|z
 ·exact h1 z
 ·exact h2 (List.mem_singleton.mp z)
theorem Ay{n a1 a2:Vj}(h1:a1<n)(h2:a2<n):Apart (n+4) (n+2) (n+3) n (n+1) [n,a1] [n+1,a2]:=by
 have lt:∀{a b:Nat},a<b->(b:Vj)≠(a:Vj):=λh=>RA h;have lt':∀{a b:Nat},a<b->(a:Vj)≠(b:Vj):=λh=>Rp h;have g:∀k:Nat,a1<n+k:=λk=>Rm h1 (S4 _ _);have g':∀k:Nat,a2<n+k:=λk=>Rm h2 (S4 _ _);have p:∀{j k:Nat},j<k->n+j<n+k:=λh=>S5 h n;have p0:∀{k:Nat},0<k->n<n+k:=λh=>S6 h;exact⟨lt' (p (by decide)),lt' (p (by decide)),lt' (p (by decide)),IQ (lt (p0 (by decide))) (lt (g 4)),IQ (lt (p0 (by decide))) (lt (g 3)),IQ (lt (p0 (by decide))) (lt (g 1)),
  IQ (lt (p (by decide))) (lt (g' 4)),IQ (lt (p (by decide))) (lt (g' 3)),IQ (lt' (p0 (by decide))) (lt h2),lt (p0 (by decide)),lt (p (by decide)),Ru,Ru⟩
theorem Iz{pins:bh}{s:Vm}{σ:St}{H:Hp}{O:aA}{es:bx}{k:Nat}{tpos:Pos}{ds r:List D}{vs:aF}{us:bc}{RR:It->Hp->Prop}(I:Inv X pins σ H s)(hc:CL ds=some r)(d1:aB X.K (hid H O) ds vs)(rv:Vals vs us)(q:∀J,Walk X.K (hid H O) J r->RR J H):
  Vx (model X.prog X.w) X.A (call (.type "zip") us) (λv s1=>Vx (model X.prog X.w) X.A (pyIter v) (PIE X pins σ (.Tuple es k tpos) RR) X.xe s1) X.xe s:=by
 unfold CL at hc;split at hc
 ·rename_i a b;obtain⟨⟨b1,xs⟩,e1,hc⟩:=bind_some hc;obtain⟨⟨b2,ys⟩,e2,hc⟩:=bind_some hc;cases hc;obtain⟨va,vb,rfl,da,db⟩:=d1.two;obtain⟨u1,u2,rfl,r1,r2⟩:=vals2 rv;obtain⟨a1,ws1,rfl,x1,y1⟩:=rz e1 da;obtain⟨a2,ws2,rfl,x2,y2⟩:=rz e2 db;cases r1;cases r2;obtain⟨its1,rr1,q1,_⟩:=Inv.sx I (x1.same (au H O));obtain⟨its2,rr2,q2,_⟩:=Inv.sx I (x2.same (au H O));refine Bn q1 q2 λg hz hI hO s1 s2 kp=>wpAny_pyIter_zip hz ?_;have Ap:=Ay q1.lt q2.lt;refine⟨_,_,_,_,H,rfl,I.kept (t':=s.toks) kp,CM (b1:=b1) (b2:=b2) Ap (Rp q1.lt) (Rp (Rm q2.lt (S4 _ 1))) (RA (S6 (by decide))) (RA (S5 (by decide) _)),⟨hz,hI,⟨_,_,hO⟩,s1,s2⟩,λb hb=>?_,q _ (Ci x1 y1 x2 y2)⟩;have le:s.heap.objs.size<=b:=by
   simp only[SY,SZ,or_false]at hb;rcases hb with rfl|rfl|rfl|rfl|rfl
   ·exact S4 _ _
   ·exact S4 _ _
   ·exact S4 _ _
   ·exact RB _
   ·exact S4 _ _
  exact I.fpOk le (I.hok.fresh le)
 ·cases hc
end
noncomputable def PJ(K:Ug)(b:Bool)(a:Vj):It:=
  ⟨fun i H=>∃ xs,SX K b H a xs/\i < xs.length,
   λi H v H'=>∃p x,v=.ref p/\H p=none/\H'=upd H p (.tup [.int i,x])/\∀xs,SX K b H a xs->xs[i]?=some x,
   λi H=>∃xs,SX K b H a xs/\i=xs.length⟩
theorem zP{P:Vo}{w:Vn}{K:Ug}{es:bx}{k:Nat}{pos:Pos}{b:Bool}{a e it:Vj}(n1:a≠it)(n2:e≠it)(n3:e≠a):Turn P w K (.Tuple es k pos) (PJ K b a) [e,it] e (λi h=>(∃old,IsEnum h e it i old)/\SI b h it a i)where
 mem:=by simp
 obj:=λi h ⟨⟨old,he⟩,s1⟩ c hc=>by
  simp only[SY,SZ,or_false]at hc;rcases hc with rfl|rfl
  ·exact⟨_,he,λv q=>by cases q⟩
  ·exact s1.get
 keep:=λi h h' ⟨⟨old,he⟩,s1⟩ kp=>⟨⟨old,kp e (by simp) _ he⟩,s1.keep λo q=>kp it (by simp) o q⟩
 item:=by
  rintro X hP hw hK hc i pins s σ H E I hf ⟨⟨old,he⟩,s1⟩ hg;subst hP hw hK;obtain⟨xs,g1,l1⟩:=hg;obtain⟨its,r1,q1,z1⟩:=Inv.sx I g1;have hh:X.A.in1.handled=none:=I.ok.hd hc;refine wpAny_pyNext_enum_itemD (lw (A:=X.A.in1) b hh it a n1 its.toArray) he ⟨s1,q1⟩ (by rw[RE,<-r1.length];exact l1) n2 (IQ n2 n3) λu g tk p1 ho t1 hp sz kp=>?_;have e1:its[i]?=some u:=by simpa using p1
  obtain⟨u',hu,ru⟩:=r1.get (i:=i) (x:=xs[i]) (by simp[l1]);rw[e1]at hu;cases hu;refine⟨_,rfl,wpAny_letOwnedTupleGo_enum ho λg' he' sb=>?_⟩;have hpe:s.heap.objs.size≠e:=RA (UW he);have hp':=sb.extBut _ _ hpe hp;have I':Inv X pins σ (upd H s.heap.objs.size (.tup [.int i,xs[i]])) {s with heap:=g',toks:=tk+1}:=Inv.turnedL (ch:=[e,it]) I hf (λc o hc q=>by
   simp only[SY,SZ,or_false,not_or]at hc;exact sb.extBut _ _ hc.1 (kp c o hc.1 hc.2 q)) (RB _) ⟨by show 2<=Vr;decide,[.int i tk,u],.cons ⟨_,rfl⟩ (.cons ru .nil),_,hp',rfl,_,rfl⟩
  have ne:∀c∈[e,it],c≠s.heap.objs.size:=λc hc q=>by
   simp only[SY,SZ,or_false]at hc;rcases hc with rfl|rfl
   ·exact hpe q.symm
   ·obtain⟨o,q',_⟩:=s1.get;exact absurd (UW q') (by rw[q];exact Ro _)
  refine⟨.ref s.heap.objs.size,_,I',rfl,⟨_,xs[i],rfl,I.fresh,rfl,λxs' h=>by rw[Inv.sx_inj I h g1];simp[l1]⟩,⟨⟨u,?_⟩,t1.1.keep λo q=>sb.extBut _ _ n2.symm q⟩,λc hc=>by rw[aM (ne c hc)];exact(hf c hc).1⟩;have ei:((i+1:Nat):Int)=(i:Int)+1:=by omega
  rw[ei];exact he'
 done:=by
  rintro X hP hw hK hc i pins s σ H E I hf ⟨⟨old,he⟩,s1⟩ hg;subst hP hw hK;obtain⟨xs,g1,l1⟩:=hg;obtain⟨its,r1,q1,z1⟩:=Inv.sx I g1;have hh:X.A.in1.handled=none:=I.ok.hd hc;have el:i=its.toArray.size:=by rw[RE,<-r1.length];exact l1
  refine wpAny_pyNext_enum_endD (lw (A:=X.A.in1) b hh it a n1 its.toArray) he ⟨by rw[<-el];exact s1,q1⟩ λg kp=>⟨rfl,Inv.turned0 (ch:=[e,it]) I hf λc o hc q=>?_⟩
  simp only[SY,SZ,or_false,not_or]at hc;exact kp c o hc.2 q
 self:=λ_ _ _ _ _ ⟨⟨old,he⟩,_⟩ h=>wpAny_pyIter_enum he h
noncomputable def fu(i:Nat):List D->List D
 |[]=>[]
 |x::xs=>.tup [.int i,x]::fu (i+1) xs
theorem gM:∀(i:Nat)(xs:List D),(fu i xs).length=xs.length
 |_,[]=>rfl
 |i,x::xs=>by rw[fu,RG,gM (i+1) xs,RG]
theorem tE:∀{xs:List D}{k i:Nat}{d:D},(fu k xs)[i]?=some d->∃x,xs[i]?=some x/\d=.tup [.int ((k+i:Nat):Int),x]
 |[],k,i,d,h=>by simp[fu]at h
 |x::xs,k,0,d,h=>by
  rw[fu,S0]at h;cases h;exact⟨x,rfl,rfl⟩
 |x::xs,k,i+1,d,h=>by
  rw[fu,S3]at h;obtain⟨y,h1,h2⟩:=tE h;refine⟨y,by rw[S3];exact h1,?_⟩;rw[h2];congr 4;omega
theorem zI{K:Ug}{Hd:Hp}{b:Bool}{a:Vj}{ds:List D}{vs:aF}(h1:SX K b Hd a vs)(g1:aB K Hd ds vs):Walk K Hd (PJ K b a) (fu 0 ds):=λHn O' i hO sm=>
  have s':bj Hd Hn:=sm.trans (au Hn O')
  ⟨fun d e=>by
    obtain⟨x,e1,rfl⟩:=tE e;have l1:i<ds.length:=(List.getElem?_eq_some_iff.mp e1).1;obtain⟨v,ev,dv⟩:=g1.get e1;refine⟨⟨vs,h1.same s',by rw[<-g1.length];exact l1⟩,λu H2 ⟨p,x',eu,hp,eH,q1⟩=>?_⟩;have z1:=q1 vs (h1.same s');rw[ev]at z1;cases z1;subst eH eu;rw[S7];exact⟨bQ hp _,eO hO hp (aK.mpr ⟨.int i,_,rfl,eS.mpr rfl,aK.mpr ⟨v,_,rfl,dv.mono sm,cf.mpr rfl⟩⟩)⟩,
   λhl=>by
    rw[gM]at hl;exact⟨vs,h1.same s',by rw[<-g1.length];exact hl⟩⟩
noncomputable def qz:List D->Option (List D)
 |[a]=>(GH a).bind λx=>some (fu 0 x.2)
 |_=>none
noncomputable def eK(f:aW):aW:=λρ=>(f ρ).bind λds=>rO (qz ds)
section
variable{X:Cx}
theorem zE{prog:Vo}{w:Vn}{A:Vu}{E:bT}{s:Vm}{b:Bool}{l:Vj}{xs:Array Vh}{Q:bT}(h1:SQ b s.heap l xs)
  (h:∀g,IsEnum g (s.heap.objs.size+1) s.heap.objs.size 0 .none->SI b g s.heap.objs.size l 0->(∀c o,s.heap.get? c=some o->g.get? c=some o)->Q (.ref (s.heap.objs.size+1)) {s with heap:=g}):Vx (model prog w) A (call (.type "enumerate") [.ref l]) Q E s:=by
 refine callType_new F.called_enumerate (by decide) (F.typeCall_enumerate_1 _) (F.newCall_enumerate_1 _) (λobj=>F.args_object_init_2 obj _) F.entry_enumerate_new (zS b l xs) ⟨h1,?_⟩;have z1:(AJ b s.heap l).objs.size=s.heap.objs.size+1:=U0 ..
 have g2:=UZ (AJ b s.heap l) (o:={cls:=.type "enumerate",data:=.fields #[.none,.bool false,.ref s.heap.objs.size,rawInt 0,.none,.none]}) rfl;have g1:SI b ((AJ b s.heap l).push {cls:=.type "enumerate",data:=.fields #[.none,.bool false,.ref s.heap.objs.size,rawInt 0,.none,.none]}) s.heap.objs.size l 0:=SI.keep SI.new λo e=>UY _ e;show _/\_;rw[z1]at g2 ⊢;exact⟨⟨_,g2,rfl⟩,h _ g2 g1 λc o e=>UY _ (UY _ e)⟩
theorem GL{pins:bh}{s:Vm}{σ:St}{H:Hp}{O:aA}{es:bx}{k:Nat}{tpos:Pos}{ds r:List D}{vs:aF}{us:bc}{RR:It->Hp->Prop}(I:Inv X pins σ H s)(hc:qz ds=some r)(d1:aB X.K (hid H O) ds vs)(rv:Vals vs us)(q:∀J,Walk X.K (hid H O) J r->RR J H):
  Vx (model X.prog X.w) X.A (call (.type "enumerate") us) (λv s1=>Vx (model X.prog X.w) X.A (pyIter v) (PIE X pins σ (.Tuple es k tpos) RR) X.xe s1) X.xe s:=by
 unfold qz at hc;split at hc
 ·rename_i a;obtain⟨⟨b1,xs⟩,e1,hc⟩:=bind_some hc;cases hc;obtain⟨va,rfl,da⟩:=d1.one;obtain⟨u1,rfl,r1⟩:=vals1 rv;obtain⟨a1,ws1,rfl,x1,y1⟩:=rz e1 da;cases r1;obtain⟨its1,rr1,q1,_⟩:=Inv.sx I (x1.same (au H O));refine zE q1 λg he s1 kp=>wpAny_pyIter_enum he ?_;refine⟨_,_,_,_,H,rfl,I.kept (t':=s.toks) kp,zP (b:=b1) (Rp q1.lt) (RA (S6 (by decide))) (RA (Rm q1.lt (S4 _ 1))),⟨⟨_,he⟩,s1⟩,λb hb=>?_,q _ (zI x1 y1)⟩;have le:s.heap.objs.size<=b:=by
   simp only[SY,SZ,or_false]at hb;rcases hb with rfl|rfl
   ·exact S4 _ _
   ·exact RB _
  exact I.fpOk le (I.hok.fresh le)
 ·cases hc
end
end TG
namespace TG
open PySem PySem.Spec L2
variable[aw]
theorem aj{K:Ug}{c:Str}{C C':Vj}(h:clsAt K c C)(h':clsAt K c C'):C=C':=by
 unfold clsAt at h h';rw[h]at h';cases h';rfl
theorem qw{K:Ug}{H:Hp}{f:Str}:∀{fs:av}{ds:List D}{vs:aF}{d:D},aB K H ds vs->(fs.zip ds).lookup f=some d->∃v,(fs.zip vs).lookup f=some v/\b9 K H d v
 |[],_,_,_,_,e=>by simp at e
 |_::_,[],_,_,_,e=>by simp at e
 |g::fs,x::ds,vs,d,h,e=>by
  rw[aK]at h;obtain⟨v,r,rfl,h1,h2⟩:=h;rw[S8,Sf]at e ⊢;cases hg:f==g with
  |true=>rw[hg]at e;cases e;exact⟨v,rfl,h1⟩
  |false=>rw[hg]at e;exact qw h2 e
theorem tV{f:Str}:∀{fs:av}{vs:aF},fs.contains f=false->(fs.zip vs).lookup f=none
 |[],_,_=>by simp
 |_::_,[],_=>by simp
 |g::fs,x::vs,h=>by
  rw[S9,Tb]at h;rw[S8,Sf,h.1];exact tV h.2
noncomputable def aC(f:Str)(cs:av)(d:D):bu:=match d with
 |.obj c fs vs=>if cs.contains c then(fs.zip vs).lookup f else none
 |_=>none
noncomputable def cF(K:Ug)(f:Str)(cs:av):Prop:=∀c∈cs,∀C,clsAt K c C->mG K C/\fD K C f
section
variable{X:Cx}{a o e:Vk}{es:bx}{fa fo:FX}{fas:aW}{f m x:Str}{cs:av}{pos apos p:Pos}{k k':Nat}{ps:av}
noncomputable def MethAt(P:Vo)(w:Vn)(K:Ug)(mg:cN)(base:Vq)(k:Nat)(c m:Str)(ps:av)(g:bE):Prop:=
 ∃C f fd,clsAt K c C/\mG K C/\Meth K C m f/\ig P w K mg base (nK P w) k f fd ps (yN K ps.length g)/\Binds K fd ps []
noncomputable def bH(m:Str)(tbl:List (Str×(bE)))(fo:FX)(fas:aW):FX:=λρ=>(fo ρ).bind λo=>match o with
 |.obj c fs vs=>match tbl.lookup c with
  |some g=>if fs.contains m then un else(fas ρ).bind λas=>g (o::as)
  |none=>un
 |_=>un
noncomputable def qX(P:Vo)(w:Vn)(K:Ug)(mg:cN)(base:Vq)(k:Nat)(m:Str)(ps:av)(tbl:List (Str×(bE))):Prop:=
 ∀c g,tbl.lookup c=some g->MethAt P w K mg base k c m ps g/\Ar ps.length g
theorem Ef{P:Vo}{w:Vn}{K:Ug}{mg:cN}{base:Vq}:qX P w K mg base k m ps []:=λ_ _ h=>nomatch h
theorem Dq{P:Vo}{w:Vn}{K:Ug}{mg:cN}{base:Vq}{c:Str}{g:bE}{tbl:List (Str×(bE))}(h:MethAt P w K mg base k c m ps g)(hn:Ar ps.length g)(t:qX P w K mg base k m ps tbl):qX P w K mg base k m ps ((c,g)::tbl):=λc' g' e=>by
 rw[Sf]at e;cases hc:c'==c with
 |true=>
  rw[hc]at e;cases e
  have:c'=c:=by simpa using hc
  subst this;exact⟨h,hn⟩
 |false=>rw[hc]at e;exact t c' g' e
theorem MethAt.mono{P:Vo}{w:Vn}{K:Ug}{mg:cN}{base:Vq}{c:Str}{g:bE}(h:MethAt P w K mg base k c m ps g)(hk:k<=k'):MethAt P w K mg base k' c m ps g:=by
 obtain⟨C,f,fd,h1,h2,h3,h4,h5⟩:=h;exact⟨C,f,fd,h1,h2,h3,h4.mono hk,h5⟩
theorem uV{tbl:List (Str×(bE))}{args:bx}{pl:Sem Bool}(tb:qX X.prog X.w X.K X.mg X.base k m ps tbl)(hr:gD k X.A)(ho:FE X o fo)
  (hc:∀ (pins:bh) (s1:Vm) (σ:St) (H1:Hp) (O:aA) (ρ:ak) (a f:Vj) (od:D) (Q:VK) (g:bE) (fd:VY) (w0:V),UB X.K (.ref f)=true->ig X.prog X.w X.K X.mg X.base (nK X.prog X.w) k f fd ps (yN X.K ps.length g)->Binds X.K fd ps []->Ar ps.length g->Inv X pins σ H1 s1->cY X.K O H1 ρ σ->b9 X.K (hid H1 O) od (.ref a) ->
   (dX X σ O H1 ((fas ρ).bind λas=>g (od::as)) λd=>∀v H',bj H1 H'->b9 X.K (hid H' O) d v->Q v H')->
   Vx (model X.prog X.w) X.A (VU pos (.ref f) [.ref a] (backTo pos (Vy args X.env)) (backToKw pos (VW [] X.env))) (EP X pins σ Q) X.xe s1)
  (ht:eval (.Call (.Attribute o m apos) args [] pos) X.env=(do
   let ov<-eval o X.env
   standAt apos.atName
   let (f,first)<-holding [ov] (getMethod ov m pl)
   VU pos f first (backTo pos (Vy args X.env)) (backToKw pos (VW [] X.env)))):
  FE X (.Call (.Attribute o m apos) args [] pos) (bH m tbl fo fas):=by
 rintro pins s σ H Q I ⟨O,ρ,E,hF⟩;refine vC ho I ?_ ht;refine⟨O,ρ,E,(dX.bind hF).imp λd hF v H1 s1 d1=>?_⟩;cases d with
 |obj c fs vs=>
  have hF':dX X σ O H (match tbl.lookup c with|some g=>if fs.contains m then un else(fas ρ).bind λas=>g (.obj c fs vs::as)|none=>un) _:=hF;cases hg:tbl.lookup c with
  |none=>rw[hg]at hF';exact hF'.elim
  |some g=>
   rw[hg]at hF';have hF2:dX X σ O H (if fs.contains m then un else(fas ρ).bind λas=>g (.obj c fs vs::as)) _:=hF';cases hm:fs.contains m with
   |true=>rw[hm]at hF2;exact hF2.elim
   |false=>
    rw[hm]at hF2;have hF3:dX X σ O H ((fas ρ).bind λas=>g (.obj c fs vs::as)) _:=hF2;have d0:=d1;obtain⟨a,ws,ev,g1,g2,C,dx,g3,g4⟩:=FQ.mp d1;obtain⟨⟨C',f,fd,m1,m2,m3,m4,m5⟩,ar⟩:=tb c g hg;have eC:=aj g3 m1;subst eC;subst ev;refine⟨a,C,dx,_,f,rfl,au H1 O _ _ g4,m2,m3,tV hm,λs2 I2=>?_⟩;exact hc pins s2 σ H1 O ρ a f _ Q g fd (.ref a) m3.kp m4 m5 ar I2 (E.same s1) d0 ((hF3.mono s1).imp λd q v H2 s2 d2=>q v H2 (s1.trans s2) d2)
 |_=>exact hF.elim
theorem qB{σ:St}{O:aA}{H:Hp}{g:bE}{ds:List D}{vs:aF}{Q:VK}{n:Nat}(ar:Ar n g)(hO:dz H O)(d1:aB X.K (hid H O) ds vs)(h:dX X σ O H (g ds) λd=>∀v H',bj H H'->b9 X.K (hid H' O) d v->Q v H'):∃E,kD (nK X.prog X.w) X σ E/\yN X.K n g vs H Q E:=by
 cases hg:g ds with
 |ok d=>
  rw[hg]at h;refine⟨E0,xV,O,ds,by rw[<-d1.length];exact ar ds (by rw[hg];intro z;cases z),hO,d1,?_⟩;rw[hg];exact h
 |error z=>
  rw[hg]at h;cases z with
  |none=>exact h.elim
  |some x=>
   refine⟨yB X O H x,yE h,O,ds,by rw[<-d1.length];exact ar ds (by rw[hg];intro z;cases z),hO,d1,?_⟩;rw[hg];exact ve
theorem Ab{P:Vo}{w:Vn}{K:Ug}{mg:cN}{base:Vq}{c y qual:Str}{C f:Vj}{fd:VY}{st:Vl}{N:av}{B:bN}(h1:clsAt K c C)(h2:mG K C)(h3:Meth K C m f)(F:t6 K y qual st f fd)(b:Binds K fd ps [])(SC:cR N ps (aG st))(hb:BodyOk P w K mg base k N qual st f B):
  MethAt P w K mg base (k+1) c m ps (ai B ps.length N.length):=⟨C,f,fd,h1,h2,h3,uh F SC hb,b⟩
noncomputable def Qk(C:Vj)(fs:av):Sp:=λvs H Q _=>∃x dx as,vs=.ref x::as/\as.length=fs.length/\H x=some (.ins C dx [])/\Q .non (upd H x (.ins C dx (fs.zip as)))
noncomputable def gB(P:Vo)(w:Vn)(K:Ug)(mg:cN)(base:Vq)(k:Nat)(c:Str)(ps fs:av):Prop:=
 ∃C f fd,clsAt K c C/\Mk K C f/\ig P w K mg base (nK P w) k f fd ps (Qk C fs)/\Binds K fd ps []/\mg c=some (.ref C)
noncomputable def fNew(c:Str)(fs:av)(fas:aW):FX:=λρ=>(fas ρ).bind λas=>if as.length=fs.length then .ok (.obj c fs as)else un
theorem o7{K:Ug}{H1:Hp}{O:aA}{c:Str}{fs:av}{as:List D}{vs:aF}{C x dx:Vj}(hc:clsAt K c C)(hl:as.length=fs.length)(d1:aB K (hid H1 O) as vs)(hO:dz H1 O)(hx:H1 x=none)(hd:H1 dx=none)(ne:dx≠x):
  bj H1 (upd (upd (upd H1 dx (.own x)) x (.ins C dx [])) x (.ins C dx (fs.zip vs)))/\b9 K (hid (upd (upd (upd H1 dx (.own x)) x (.ins C dx [])) x (.ins C dx (fs.zip vs))) O) (.obj c fs as) (.ref x):=by
 have sm:bj H1 (upd (upd (upd H1 dx (.own x)) x (.ins C dx [])) x (.ins C dx (fs.zip vs))):=λb o h=>by
  have n1:=aY h hx;have n2:=aY h hd;rw[aM n1,aM n1,aM n2];exact h
 exact⟨sm,FQ.mpr ⟨x,vs,rfl,d1.mono (bC sm),by rw[<-d1.length,hl],C,dx,hc,by rw[dH (hO.not hx),aH]⟩⟩
theorem Mg{X:Cx}:wX (nK X.prog X.w) X E0:=λ_ _ _ _ _ _ _ h=>by
 obtain⟨_,_,_,_,_,_,_,_,_,_,_,_,_,_,z⟩:=h;exact z.elim
theorem qT(f:Str)(v:V):∀{fs:List (Str×V)},(fs.map (·.1)).contains f=false->jS f v fs=fs++[(f,v)]
 |[],_=>rfl
 |(g,w)::fs,h=>by
  rw[RH,S9,Tb]at h;have ne:¬g=f:=λz=>by
   have:=h.1
   rw[z]at this;simp at this
  have:=qT f v (fs:=fs) h.2
  unfold jS;simp only[ne,if_false,this,Sl]
noncomputable def ye(X:Cx)(cs:av)(body:dZ)(fs:av)(i:Nat):Prop:=
 ∃t,vW X body t/\∀(D:Ends)(σ:St)(H:Hp)(x dx C:Vj)(done:List (Str×V))(as:aF),σ[0]?=some (some (.ref x))->(∀j v,as[j]?=some v->σ[i+j]?=some (some v))->as.length=fs.length->mG X.K C->(∀f∈fs,fD X.K C f)->done.length+fs.length<1000->(done.map (·.1)++fs).Nodup->H x=some (.ins C dx done)->
  D.nx σ (upd H x (.ins C dx (done++fs.zip as)))->t D σ H
theorem iR{st:Vl}{f:Str}{i:Nat}{o v:Vk}{p1 p2:Pos}(hst:st=.Assign [.Attribute o f p1] v p2)(ho:PE X o (ua 0))(hv:PE X v (ua i))(hs:swapsWith v (some (.Attribute o f p1)) p2.line X.env=pure false):ye X cs [st] [f] i:=by
 subst hst;refine⟨_,xN (C8 ho hv hs),λD σ H x dx C done as h0 ha hl cl na hz nd hx q=>?_⟩;obtain⟨a,rfl⟩:∃a,as=[a]:=by
  match as,hl with
  |[a],_=>exact⟨a,rfl⟩
 refine⟨a,ha 0 a rfl,.ref x,h0,x,C,dx,done,rfl,hx,cl,na f (List.mem_singleton.mpr rfl),by simp at hz;omega,?_⟩;rw[qT f a (by
  have:=nd
  rw[Tc]at this;have h3:=this.2.2;cases hc:(done.map (·.1)).contains f with
  |false=>rfl
  |true=>exact absurd rfl (h3 f (List.contains_iff_mem.mp hc) f (List.mem_singleton.mpr rfl)))]
 exact q
theorem gZ{st:Vl}{rest:dZ}{f:Str}{fs:av}{i:Nat}{o v:Vk}{p1 p2:Pos}(hst:st=.Assign [.Attribute o f p1] v p2)(ho:PE X o (ua 0))(hv:PE X v (ua i))(hs:swapsWith v (some (.Attribute o f p1)) p2.line X.env=pure false)(hr:ye X cs rest fs (i+1)):ye X cs (st::rest) (f::fs) i:=by
 subst hst;obtain⟨t,ht,hq⟩:=hr;refine⟨_,uW (C8 ho hv hs) ht,λD σ H x dx C done as h0 ha hl cl na hz nd hx q=>?_⟩;obtain⟨a,as,rfl⟩:∃a r,as=a::r:=by
  match as,hl with
  |a::r,_=>exact⟨a,r,rfl⟩
 have hno:(done.map (·.1)).contains f=false:=by
  have:=nd
  rw[Tc]at this;have h3:=this.2.2;cases hc:(done.map (·.1)).contains f with
  |false=>rfl
  |true=>exact absurd rfl (h3 f (List.contains_iff_mem.mp hc) f Ru)
 refine⟨a,ha 0 a rfl,.ref x,h0,x,C,dx,done,rfl,hx,cl,na f Ru,by simp at hz;omega,?_⟩;rw[qT f a hno];refine hq D σ _ x dx C (done++[(f,a)]) as h0 (λj v e=>?_) (by simpa using hl) cl (λg hg=>na g (Rv _ hg)) (by simp at hz ⊢;omega) (by simpa [SV]using nd) (by rw[aH]) ?_
 ·have:=ha (j+1) v (by simpa using e)
  rw[show i+1+j=i+(j+1)by omega];exact this
 ·rw[yv,SV];exact q
theorem jc{P:Vo}{w:Vn}{K:Ug}{mg:cN}{base:Vq}{c qual:Str}{C f:Vj}{fd:VY}{st:Vl}{fs:av}(h1:clsAt K c C)(hM:Mk K C f)(cl:mG K C)(na:∀g∈fs,fD K C g)(F:t6 K "__init__" qual st f fd)(b:Binds K fd ps [])(hmg:mg c=some (.ref C))(SC:cR ps ps (aG st))(hps:ps.length=fs.length+1)(hnd:fs.Nodup)(hlen:fs.length<1000)
  (hb:∀(cdv:Vh)(A:Vu)(outer:List Env)(s:Vm)(H:Hp)(E:XK),ye (jZ ME P w K mg base ps qual (aG st) f cdv A outer s H E).nox [] (eB st) fs 1):gB P w K mg base (k+1) c ps fs:=by
 refine⟨C,f,fd,h1,hM,?_,b,hmg⟩;refine ig.any (F.ok SC (λvs H Q E h=>?_) λcdv A outer s H vs Q E hr h=>?_)
 ·obtain⟨x,dx,as,rfl,hl,_⟩:=h;rw[RG,hl,hps]
 ·obtain⟨t,ht,hq⟩:=hb cdv A outer s H E;obtain⟨x,dx,as,rfl,hl,hx,q⟩:=h;have hst:L2.start ps (.ref x::as)=(.ref x::as).map some:=by
   unfold L2.start;rw[RG,hl,hps,Td,Te,RN]
  refine⟨t,ht,hq _ _ H x dx C [] as (by rw[hst];rfl) (λj v e=>?_) hl cl na (by simpa using hlen) (by simpa using hnd) hx q⟩;rw[hst,Nat.add_comm,RH,S3,RX,e];rfl
end
end TG
namespace TG
open PySem PySem.Spec L2
variable[aw]
section
variable{X:Cx}
noncomputable def G6:List D->Option (av)
 |[]=>some []
 |.str x::r=>(G6 r).bind λys=>some (x::ys)
 |_=>none
noncomputable def Qh:D->Option Str
 |.str z=>some z
 |_=>none
noncomputable def Pm(z:Str)(as:List D):bu:=match as with
 |[.lst xs]=>(G6 xs).bind λys=>if small ((ys.map (λy=>y.length)).sum+ys.length*z.length)then some (.str (Txt.join z ys))else none
 |_=>none
noncomputable def Oj(a b:D):bu:=match a,b with
 |.bl c,.bl d=>some (.bl (c==d))
 |_,_=>none
noncomputable def E9(a b:D):bu:=match a,b with
 |.bl c,.bl d=>some (.bl (!(c==d)))
 |_,_=>none
end
structure Py(K:Ug)(C:Vj):Prop where
 makes:Ut K C=true
 init:Uk K (.ref C) "__init__"=some (some (.builtin "object.__init__"))
 kp:UB K (.ref C)=true
section
variable{X:Cx}{C:Vj}{pins:bh}{σ:St}{H:Hp}{s:Vm}{Q:VK}
theorem run_plain(M:Py X.K C)(I:Inv X pins σ H s)(h:∀x dx,H x=none->H dx=none->dx≠x->Q (.ref x) (upd (upd H dx (.own x)) x (.ins C dx []))):
  Vx (model X.prog X.w) X.A (call (.ref C) []) (EP X pins σ Q) X.xe s:=by
 have hq:=h (s.heap.objs.size+1) s.heap.objs.size (I.hok.fresh (RO _)) (I.hok.fresh (RB _)) (Rp (RL _));have I2:=Inv.made (C:=C) I;have e1:((s.heap.push Uw).push (Ud C s.heap.objs.size)).get? (s.heap.objs.size+1)=some (Ud C s.heap.objs.size):=by
  have:=UZ (s.heap.push Uw) (o:=Ud C s.heap.objs.size) rfl
  rwa [U0]at this
 have hb:∀self,UA (model X.prog X.w) s.heap (bindSpecial (.builtin "object.__init__") self) (.builtin "object.__init__",[self]):=λself=>PySem.W.Looks.of_pure (PySem.W.oi_bind self);refine V0 (zF I.kIn M.makes M.init hb ?_);have h3:UA (model X.prog X.w) ((s.heap.push Uw).push (Ud C s.heap.objs.size)) (isInstance (.ref (s.heap.objs.size+1)) (.type "object")) true:=by
  have h4:UA (model X.prog X.w) ((s.heap.push Uw).push (Ud C s.heap.objs.size)) (typeOf (.ref (s.heap.objs.size+1))) (.ref C):=PySem.W.Looks.andThen (PySem.W.Looks.ld e1) PySem.W.Looks.now;exact PySem.W.Looks.andThen h4 (((Uy I.kIn M.makes).top).keeps λb o q=>UY _ (UY _ q))
 refine codeAny_call_builtin (b:=Builtin.«object.__init__») PySem.W.oi_plain PySem.W.entry_oi ?_;have ha:argsOk "object.__init__" {pos:=[Value.ref (s.heap.objs.size+1)],kw:=[]}:=PySem.W.oi_args _;refine PySem.W.check_slot (i:="object.__init__") (owner:="object") (n:="__init__") (self:=Value.ref (s.heap.objs.size+1)) (rest:=[]) (kw:=[]) PySem.W.oi_kind PySem.W.oi_split h3 ha ?_;rw[PySem.W.oi_run];exact VI ⟨rfl,V.ref (s.heap.objs.size+1),_,I2,rfl,hq⟩
noncomputable def DZ(K:Ug)(mg:cN)(c:Str):Prop:=∃C,clsAt K c C/\Py K C/\mg c=some (.ref C)
noncomputable def anyB:List D->Option Bool
 |[]=>some false
 |.bl b::r=>(anyB r).bind λc=>some (b||c)
 |_=>none
noncomputable def FU:List D->bu
 |[.lst xs]=>(anyB xs).bind λb=>some (.bl b)
 |_=>none
theorem vq:∀{xs:List D}{b:Bool},anyB xs=some b->∃bs:List Bool,xs=bs.map .bl/\b=bs.any id
 |[],b,h=>by cases h;exact⟨[],rfl,rfl⟩
 |d::r,b,h=>by
  cases d with
  |bl x=>
   obtain⟨c,e1,e2⟩:=bind_some (show((anyB r).bind λc=>some (x||c))=some b from h);cases e2;obtain⟨bs,e3,e4⟩:=vq e1;exact⟨x::bs,by rw[RH,e3],by rw[R9,e4];rfl⟩
  |_=>cases h
theorem range_any(bs:List Bool):((List.range bs.length).any λi=>(bs[i]?).getD false)=bs.any id:=by
 induction bs with
 |nil=>rfl
 |cons b bs ih=>
  rw[RG,Sx,R9,Tf,R9,<-ih];rfl
theorem Af(hc:X.calm=true):dg X (.builtin "any") (wn X.K FU):=by
 rintro pins s σ H xs us Q I r ⟨O,ds,d,hO,hd,hg,q⟩;unfold FU at hg;split at hg
 ·rename_i ys;obtain⟨bv,e1,e2⟩:=bind_some hg;cases e2;obtain⟨bs,eb,ev⟩:=vq e1;subst eb ev;obtain⟨v,evv,h1⟩:=hd.one;subst evv;obtain⟨p,vs,ep,g1,g2⟩:=b8.mp h1;subst ep;obtain⟨u,eu,ru⟩:=vals1 r;subst eu;cases ru;obtain⟨its,rv,pl,hz⟩:=I.list ((au H O).seq g1);have ei:=mr g2 rv;have hl:=pl.isList;have hlt:p<s.heap.objs.size:=by obtain⟨_,e,_⟩:=hl;exact UW e
  refine call_any_walk (VL hl ?_);refine⟨s.heap.objs.size,[s.heap.objs.size,p],[s.heap.objs.size],its.toArray.size,_,_,λi=>(bs[i]?).getD false,rfl,Walks.list (A:=X.A.in1) (I.ok.hd hc) _ p (Rp hlt) its.toArray,
   ⟨⟨_,UZ _ rfl,rfl,rfl⟩,hl.push _⟩,λi v s' Q' E' hP hQ=>?_,λh' tk hk=>?_⟩
  ·have e:bs[i]?.map Value.bool=some v:=by
    rw[<-RX,<-ei]
    simpa using hP
   cases eb:bs[i]? with
   |none=>rw[eb]at e;cases e
   |some b=>
    rw[eb]at e;cases e;simp only[eb,SW]at hQ;exact VD hQ
  ·have e:((List.range its.toArray.size).any λi=>(bs[i]?).getD false)=bs.any id:=by
    have:its.toArray.size=bs.length:=(by rw[RE,ei,RJ]);rw[this];exact range_any bs
   rw[e];have k:∀b x,s.heap.get? b=some x->h'.get? b=some x:=λb x e=>hk b x (λhm=>by rw[List.mem_singleton.mp hm]at e;exact Ro _ (UW e)) (UY _ e);exact⟨.bl _,H,I.kept k,rfl,q _ H (bj.refl H) (jG.mpr rfl)⟩
 ·cases hg
end
end TG
namespace TG
open PySem PySem.Spec PyProof.Rows L2
variable[aw]
noncomputable def dW:List D->List D->Option Bool
 |[],[]=>some false
 |[],_::_=>some true
 |_::_,[]=>some false
 |a::as,b::bs=>match a,b with
  |.int i,.int j=>if i=j then dW as bs else some (decide (i<j))
  |.str x,.str y=>if x=y then dW as bs else some (decide (x.cps.toList<y.cps.toList))
  |_,_=>none
inductive gk:bc->List D->Prop where
 |nil:gk [] []
 |int (i:Int) (t:Tok) {vs:bc} {ds:List D} (h:gk vs ds):gk (.int i t::vs) (.int i::ds)
 |str (x:Str) (t:Tok) {vs:bc} {ds:List D} (h:gk vs ds):gk (.str x t::vs) (.str x::ds)
theorem gk.length:∀{vs:bc}{ds:List D},gk vs ds->vs.length=ds.length
 |_,_,.nil=>rfl
 |_,_,.int _ _ h=>by rw[RG,RG,h.length]
 |_,_,.str _ _ h=>by rw[RG,RG,h.length]
theorem Hc(A:Vu)(s:Vm)(a:Int)(t:Tok)(c:Int)(u:Tok):∃e,SeqAt.EqAt A s (.int a t) (.int c u) e/\(e=true↔a=c):=
 ⟨(a==c),SeqAt.EqAt.int_int a t c u,by simp⟩
theorem Hm(A:Vu)(s:Vm)(a:Str)(t:Tok)(c:Str)(u:Tok):∃e,SeqAt.EqAt A s (.str a t) (.str c u) e/\(e=true↔a=c):=
 ⟨(a==c),SeqAt.EqAt.str_str a t c u,by simp⟩
theorem KG(A:Vu)(s:Vm)(a:Str)(t:Tok)(c:Str)(u:Tok)(prog:Vo)(w:Vn)(E:bT)(Q:bT)(h:Q (.bool (decide (a.cps.toList<c.cps.toList))) s):
  Vx (model prog w) A (richCompare .Lt (.str a t) (.str c u)) Q E s:=
 (PySem.P.lt_str h:Vx (model prog w) A (VB .Lt (.str a t) (.str c u)) Q E s)
section
open PySem.SeqAt
open PySem.AutoSeq1 (wpAny_loadPart')
open PySem.MeetsSeq PySem.MeetsSeq2 PySem.MeetsSeq3
set_option maxHeartbeats 1000000 in
theorem rP(l b:Vj)(items items2:Array Vh)(n n2:Nat)(dd dd2:Option Vj)(sl sl2:Array (Option Vh))(ns ms:List D)(r:Bool)(hi:gk items.toList ns)(hj:gk items2.toList ms)(hr:dW ns ms=some r):
  Meets (Builtin.«tuple.__lt__» ⟨[.ref l,.ref b],[]⟩)
   (fun _ R s=>s.heap.get? l=some { cls:=.type "tuple",dict:=dd,data:=.seq items n,slots:=sl }/\s.heap.get? b=some { cls:=.type "tuple",dict:=dd2,data:=.seq items2 n2,slots:=sl2 } /\
    R (.ok (.ret (.bool r))) s):=
 .of_wp λprog w A R s h=>by
  obtain⟨hp,g,d,tk,os⟩:=s;obtain⟨hl,hb,h⟩:=h;have f2:=AutoSeq1.sub_tuple_tuple;have z1:items.size=ns.length:=by rw[<-hi.length];simp
  have z2:items2.size=ms.length:=by rw[<-hj.length];simp
  wp_walk using wpAny_loadPart' hl,wpAny_loadPart' hb,wpAny_forIn_list _ (λrest b s'=>b.1=none/\s'=⟨hp,g,d,tk,os⟩/\∃(vs ws:bc)(ns' ms':List D),rest=vs.zip ws/\
   gk vs ns'/\gk ws ms'/\ns'.length+items2.size=ms'.length+items.size/\dW ns' ms'=some r/\R (.ok (.ret (.bool r))) ⟨hp,g,d,tk,os⟩) _
  case turn=>
   rintro⟨y,x⟩ rest b s' ⟨hb',rfl,vs,ws,ns',ms',hz,hvi,hwi,hlen,hL,hR⟩;cases hvi with
   |nil=>rw[List.zip_nil_left]at hz;cases hz
   |int a t hvi'=>
    cases hwi with
    |nil=>rw[Tg]at hz;cases hz
    |str c u hwi'=>cases hL
    |int c u hwi'=>
     rw[S8]at hz;injection hz with hyx hrest;injection hyx with hy hx;subst hy hx;have hL':(if a=c then dW _ _ else some (decide (a<c)))=some r:=hL;simp only[RG]at hlen;obtain⟨e,he,hiff⟩:=Hc A.in1 ⟨hp,g,d,tk,os⟩ a t c u;refine VF (he prog w _ _ ?_);cases e with
     |true=>
      rw[if_pos (hiff.mp rfl)]at hL'
      wp_walk
      exact⟨rfl,rfl,_,_,_,_,hrest,hvi',hwi',by omega,hL',hR⟩
     |false=>
      rw[if_neg (λq=>absurd (hiff.mpr q) RF)]at hL';cases hL';have hri:=HT.Lx A.in1 ⟨hp,g,d,tk,os⟩ a t c u prog w
      wp_walk using hri
      exact⟨_,rfl,by simpa using hR⟩
   |str a t hvi'=>
    cases hwi with
    |nil=>rw[Tg]at hz;cases hz
    |int c u hwi'=>cases hL
    |str c u hwi'=>
     rw[S8]at hz;injection hz with hyx hrest;injection hyx with hy hx;subst hy hx;have hL':(if a=c then dW _ _ else some (decide (a.cps.toList<c.cps.toList)))=some r:=hL;simp only[RG]at hlen;obtain⟨e,he,hiff⟩:=Hm A.in1 ⟨hp,g,d,tk,os⟩ a t c u;refine VF (he prog w _ _ ?_);cases e with
     |true=>
      rw[if_pos (hiff.mp rfl)]at hL'
      wp_walk
      exact⟨rfl,rfl,_,_,_,_,hrest,hvi',hwi',by omega,hL',hR⟩
     |false=>
      rw[if_neg (λq=>absurd (hiff.mpr q) RF)]at hL';cases hL';have hri:=KG A.in1 ⟨hp,g,d,tk,os⟩ a t c u prog w
      wp_walk using hri
      exact⟨_,rfl,by simpa using hR⟩
  case fin=>
   rintro⟨b1,b2⟩ s' ⟨hb',rfl,vs,ws,ns',ms',hz,hvi,hwi,hlen,hL,hR⟩;simp only at hb';subst hb';have hv:r=decide (items.size<items2.size):=by
    have l1:=hvi.length;have l2:=hwi.length;cases ns' with
    |nil=>
     cases ms' with
     |nil=>
      simp only[Sa]at hlen;cases hL;exact(decide_eq_false ‹0›).symm
     |cons c u=>
      simp only[Sa,RG]at hlen;cases hL;exact(decide_eq_true ‹0›).symm
    |cons a t=>
     cases ms' with
     |nil=>
      simp only[Sa,RG]at hlen;cases hL;exact(decide_eq_false ‹0›).symm
     |cons c u=>
      have:=congrArg List.length hz
      simp only[Sa,List.length_zip,l1,l2,RG]at this;omega
   rw[hv]at hR
   wp_walk
   exact⟨_,rfl,by simpa [Builtin.Tuple.tupleCompareSizes]using hR⟩
  case h=>
   exact⟨rfl,rfl,items.toList,items2.toList,ns,ms,rfl,hi,hj,by omega,hr,h⟩
end
section
variable{X:Cx}
theorem Al{α:Type}{c:Bool}{o:Option α}{a:α}(h:(if c then o else none)=some a):c=true/\o=some a:=by
 cases c with
 |true=>exact⟨rfl,h⟩
 |false=>cases h
theorem wR{prog:Vo}{w:Vn}{A:Vu}{E:bT}{s:Vm}{l b:Vj}{items items2:Array Vh}{ns ms:List D}{r:Bool}{Q:bT}(hl:IsTup s.heap l items)(hb:IsTup s.heap b items2)(hi:gk items.toList ns)(hj:gk items2.toList ms)(hr:dW ns ms=some r)
  (hu:A.units<VX) (h:Q (.bool r) s):Vx (model prog w) A (VB .Lt (.ref l) (.ref b)) Q E s:=by
 obtain⟨⟨cls,dd,data,sl⟩,ho,hc,n,hd⟩:=id hl;obtain⟨⟨cls2,dd2,data2,sl2⟩,ho2,hc2,n2,hd2⟩:=id hb;simp only at hc hd hc2 hd2;subst hc hd hc2 hd2;exact richCompare_meets_room (op:=.Lt) ⟨_,ho,rfl⟩ ⟨_,ho2,rfl⟩ PySem.F.slot_tuple_lt PySem.F.entry_tuple_lt (PySem.F.args_tuple_lt_2 _ _) (rP l b items items2 n n2 dd dd2 sl sl2 ns ms r hi hj hr)
  ⟨ho,ho2,show Value.bool r≠Value.notImplemented/\Q (.bool r) s from⟨(λx=>nomatch x),h⟩⟩ hu
noncomputable def pC:List D->Bool
 |[]=>true
 |.int _::r=>pC r
 |.str _::r=>pC r
 |_=>false
theorem j7{K:Ug}{H:Hp}:∀{ds:List D}{vs:aF}{us:bc},pC ds=true->aB K H ds vs->Vals vs us->gk us ds
 |[],vs,us,_,h,r=>by
  rw[cf]at h;subst h;cases r;exact .nil
 |d::ds,vs,us,hf,h,r=>by
  obtain⟨v,r',e,h1,h2⟩:=aK.mp h;subst e;cases r with
  |cons q1 q2=>
   cases d with
   |int i=>
    rw[eS]at h1;subst h1;obtain⟨t,rfl⟩:=q1;exact .int i t (j7 hf h2 q2)
   |str x=>
    rw[eD]at h1;subst h1;obtain⟨t,rfl⟩:=q1;exact .str x t (j7 hf h2 q2)
   |_=>cases hf
noncomputable def pK(a b:D):bu:=match a,b with
 |.int i,.int j=>some (.bl (decide (i<j)))
 |.str x,.str y=>some (.bl (decide (x.cps.toList<y.cps.toList)))
 |.tup xs,.tup ys=>if pC xs&&pC ys then(dW xs ys).bind λr=>some (.bl r)else none
 |_,_=>none
theorem Bb(hu:X.A.units+64<VX):iK X (VB .Lt) (rD X.K pK):=by
 rintro pins s σ H x y u v Q I rx ry ⟨O,a,b,d,hO,ha,hb,hg,q⟩;cases a with
 |int i=>
  cases b with
  |int j=>
   cases hg;exact KN pins s σ H x y u v Q I rx ry ⟨i,j,eS.mp ha,eS.mp hb,q _ H (bj.refl H) (jG.mpr rfl)⟩
  |_=>cases hg
 |str i=>
  cases b with
  |str j=>
   cases hg;exact zi pins s σ H x y u v Q I rx ry ⟨i,j,eD.mp ha,eD.mp hb,q _ H (bj.refl H) (jG.mpr rfl)⟩
  |_=>cases hg
 |tup xs=>
  cases b with
  |tup ys=>
   obtain⟨h1,h2⟩:=Al hg;obtain⟨r,e1,e2⟩:=bind_some h2;cases e2;rw[R3]at h1;obtain⟨p,vs,ex,g1,g2⟩:=bW.mp ha;obtain⟨p',vs',ey,g1',g2'⟩:=bW.mp hb;subst ex ey;cases rx;cases ry;obtain⟨its,r1,t1,_⟩:=I.tuple (bX (au H O) g1);obtain⟨its2,r2,t2,_⟩:=I.tuple (bX (au H O) g1');exact wR t1 t2 (j7 h1.1 g2 r1) (j7 h1.2 g2' r2) e1 ‹0› (BR I (q _ H (bj.refl H) (jG.mpr rfl)) rfl)
  |_=>cases hg
 |_=>cases hg
end
end TG
namespace TG
open PySem PySem.Spec L2
variable[aw]
noncomputable def ie(x:Str)(n:Int):Str:=if(n==1||x.length==0)=true then x else⟨(List.replicate n.toNat x.cps).foldl (·++·) #[]⟩
theorem foldl_size:∀(n:Nat)(c a:Array Nat),((List.replicate n c).foldl (·++·) a).size=a.size+n*c.size
 |0,_,a=>by simp
 |n+1,c,a=>by
  rw[Th,Ti,foldl_size n c,Array.size_append,Nat.succ_mul];omega
theorem nh{x:Str}{n:Int}(h:1<=n):(ie x n).length=n.toNat*x.length:=by
 unfold ie;split
 ·rename_i q;rw[SF]at q;rcases q with q|q
  ·have:n=1:=(by simpa using q);rw[this];simp
  ·have:x.length=0:=(by simpa using q);rw[this];simp
 ·show((List.replicate n.toNat x.cps).foldl (·++·) #[]).size=n.toNat*x.cps.size;rw[foldl_size];simp
noncomputable def sC(a b:D):bu:=match a,b with
 |.int i,.int j=>jy (.int i) (.int j)
 |.str x,.int n=>if decide (1<=n/\n<=1000/\x.length<=1000)then some (.str (ie x n))else none
 |_,_=>none
section
variable{X:Cx}
theorem EQ:iK X (VP .Mult) (rD X.K sC):=by
 rintro pins s σ H x y u v Q I rx ry ⟨O,a,b,d,hO,ha,hb,hg,q⟩;cases a with
 |int i=>
  cases b with
  |int j=>exact BF pins s σ H x y u v Q I rx ry (Cr (.int i) (.int j) d x y O H Q hO hg ha hb q)
  |_=>cases hg
 |str z=>
  cases b with
  |int n=>
   obtain⟨h1,h2⟩:=aZ hg;subst h2;obtain⟨n1,n2,zl⟩:=of_decide_eq_true h1;rw[eD]at ha;rw[eS]at hb;subst ha hb;obtain⟨t,rfl⟩:=rx;obtain⟨t',rfl⟩:=ry;have zn:z.length*n.toNat<=1000*1000:=Nat.mul_le_mul zl ‹0›;refine P.mul_str (by rw[decide_eq_false ‹0›,decide_eq_false ‹0›];rfl) (λ_ _=>?_) (λ_ _=>?_) ?_
   ·have:(2^63-1:Int)/n>=(2^63-1)/1000:=by
     rw[ge_iff_le,Int.le_ediv_iff_mul_le ‹0›];have h3:(2^63-1:Int)/1000*n<=(2^63-1)/1000*1000:=Int.mul_le_mul_of_nonneg_left n2 (by decide);have h4:(2^63-1:Int)/1000*1000<=2^63-1:=(by decide);omega
    have h5:(2^63-1:Int)/1000=9223372036854775:=(by decide);omega
   ·unfold Builtin.Str.tooLong;rw[decide_eq_false];rw[VQ];omega
   ·rw[if_neg ‹0›];have fin:∀tk,EP X pins σ Q (.str (ie z n) tk) {s with toks:=s.toks+1}/\EP X pins σ Q (.str (ie z n) tk) s:=λtk=>⟨⟨.str (ie z n),H,I.tok _,⟨_,rfl⟩,q _ H (bj.refl H) (eD.mpr rfl)⟩,⟨.str (ie z n),H,I,⟨_,rfl⟩,q _ H (bj.refl H) (eD.mpr rfl)⟩⟩
    by_cases e:(n==1||z.length==0)=true
    ·rw[if_pos e]
     have:ie z n=z:=(by unfold ie;rw[if_pos e]);rw[this]at fin;exact(fin t).2
    ·rw[if_neg e];have e2:ie z n=⟨(List.replicate n.toNat z.cps).foldl (·++·) #[]⟩:=(by unfold ie;rw[if_neg e]);rw[e2]at fin;refine⟨?_,(fin _).1⟩;have rl:=nh (x:=z) (n:=n) ‹0›;rw[e2]at rl;rw[rl,VQ,Nat.mul_comm];omega
  |_=>cases hg
 |_=>cases hg
end
structure NotIn(K:Ug)(D C:Vj):Prop where
 ne:D≠C
 cls:(PySem.W.clsIn K C).isSome=true
 ty:Uu K (.ref C)=some (.type "type")
 ins:UL K (.ref C) (.type "type")=some true
 sub:UM K (.ref D) (.ref C)=some false
 fc:Uk K (.ref D) "__class__"=some (some (.builtin "object.__class__"))
 sg:UN K (.builtin "object.__class__") "__get__"=some (some (.builtin "getset_descriptor.__get__"))
 tk:UO K (.builtin "object.__class__")=some true
 mo:UP K D (.type "object")=some true
section
open PySem.W PySem.Calls PyProof.Rows
variable{prog:Vo}{w:Vn}{A:Vu}{E:bT}{s:Vm}{K:Ug}{x D C:Vj}{ox od:Obj}
theorem w6{Q:Option Vh->dj}(X:K.In s.heap)(I:InstAt s.heap x ox D (some od))(cl:L2.mG K D)(n:NotIn K D C)(h:Q (some (.ref D)) {s with toks:=s.toks+1}):Vx (model prog w) A (getAttr? (.ref x) "__class__") Q E s:=by
 obtain⟨hga,hk⟩:=plainGet_of (cl.get "__class__");have hf:=findObj_data (od:=od) (name:="__class__") (by obtain⟨cd,hc,_⟩:=any_some cl.hd;rw[hc];rfl) n.fc n.sg n.tk;obtain⟨hh,g,d,t,os⟩:=s;have L0:=I.type (M:=model prog w);have L1:=looks_findIn (M:=model prog w) X hga;have L2:=looks_find (M:=model prog w) X I hf;have L3:=looks_findIn (M:=model prog w) X hk;unfold getAttr? getAttrBy? getAttrBy;refine VF (wpAny_mkText (VF (Wq (VG (VF (L0.at (VF (L1.at ?_))))))));show Vx _ _ (getAttrEveryday _ _ _) _ _ _;refine VF (Wo (wpAny_runValue (codeAny_builtin PySem.F.plainObj_entry_getattr_hooked ?_)));refine VF (VI (VF (L0.at (VF (L2.at (VF (L3.at ?_)))))));show Vx _ _ (holding [_] (call _ [_,.ref x,.ref D]) >>= ret) _ _ _;refine VF (VG (V0 (class_get (s:=⟨hh,g,d,t+1,os⟩) (ox:=ox) (od:=some od) X I n.mo ?_)));refine VI ?_;show Vx _ _ (handedOut (.ref D)) _ _ _;exact handed_on rfl (VI h)
theorem vF{dep:Int}{tk:Tok}{Q:PySem.Fin->dj}(X:K.In s.heap)(I:InstAt s.heap x ox D (some od))(cl:L2.mG K D)(n:NotIn K D C)(h:Q (.done (.ret (.bool false))) {s with toks:=s.toks+1}):
  Vx (model prog w) A (Builtin.«isinstance.nested» ⟨[.ref x,.ref C,.int dep tk],[]⟩) Q E s:=by
 have ca:=λ{A E}{Q:Option Vh->dj}(h:Q (some (.ref D)) {s with toks:=s.toks+1})=>w6 (prog:=prog) (w:=w) (A:=A) (E:=E) X I cl n h;obtain⟨hh,g,d,tt,os⟩:=s;have ht:=I.type (M:=model prog w);unfold Builtin.«isinstance.nested»;refine VF (ht.at ?_);rw[if_neg (λq=>n.ne (by have:=beq_iff_eq.mp q;cases this;rfl))];have L1:=looks_typeIn (M:=model prog w) X n.ty;have L2:=looks_instIn (M:=model prog w) X n.ins;have L4:Looks (model prog w) hh (isSubtype (.ref D) (.ref C)) false:=looks_subIn X n.sub;have L3:Looks (model prog w) hh (isInstance (.ref x) (.ref C)) false:=ht.andThen L4;refine VF (L1.at ?_);rw[if_pos (by decide)]
 k_delta "plainIsInstance"
 unfold isType
 repeat lk
 have e0:=n.cls;unfold clsIn at e0;split at e0
 ·rename_i ho;refine nd_load (X _ _ ho) (nd_pure (VI ?_));simp only[Tj,Si,if_false];refine VF (L3.at ?_);simp only[Si,if_false];refine VF (ca ?_);have e1:(clsIn K D).isSome=true:=by obtain⟨cd,hc,_⟩:=any_some cl.hd;rw[hc];rfl
  unfold clsIn at e1;split at e1
  ·rename_i ho2;refine VF (nd_load (X _ _ ho2) (VI ?_));simp only[Tj,Si,if_false];refine VF (We ?_);refine L4.at ?_;exact VI h
  ·cases e1
 ·cases e0
theorem zH{Q:bT}(X:K.In s.heap)(I:InstAt s.heap x ox D (some od))(cl:L2.mG K D)(n:NotIn K D C)(h:Q (.bool false) {s with toks:=s.toks+1}):
  Vx (model prog w) A (call (.builtin "isinstance") [.ref x,.ref C]) Q E s:=
 call_isinstance (S:=λ_ R s=>(K.In s.heap/\InstAt s.heap x ox D (some od))/\R (.ok (.ret (.bool false))) {s with toks:=s.toks+1})
  (λ_ _ _ _ _ hs=>isinstance_outer (vF hs.1.1 hs.1.2 cl n hs.2) (λz=>nomatch z)) ⟨⟨X,I⟩,h⟩
end
noncomputable def eZ(K:Ug)(mg:cN)(x:Str)(yes no:av):Prop:=∃C,mg x=some (.ref C)/\(∀c∈yes,∀D,clsAt K c D->UQ K (.ref D) C=true)/\∀c∈no,∀D,clsAt K c D->mG K D/\NotIn K D C
noncomputable def bF(yes no:av)(d:D):bu:=match d with
 |.obj c _ _=>if yes.contains c then some (.bl true)else if no.contains c then some (.bl false)else none
 |_=>none
noncomputable def N1(K:Ug)(C:Vj):aF->Hp->VK->Prop:=λxs H Q=>∃p D dx fs,xs=[.ref p,.ref C]/\H p=some (.ins D dx fs)/\((UQ K (.ref D) C=true/\Q (.bl true) H)\/(mG K D/\NotIn K D C/\Q (.bl false) H))
section
variable{X:Cx}{p pos:Pos}{e:Vk}{C:Vj}
theorem C6:dg X (.builtin "isinstance") (N1 X.K C):=by
 rintro pins s σ H xs us Q I r ⟨p,D,dx,fs,ex,hp,hq⟩;subst ex;obtain⟨u,w',rfl,rx,rt⟩:=vals2 r;cases rx;cases rt;obtain⟨mA,om,_⟩:=qd I.hok hp;obtain⟨od,ia,_⟩:=om.look;rcases hq with⟨hi,q⟩|⟨cl,n,q⟩
 ·exact PySem.W.isi_call I.kIn (λM=>ia.type) hi (λz=>nomatch z) ⟨.bl true,H,I,rfl,q⟩
 ·exact zH I.kIn ia cl n ⟨.bl false,H,I.tok _,rfl,q⟩
end
end TG
namespace TG
open PySem PySem.Spec PyProof.Rows PySem.W L2
variable[aw]
theorem qm:∀a:List Nat,¬a<a
 |[]=>Tl _
 |x::xs=>λh=>by
  rcases List.cons_lt_cons_iff.mp h with h|⟨_,h⟩
  ·omega
  ·exact qm xs h
theorem j9:∀{a b c:List Nat},a<b->b<c->a<c
 |_,_,[],_,h=>absurd h (Tl _)
 |_,[],_::_,h,_=>absurd h (Tl _)
 |[],_::_,_::_,_,_=>Tn _ _
 |x::xs,y::ys,z::zs,h,h'=>by
  rw[To]at h h' ⊢;rcases h with h|⟨e,h⟩<;>rcases h' with h'|⟨e',h'⟩
  ·exact .inl ‹0›
  ·exact .inl ‹0›
  ·exact .inl ‹0›
  ·exact .inr ⟨by omega,j9 h h'⟩
theorem Cv:∀a b:List Nat,a<b\/a=b\/b<a
 |[],[]=>.inr (.inl rfl)
 |[],_::_=>.inl (Tn _ _)
 |_::_,[]=>.inr (.inr (Tn _ _))
 |x::xs,y::ys=>by
  rw[To,To];rcases Nat.lt_trichotomy x y with h|h|h
  ·exact .inl (.inl h)
  ·rcases Cv xs ys with q|q|q
   ·exact .inl (.inr ⟨h,q⟩)
   ·exact .inr (.inl (by rw[h,q]))
   ·exact .inr (.inr (.inr ⟨h.symm,q⟩))
  ·exact .inr (.inr (.inl h))
theorem B6{x y:Str}(h:x.cps.toList=y.cps.toList):x=y:=by
 cases x;cases y;congr 1;exact Array.toList_inj.mp h
inductive Sh:List Bool->List D->Prop where
 |nil:Sh [] []
 |int (i:Int) {bs:List Bool} {ds:List D} (h:Sh bs ds):Sh (true::bs) (.int i::ds)
 |str (x:Str) {bs:List Bool} {ds:List D} (h:Sh bs ds):Sh (false::bs) (.str x::ds)
theorem Sh.length:∀{σ:List Bool}{a:List D},Sh σ a->a.length=σ.length
 |_,_,.nil=>rfl
 |_,_,.int _ h=>by rw[RG,RG,h.length]
 |_,_,.str _ h=>by rw[RG,RG,h.length]
theorem uA:∀{σ:List Bool}{a:List D},Sh σ a->pC a=true
 |_,_,.nil=>rfl
 |_,_,.int i h=>by
  unfold pC;exact uA h
 |_,_,.str i h=>by
  unfold pC;exact uA h
theorem qi(i j:Int)(as bs:List D):dW (.int i::as) (.int j::bs)=if i=j then dW as bs else some (decide (i<j)):=by rw[dW]
theorem qJ(x y:Str)(as bs:List D):dW (.str x::as) (.str y::bs)=if x=y then dW as bs else some (decide (x.cps.toList<y.cps.toList)):=by rw[dW]
theorem Ck:dW [] []=some false:=by rw[dW]
theorem nA:∀{σ:List Bool}{a:List D},Sh σ a->dW a a=some false
 |_,_,.nil=>Ck
 |_,_,.int i h=>by rw[qi,if_pos rfl];exact nA h
 |_,_,.str x h=>by rw[qJ,if_pos rfl];exact nA h
theorem pZ{σ:List Bool}{a b:List D}(h1:Sh σ a)(h2:Sh σ b):(dW a b=some true/\dW b a=some false/\a≠b)\/a=b\/(dW b a=some true/\dW a b=some false/\a≠b):=by
 induction h1 generalizing b with
 |nil=>cases h2;exact .inr (.inl rfl)
 |int i h ih=>
  cases h2 with|int j h'=>
  rw[qi,qi];by_cases e:i=j
  ·subst e;rw[if_pos rfl,if_pos rfl];rcases ih h' with⟨q1,q2,q3⟩|q|⟨q1,q2,q3⟩
   ·exact .inl ⟨q1,q2,λz=>q3 (by injection z)⟩
   ·exact .inr (.inl (by rw[q]))
   ·exact .inr (.inr ⟨q1,q2,λz=>q3 (by injection z)⟩)
  ·rw[if_neg e,if_neg (λz=>e z.symm)];rcases Int.lt_or_gt_of_ne e with q|q
   ·exact .inl ⟨by rw[decide_eq_true q],by rw[decide_eq_false ‹0›],λz=>e (by injection z with z1;injection z1)⟩
   ·exact .inr (.inr ⟨by rw[decide_eq_true q],by rw[decide_eq_false ‹0›],λz=>e (by injection z with z1;injection z1)⟩)
 |str x h ih=>
  cases h2 with|str y h'=>
  rw[qJ,qJ];by_cases e:x=y
  ·subst e;rw[if_pos rfl,if_pos rfl];rcases ih h' with⟨q1,q2,q3⟩|q|⟨q1,q2,q3⟩
   ·exact .inl ⟨q1,q2,λz=>q3 (by injection z)⟩
   ·exact .inr (.inl (by rw[q]))
   ·exact .inr (.inr ⟨q1,q2,λz=>q3 (by injection z)⟩)
  ·rw[if_neg e,if_neg (λz=>e z.symm)];rcases Cv x.cps.toList y.cps.toList with q|q|q
   ·exact .inl ⟨by rw[decide_eq_true q],by rw[decide_eq_false λz=>qm _ (j9 q z)],λz=>e (by injection z with z1;injection z1)⟩
   ·exact absurd (B6 q) e
   ·exact .inr (.inr ⟨by rw[decide_eq_true q],by rw[decide_eq_false λz=>qm _ (j9 q z)],λz=>e (by injection z with z1;injection z1)⟩)
theorem sW{σ:List Bool}{a b c:List D}(h1:Sh σ a)(h2:Sh σ b)(h3:Sh σ c)(q:dW a b=some true)(q':dW b c=some true):dW a c=some true:=by
 induction h1 generalizing b c with
 |nil=>cases h2;rw[Ck]at q;cases q
 |int i h ih=>
  cases h2 with|int j h'=>
  cases h3 with|int k h''=>
  rw[qi]at q q' ⊢;by_cases e:i=j
  ·subst e;rw[if_pos rfl]at q;by_cases e':i=k
   ·subst e';rw[if_pos rfl]at q' ⊢;exact ih h' h'' q q'
   ·rw[if_neg e']at q' ⊢;exact q'
  ·rw[if_neg e]at q;have q1:=of_decide_eq_true (Option.some.inj q);by_cases e':j=k
   ·subst e';rw[if_neg e,decide_eq_true q1]
   ·rw[if_neg e']at q';have q2:=of_decide_eq_true (Option.some.inj q');rw[if_neg ‹0›,decide_eq_true ‹0›]
 |str i h ih=>
  cases h2 with|str j h'=>
  cases h3 with|str k h''=>
  rw[qJ]at q q' ⊢;by_cases e:i=j
  ·subst e;rw[if_pos rfl]at q;by_cases e':i=k
   ·subst e';rw[if_pos rfl]at q' ⊢;exact ih h' h'' q q'
   ·rw[if_neg e']at q' ⊢;exact q'
  ·rw[if_neg e]at q;have q1:=of_decide_eq_true (Option.some.inj q);by_cases e':j=k
   ·subst e';rw[if_neg e,decide_eq_true q1]
   ·rw[if_neg e']at q';have q2:=of_decide_eq_true (Option.some.inj q');rw[if_neg (show¬i=k from λz=>by rw[z]at q1;exact qm _ (j9 q1 q2)),decide_eq_true (j9 q1 q2)]
theorem CH{σ:List Bool}{a b:List D}(h:Sh σ a)(h':Sh σ b)(q:dW a b=some true):dW b a=some false:=by
 rcases pZ h h' with⟨_,q2,_⟩|e|⟨_,q2,_⟩
 ·exact q2
 ·subst e;rw[nA h]at q;cases q
 ·rw[q2]at q;cases q
noncomputable def kLt(a b:List D):Bool:=dW a b==some true
theorem Fa{a b:List D}:kLt a b=true↔dW a b=some true:=by unfold kLt;simp
section
variable{α:Type}
noncomputable def zW(key:α->List D)(x:α):List α->List α
 |[]=>[x]
 |y::ys=>if kLt (key x) (key y)then x::y::ys else y::zW key x ys
noncomputable def kg(key:α->List D):List α->List α
 |[]=>[]
 |x::xs=>zW key x (kg key xs)
theorem oC(key:α->List D)(x:α):∀ys:List α,(zW key x ys).Perm (x::ys)
 |[]=>.refl _
 |y::ys=>by
  unfold zW;split
  ·exact .refl _
  ·exact(List.Perm.cons y (oC key x ys)).trans (.swap x y ys)
theorem eI(key:α->List D):∀xs:List α,(kg key xs).Perm xs
 |[]=>.refl _
 |x::xs=>(oC key x _).trans (.cons x (eI key xs))
noncomputable def vA(key:α->List D)(xs:List α):Prop:=xs.Pairwise λx y=>dW (key x) (key y)=some true
theorem vk{key:α->List D}{σ:List Bool}{x:α}(hx:Sh σ (key x)):∀{ys:List α},(∀y∈ys,Sh σ (key y)/\key x≠key y)->vA key ys->vA key (zW key x ys)
 |[],_,_=>List.pairwise_singleton _ _
 |y::ys,h,p=>by
  have p':=List.pairwise_cons.mp p;obtain⟨hy,ne⟩:=h y Ru;unfold zW;split
  ·rename_i q;have q:=Fa.mp q;refine List.pairwise_cons.mpr ⟨λz hz=>?_,p⟩;rcases List.mem_cons.mp hz with rfl|hz
   ·exact q
   ·exact sW hx hy (h z (Rv _ hz)).1 q (p'.1 z hz)
  ·rename_i q;have q:dW (key y) (key x)=some true:=by
    rcases pZ hx hy with⟨z,_⟩|z|⟨z,_⟩
    ·exact absurd (Fa.mpr z) q
    ·exact absurd z ne
    ·exact z
   refine List.pairwise_cons.mpr ⟨λz hz=>?_,vk hx (λz hz=>h z (Rv _ hz)) p'.2⟩;rcases List.mem_cons.mp ((oC key x ys).mem_iff.mp hz)with rfl|hz
   ·exact q
   ·exact p'.1 z hz
theorem nY{key:α->List D}{σ:List Bool}:∀{xs:List α},(∀x∈xs,Sh σ (key x))->xs.Pairwise (λx y=>key x≠key y)->vA key (kg key xs)
 |[],_,_=>List.Pairwise.nil
 |x::xs,h,p=>by
  have p':=List.pairwise_cons.mp p;refine vk (h x Ru) (λy hy=>?_) (nY (λy hy=>h y (Rv _ hy)) p'.2);have hy:=(eI key xs).mem_iff.mp hy;exact⟨h y (Rv _ hy),p'.1 y hy⟩
theorem yI{key:α->List D}{σ:List Bool}:∀{xs ys:List α},(∀x∈xs,Sh σ (key x))->vA key xs->vA key ys->xs.Perm ys->xs=ys
 |[],ys,_,_,_,e=>(List.perm_nil.mp e.symm).symm
 |x::xs,[],_,_,_,e=>List.perm_nil.mp e
 |x::xs,y::ys,h,p,q,e=>by
  have p':=List.pairwise_cons.mp p;have q':=List.pairwise_cons.mp q;have exy:x=y:=by
   rcases List.mem_cons.mp (e.mem_iff.mp Ru)with z|z
   ·exact z
   ·have w1:=q'.1 x z;rcases List.mem_cons.mp (e.symm.mem_iff.mp Ru)with z'|z'
    ·exact z'.symm
    ·have w2:=p'.1 y z'
     have:=CH (h x Ru) (h y (Rv _ z')) w2
     rw[w1]at this;cases this
  subst exy;rw[yI (λz hz=>h z (Rv _ hz)) p'.2 q'.2 (List.Perm.cons_inv e)]
theorem DG{key:α->List D}{σ:List Bool}{xs ys:List α}(h:∀x∈xs,Sh σ (key x))(p:xs.Pairwise λx y=>key x≠key y)(q:vA key ys)(e:ys.Perm xs):kg key xs=ys:=
 yI (λx hx=>h x ((eI key xs).mem_iff.mp hx)) (nY h p) q ((eI key xs).trans e.symm)
noncomputable def rank(ks:gz)(i:Nat):Nat:=(ks.filter λk=>kLt k (ks.getD i [])).length
theorem uy{ks:gz}{σ:List Bool}(h:∀k∈ks,Sh σ k){i j:Nat}(hi:i<ks.length)(hj:j<ks.length):decide (rank ks i<rank ks j)=kLt (ks.getD i []) (ks.getD j []):=by
 have gi:ks.getD i []=ks[i]:=by simp[hi]
 have gj:ks.getD j []=ks[j]:=by simp[hj]
 have mono:∀a b:List D,Sh σ a->Sh σ b->dW a b=some true->∀l:gz,(∀k∈l,Sh σ k)->(l.filter λk=>kLt k a).length<=(l.filter λk=>kLt k b).length/\(a∈l->(l.filter λk=>kLt k a).length<(l.filter λk=>kLt k b).length):=by
  intro a b ha hb hab l
  induction l with
  |nil=>exact λ_=>⟨RB _,λz=>nomatch z⟩
  |cons k l ih=>
   intro hl;obtain⟨i1,i2⟩:=ih λz hz=>hl z (Rv _ hz);have hk:=hl k Ru;by_cases q:kLt k a=true
   ·have q':kLt k b=true:=Fa.mpr (sW hk ha hb (Fa.mp q) hab);rw[Tp (p:=λk=>kLt k a) q,Tp (p:=λk=>kLt k b) q',RG,RG];refine⟨by omega,λz=>?_⟩;rcases List.mem_cons.mp z with rfl|z
    ·rw[Fa,nA ha]at q;cases q
    ·have:=i2 z;omega
   ·rw[Tq (p:=λk=>kLt k a) q];by_cases q':kLt k b=true
    ·rw[Tp (p:=λk=>kLt k b) q',RG];exact⟨by omega,λ_=>by omega⟩
    ·rw[Tq (p:=λk=>kLt k b) q'];refine⟨i1,λz=>?_⟩;rcases List.mem_cons.mp z with rfl|z
     ·exact absurd (Fa.mpr hab) q'
     ·exact i2 z
 unfold rank;rw[gi,gj];have hi':=h _ (Tr hi);have hj':=h _ (Tr hj);rcases pZ hi' hj' with⟨z,_⟩|z|⟨z,z',_⟩
 ·rw[Fa.mpr z];exact decide_eq_true ((mono _ _ hi' hj' z ks h).2 (Tr hi))
 ·rw[z]
  have:kLt ks[j] ks[j]=false:=by unfold kLt;rw[nA hj'];rfl
  rw[this];exact decide_eq_false (Ro _)
 ·have e:kLt ks[i] ks[j]=false:=by unfold kLt;rw[z'];rfl
  rw[e];exact decide_eq_false (Nat.not_lt.mpr (mono _ _ hj' hi' z ks h).1)
end
section
variable{cmp:Nat->Nat->(Bool->dj)->dj}{r:Nat->Nat}{N:Nat}
noncomputable def lN(cmp:Nat->Nat->(Bool->dj)->dj)(r:Nat->Nat)(N:Nat)(s:Vm):Prop:=∀(i j:Nat)(C:Bool->dj),i<N->j<N->C (decide (r i<r j)) s->cmp i j C s
noncomputable def PM(N:Nat)(p:Array Nat):Prop:=p.Perm (List.toArray (List.range N))
theorem PM.size{p:Array Nat}(h:PM N p):p.size=N:=by
 have:=h.size_eq;simpa using this
theorem PM.lt{p:Array Nat}(h:PM N p){i:Nat}(hi:i<N):p.getD i 0<N:=by
 have hs:=h.size;have e:p.getD i 0=p[i]'‹0›:=by simp[Array.getD,hs,hi]
 rw[e];have m:p[i]'‹0›∈p:=Array.getElem_mem _
 have:=(h.mem_iff (a:=p[i]'‹0›)).mp m
 simpa using this
theorem PM.rev{p:Array Nat}(h:PM N p)(i j:Nat):PM N (kas_rev p i j):=(mirror_perm p i j _).trans h
noncomputable abbrev Rk(r:Nat->Nat)(p:Array Nat)(i:Nat):Nat:=r (p.getD i 0)
theorem ud{p:Array Nat}{i j:Nat}(hj:j<=p.size)(k:Nat):Rk r (kas_rev p i j) k=if i<=k/\k<j then Rk r p (i+j-1-k)else Rk r p k:=by
 have e:=getElem?_mirror_all (xs:=p) (i:=i) (j:=j) hj k;have g:∀(q:Array Nat)(k:Nat),q.getD k 0=(q[k]?).getD 0:=λq k=>by simp
 show r ((kas_rev p i j).getD k 0)=_;rw[g];show r (((mirror p i j ((j-i)/2))[k]?).getD 0)=_;rw[e];split
 ·show _=r (p.getD _ 0);rw[g]
 ·show _=r (p.getD _ 0);rw[g]
theorem AU{p:Array Nat}{src d:Nat}(hs:src<p.size)(hd:d<=src)(k:Nat):Rk r (bubble p src d) k=if k=src-d then Rk r p src else if src-d<k/\k<=src then Rk r p (k-1)else Rk r p k:=by
 have e:=getElem?_bubble (xs:=p) hs d hd k;have g:∀(q:Array Nat)(k:Nat),q.getD k 0=(q[k]?).getD 0:=λq k=>by simp
 show r ((bubble p src d).getD k 0)=_;rw[g,e];split
 ·show _=r (p.getD _ 0);rw[g]
 ·split
  ·show _=r (p.getD _ 0);rw[g]
  ·show _=r (p.getD _ 0);rw[g]
noncomputable def Up(r:Nat->Nat)(p:Array Nat)(k:Nat):Prop:=∀i j,i<=j->j<k->Rk r p i<=Rk r p j
noncomputable def Dn(r:Nat->Nat)(p:Array Nat)(k:Nat):Prop:=∀i j,i<=j->j<k->Rk r p j<=Rk r p i
variable{s:Vm}
theorem wU(hc:lN cmp r N s){p:Array Nat}(hp:PM N p){G:Nat->dj}:∀(f n:Nat),1<=n->n+f<=N->Up r p n->(∀m,n<=m->m<=n+f->Up r p m->(m=n+f\/Rk r p m<Rk r p (m-1))->G m s)->(kas_asc p f n).kasWp cmp G s
 |0,n,_,_,u,h=>h n (RB _) (RB _) u (.inl rfl)
 |f+1,n,h1,h2,u,h=>by
  refine hc _ _ _ (hp.lt ‹0›) (hp.lt ‹0›) ?_;by_cases q:Rk r p n<Rk r p (n-1)
  ·rw[decide_eq_true q];dsimp only;rw[if_pos rfl];exact h n (RB _) ‹0› u (.inr q)
  ·rw[decide_eq_false q];dsimp only;rw[if_neg RF];refine wU hc hp f (n+1) ‹0› ‹0› (λi j hij hj=>?_) λm a b=>?_
   ·by_cases hjn:j<n
    ·exact u i j hij hjn
    ·have ej:j=n:=(by omega);subst ej;by_cases ei:i=j
     ·subst ei;exact RB _
     ·have:=u i (j-1) ‹0› ‹0›
      omega
   ·intro um hm;exact h m ‹0› ‹0› um (by rcases hm with z|z;exact .inl ‹0›;exact .inr z)
theorem Br{p:Array Nat}{n q:Nat}(hn:n<=p.size)(hq:q+1<=n)(he:∀i,n-(q+1)<=i->i<n->Rk r p i=Rk r p (n-1))(k:Nat):Rk r (kas_rev p (n-(q+1)) n) k=Rk r p k:=by
 rw[ud hn];split
 ·rename_i h;rw[he _ ‹0› ‹0›,he k h.1 h.2]
 ·rfl
theorem qb(hc:lN cmp r N s){G:Array Nat×Nat×Nat->dj}:∀(f:Nat)(p:Array Nat)(n q:Nat),PM N p->1<=n->n+f<=N->Dn r p n->q+1<=n->(∀i,n-(q+1)<=i->i<n->Rk r p i=Rk r p (n-1))->
  (∀p' m q',PM N p'->n<=m->m<=n+f->Dn r p' m->q'+1<=m->(∀i,m-(q'+1)<=i->i<m->Rk r p' i=Rk r p' (m-1))->G (p',m,q') s)->(kas_desc f p n q).kasWp cmp G s
 |0,p,n,q,hp,_,_,d,hq,he,h=>h p n q hp (RB _) (RB _) d hq he
 |f+1,p,n,q,hp,h1,h2,d,hq,he,h=>by
  have hs:=hp.size;have step:∀p',(∀k,Rk r p' k=Rk r p k)->Rk r p n<=Rk r p (n-1)->Dn r p' (n+1):=λp' hk hl i j hij hj=>by
   rw[hk,hk];by_cases hjn:j<n
   ·exact d i j hij hjn
   ·have ej:j=n:=(by omega);subst ej;by_cases ei:i=j
    ·subst ei;exact RB _
    ·have:=d i (j-1) ‹0› ‹0›
     omega
  refine hc _ _ _ (hp.lt ‹0›) (hp.lt ‹0›) ?_;by_cases q1:Rk r p n<Rk r p (n-1)
  ·rw[decide_eq_true q1];dsimp only;rw[if_pos rfl];by_cases hq0:q>0
   ·rw[if_pos hq0];refine qb hc f _ (n+1) 0 (hp.rev _ _) ‹0› ‹0› (step _ (Br ‹0› hq he) ‹0›) ‹0› (λi a b=>by rw[show i=n+1-1 by omega]) λp' m q' a b c=>h p' m q' a ‹0› ‹0›
   ·rw[if_neg hq0];refine qb hc f _ (n+1) 0 hp ‹0› ‹0› (step _ (λ_=>rfl) ‹0›) ‹0› (λi a b=>by rw[show i=n+1-1 by omega]) λp' m q' a b c=>h p' m q' a ‹0› ‹0›
  ·rw[decide_eq_false q1];dsimp only;rw[if_neg RF];refine hc _ _ _ (hp.lt ‹0›) (hp.lt ‹0›) ?_;by_cases q2:Rk r p (n-1)<Rk r p n
   ·rw[decide_eq_true q2];dsimp only;rw[if_pos rfl];exact h p n q hp (RB _) ‹0› d hq he
   ·rw[decide_eq_false q2];dsimp only;rw[if_neg RF];refine qb hc f _ (n+1) (q+1) hp ‹0› ‹0› (step _ (λ_=>rfl) ‹0›) ‹0› (λi a b=>?_) λp' m q' a b c=>h p' m q' a ‹0› ‹0›;rw[show n+1-1=n by omega];by_cases ei:i=n
    ·subst ei;rfl
    ·have:=he i ‹0› ‹0›
     omega
theorem v7(hc:lN cmp r N s){p:Array Nat}(hp:PM N p){n:Nat}(h1:1<=n)(hn:n<=N)(d:Dn r p n){G:Nat×Array Nat->dj}(h:∀m p',PM N p'->1<=m->m<=N->Up r p' m->G (m,p') s):(kas_tail3 n N p).kasWp cmp G s:=by
 unfold kas_tail3;rw[KasT.kasWp_bind];have hs:=hp.size;refine wU hc (hp.rev 0 n) _ _ h1 ‹0› (λi j hij hj=>?_) λm a b u _=>h m _ (hp.rev 0 n) ‹0› ‹0› u;rw[ud ‹0›,ud ‹0›,if_pos ‹0›,if_pos ‹0›];exact d _ _ ‹0› ‹0›
theorem pc(hc:lN cmp r N s){p:Array Nat}(hp:PM N p){n:Nat}(hn:n+1<=N)(d:Dn r p (n+1)){G:Nat×Array Nat->dj}(h:∀m p',PM N p'->1<=m->m<=N->Up r p' m->G (m,p') s):(kas_descPart n N p).kasWp cmp G s:=by
 unfold kas_descPart;rw[KasT.kasWp_bind];refine qb hc _ _ _ _ hp ‹0› ‹0› d ‹0› (λi a b=>by rw[show i=n+1-1 by omega]) λp' m q' hp' a b d' hq he=>?_;have hs:=hp'.size;dsimp only;by_cases hq0:q'>0
 ·rw[if_pos hq0];refine v7 hc (hp'.rev _ _) ‹0› ‹0› (λi j hij hj=>?_) h;rw[Br ‹0› hq he,Br ‹0› hq he];exact d' i j hij hj
 ·rw[if_neg hq0];exact v7 hc hp' ‹0› ‹0› d' h
theorem Dl(hc:lN cmp r N s)(h1:1<=N){p:Array Nat}(hp:PM N p){G:Nat×Array Nat->dj}(h:∀m p',PM N p'->1<=m->m<=N->Up r p' m->G (m,p') s):(kas_count N p).kasWp cmp G s:=by
 unfold kas_count;rw[KasT.kasWp_bind];have hs:=hp.size;refine wU hc hp _ _ (RB _) ‹0› (λi j hij hj=>by rw[show i=j by omega];exact RB _) λn a b u hor=>?_;by_cases hn:n=N
 ·rw[if_pos (by simpa using hn)];exact h n p hp a ‹0› u
 ·rw[if_neg (by simpa using hn)];have hlt:Rk r p n<Rk r p (n-1):=by
   rcases hor with z|z
   ·omega
   ·exact z
  by_cases hg:n>1
  ·rw[if_pos hg];refine hc _ _ _ (hp.lt ‹0›) (hp.lt ‹0›) ?_;by_cases q:Rk r p 0<Rk r p (n-1)
   ·rw[decide_eq_true q];dsimp only;rw[if_pos rfl];exact h n p hp a ‹0› u
   ·rw[decide_eq_false q];dsimp only;rw[if_neg RF];have hall:∀k,k<n->Rk r p k=Rk r p (n-1):=λk hk=>by
     have a1:=u 0 k ‹0› hk;have a2:=u k (n-1) ‹0› ‹0›;omega
    have hr:∀k,Rk r (kas_rev p 0 n) k=Rk r p k:=λk=>by
     rw[ud ‹0›];split
     ·rename_i z;rw[hall _ ‹0›,hall k z.2]
     ·rfl
    refine pc hc (hp.rev _ _) ‹0› (λi j hij hj=>?_) h;rw[hr,hr];by_cases hjn:j<n
    ·rw[hall i ‹0›,hall j hjn];exact RB _
    ·have ej:j=n:=(by omega);subst ej;by_cases ei:i=j
     ·subst ei;exact RB _
     ·rw[hall i ‹0›];omega
  ·rw[if_neg hg];have en:n=1:=(by omega);subst en;refine pc hc hp ‹0› (λi j hij hj=>?_) h;by_cases ei:i=j
   ·subst ei;exact RB _
   ·have e0:i=0:=(by omega);have e1:j=1:=(by omega);subst e0 e1;exact Rr hlt
theorem qx(hc:lN cmp r N s){p:Array Nat}(hp:PM N p){k:Nat}(hk:k<N)(u:Up r p k){G:Nat->dj}(h:∀l,l<=k->(∀i,i<l->Rk r p i<=Rk r p k)->(∀i,l<=i->i<k->Rk r p k<Rk r p i)->G l s):
  ∀(f l t:Nat),t-l<=f->l<=t->t<=k->(∀i,i<l->Rk r p i<=Rk r p k)->(∀i,t<=i->i<k->Rk r p k<Rk r p i)->(kas_place p k f l t).kasWp cmp G s
 |0,l,t,a,b,c,d,e=>h l ‹0› d λi x y=>e i ‹0› y
 |f+1,l,t,a,b,c,d,e=>by
  unfold kas_place;by_cases hl:l>=t
  ·rw[if_pos hl];exact h l ‹0› d λi x y=>e i ‹0› y
  ·rw[if_neg hl];refine hc _ _ _ (hp.lt hk) (hp.lt ‹0›) ?_;by_cases q:Rk r p k<Rk r p ((l+t)/2)
   ·rw[decide_eq_true q];dsimp only;rw[if_pos rfl];refine qx hc hp hk u h f l ((l+t)/2) ‹0› ‹0› ‹0› d λi x y=>?_
    have:=u ((l+t)/2) i x y
    omega
   ·rw[decide_eq_false q];dsimp only;rw[if_neg RF];refine qx hc hp hk u h f ((l+t)/2+1) t ‹0› ‹0› ‹0› (λi x=>?_) e
    have:=u i ((l+t)/2) ‹0› ‹0›
    omega
theorem De(hc:lN cmp r N s){G:Array Nat->dj}(h:∀p,PM N p->Up r p N->G p s):∀(f:Nat)(p:Array Nat)(k:Nat),PM N p->k+f=N->Up r p k->(kas_bin f p k).kasWp cmp G s
 |0,p,k,hp,e,u=>h p hp (by rw[<-e];exact u)
 |f+1,p,k,hp,e,u=>by
  unfold kas_bin;rw[KasT.kasWp_bind];have hs:=hp.size;refine qx hc hp ‹0› u (λl hl d e'=>?_) k 0 k ‹0› (RM _) (RB _) (λi x=>by omega) λi x y=>by omega
  refine De hc h f _ (k+1) ((bubble_perm p k _).trans hp) ‹0› λi j hij hj=>?_;rw[AU ‹0› ‹0›,AU ‹0› ‹0›,show k-(k-l)=l by omega];have U:=u;by_cases i1:i=l
  ·rw[if_pos i1];by_cases j1:j=l
   ·rw[if_pos j1];exact RB _
   ·rw[if_neg j1,if_pos ‹0›];exact Rr (e' (j-1) ‹0› ‹0›)
  ·rw[if_neg i1];by_cases i2:l<i/\i<=k
   ·rw[if_pos i2,if_neg ‹0›,if_pos ‹0›];exact U _ _ ‹0› ‹0›
   ·rw[if_neg i2];by_cases j1:j=l
    ·rw[if_pos j1];exact d i ‹0›
    ·rw[if_neg j1];by_cases j2:l<j/\j<=k
     ·rw[if_pos j2];exact U _ _ ‹0› ‹0›
     ·rw[if_neg j2];exact U _ _ hij ‹0›
theorem G3(hc:lN cmp r N s)(h2:1<=N){G:Array Nat->dj}(h:∀p,PM N p->Up r p N->G p s):(kas_sort N).kasWp cmp G s:=by
 unfold kas_sort;rw[KasT.kasWp_bind];refine Dl hc h2 (Array.Perm.refl _) λm p' hp a b u=>?_;dsimp only;by_cases hm:m<N
 ·rw[if_pos hm,show max m 1=m by omega];exact De hc h _ p' m hp ‹0› u
 ·rw[if_neg hm];exact h p' hp (by rw[show N=m by omega];exact u)
end
section
variable{prog:Vo}{w:Vn}{A:Vu}{E:bT}{s:Vm}
theorem rR{a:Vj}{vs:bc}{n:Nat}{P:PySem.Fin->dj}{κ:SortKind}{r:Nat->Nat}(ho:s.heap.get? a=some (seqObj "list" vs.toArray n))(h64:vs.length<64)
  (hk:2<=vs.length->∀h':Vq,(∀b o,b≠a->s.heap.get? b=some o->h'.get? b=some o)->∀(Q:SortKind->dj),Q κ {s with heap:=h'}->Vx (model prog w) A (keyKind' vs.toArray) Q E {s with heap:=h'})
  (hr:2<=vs.length->∀h':Vq,(∀b o,b≠a->s.heap.get? b=some o->h'.get? b=some o)->lN (kas_ask prog w A κ vs) r vs.length {s with heap:=h'})
  (h:∀p:Array Nat,PM vs.length p->Up r p vs.length->P (.done (.ret .none)) {s with heap:=sortedHeap s.heap a vs (List.toArray (p.toList.map λi=>vs.getD i Value.none))}):
  Vx (model prog w) A (Builtin.«list.sort» ⟨[.ref a],[]⟩) P E s:=by
 rw[list_sort_plain];have ha:a<s.heap.objs.size:=UW ho;refine VF (listItems_at ho rfl ?_);refine VF (Wr ho rfl ?_ (by rw[RE,VQ];omega) (RM _));obtain⟨e1,ho1⟩:∃e1,(s.heap.update a (Obj.mapSeq λ_=>(#[]:Array Vh))).get? a=some (seqObj "list" #[] e1):=⟨_,get?_update_seq ho (λ_=>#[])⟩
 refine VF (seqEpoch_at ho1 rfl ?_);refine VF (wpAny_newTuple ?_ (by show vs.length<=_;rw[VQ];omega));refine VF (wpAny_newList ?_ (RM _));refine VG ?_;have ho6:(((s.heap.update a (Obj.mapSeq λ_=>(#[]:Array Vh))).push (seqObj "tuple" vs.toArray 0)).push (seqObj "list" #[] 0)).get? a=some (seqObj "list" #[] e1):=by
  rw[U4 _ _ _ (by rw[size_push',Heap.size_update];exact Rp (Sj ha)),U4 _ _ _ (by rw[Heap.size_update];exact Rp ha)];exact ho1
 have kept:∀b o,b≠a->s.heap.get? b=some o->(((s.heap.update a (Obj.mapSeq λ_=>(#[]:Array Vh))).push (seqObj "tuple" vs.toArray 0)).push (seqObj "list" #[] 0)).get? b=some o:=λb o hb e=>
  UY _ (UY _ (by rw[Heap.get?_update_ne _ _ _ _ hb];exact e))
 show Vx (model prog w) A _ P E {s with heap:=((s.heap.update a (Obj.mapSeq λ_=>(#[]:Array Vh))).push (seqObj "tuple" vs.toArray 0)).push (seqObj "list" #[] 0)};dsimp only;have hsz:vs.toArray.size=vs.length:=by simp
 by_cases h2:vs.toArray.size<2
 ·rw[if_pos h2,if_pos h2];refine VF (VI ?_);rw[StateT.run_pure];refine VF (VI ?_);dsimp only;refine VF (seqEpoch_at ho6 rfl ?_);have hout:(arrOf (SortSt.mk' general' (vs.toArray.zip vs.toArray) #[] 7 none)).map (·.2)=List.toArray ((List.toArray (List.range vs.length)).toList.map λi=>vs.getD i Value.none):=by
   refine kat_snds rfl ?_;show vs.toArray.zip vs.toArray=_;have e:=kas_range (vs.toArray.zip vs.toArray);rw[show(vs.toArray.zip vs.toArray).size=vs.length by simp]at e;exact e.symm
  rw[hout];refine VF (Wr ho6 rfl ?_ (RM _) (by rw[RE,RJ,VQ];simp;omega));simp only[bne_self_eq_false,Si,if_false];refine VI (h _ (Array.Perm.refl _) λi j hij hj=>?_)
  have:i=j:=by omega
  subst this;exact RB _
 ·rw[if_neg h2,if_neg h2];have h2':2<=vs.length:=by omega
  refine VF (hk h2' _ kept _ ?_);refine VF (Vz (kat_run (Q:=λst' s'=>∃p:Array Nat,arrOf st'=p.map (kas_item (vs.toArray.zip vs.toArray))/\failedOf st'=none/\PM vs.length p/\Up r p vs.length/\s'={s with heap:=((s.heap.update a (Obj.mapSeq λ_=>(#[]:Array Vh))).push (seqObj "tuple" vs.toArray 0)).push (seqObj "list" #[] 0)})
   (G:=λp s'=>PM vs.length p/\Up r p vs.length/\s'={s with heap:=((s.heap.update a (Obj.mapSeq λ_=>(#[]:Array Vh))).push (seqObj "tuple" vs.toArray 0)).push (seqObj "list" #[] 0)})
   rfl h2' h64 (λp' st' s' a1 a2 a3 a4=>⟨p',a2,a3,a4.1,a4.2.1,a4.2.2⟩) (G3 (hr h2' _ kept) ‹0› λp hp hu=>⟨hp,hu,rfl⟩)) ?_ λ_ _ e=>e)
  rintro⟨⟨⟩,st'⟩ s' ⟨p,har,hf,hp,hu,rfl⟩;dsimp only;refine VF (seqEpoch_at ho6 rfl ?_);have hout:=kat_snds rfl har;rw[hout];refine VF (Wr ho6 rfl ?_ (RM _) (by rw[RE,RJ,Array.length_toList,hp.size,VQ];omega));rw[hf];simp only[bne_self_eq_false,Si,if_false];exact VI (h p hp hu)
theorem qY{src:Vh}{vs:bc}{Q:bT}{κ:SortKind}{r:Nat->Nat}(h64:vs.length<64)
  (hcol:∀(Q':bc->dj),(∀h' tk,(∀b o,s.heap.get? b=some o->h'.get? b=some o)->Q' vs {s with heap:=h',toks:=tk})->Vx (model prog w) A.in1 (collect src) Q' E s)
  (hk:2<=vs.length->∀(h':Vq)(tk:Nat),(∀b o,s.heap.get? b=some o->h'.get? b=some o)->∀(Q:SortKind->dj),Q κ {s with heap:=h',toks:=tk}->Vx (model prog w) A.in1.in1 (keyKind' vs.toArray) Q E {s with heap:=h',toks:=tk})
  (hr:2<=vs.length->∀(h':Vq)(tk:Nat),(∀b o,s.heap.get? b=some o->h'.get? b=some o)->lN (kas_ask prog w A.in1.in1 κ vs) r vs.length {s with heap:=h',toks:=tk})
  (h:∀(p:Array Nat)(h1 h':Vq)(l:Vj)(e tk:Nat),PM vs.length p->Up r p vs.length->(∀b o,s.heap.get? b=some o->h1.get? b=some o)->(∀b o,h1.get? b=some o->h'.get? b=some o)->h1.objs.size<=l->h'.get? l=some (seqObj "list" (List.toArray (p.toList.map λi=>vs.getD i Value.none)) e)->Q (.ref l) {s with heap:=h',toks:=tk}):
  Vx (model prog w) A (call (.builtin "sorted") [src]) Q E s:=by
 refine Calls.call_function_entry kind_sorted plain_sorted entry_sorted (args_sorted1 _) ?_;unfold Builtin.«sorted»;refine VF (m:=checkCount "sorted" 1 1 _) (VI ?_);refine VF (hcol _ λh1 tk k1=>?_);refine VF (wpAny_newList ?_ (by rw[VQ];omega));have hoL:(h1.push (seqObj "list" vs.toArray 0)).get? h1.objs.size=some (seqObj "list" vs.toArray 0):=UZ _ rfl;have k2:∀b o,s.heap.get? b=some o->(h1.push (seqObj "list" vs.toArray 0)).get? b=some o:=λb o e=>UY _ (k1 b o e);have ne:∀b o,s.heap.get? b=some o->b≠h1.objs.size:=λb o e=>Rp (UW (k1 b o e));refine VF (VG (V9 slot_list_sort ⟨_,hoL,rfl⟩ entry_list_sort (rR (s:={s with heap:=h1.push (seqObj "list" vs.toArray 0),toks:=tk}) (r:=r) (κ:=κ) hoL h64
  (λh2 h' k=>hk h2 h' tk λb o e=>k b o (ne b o e) (k2 b o e)) (λh2 h' k=>hr h2 h' tk λb o e=>k b o (ne b o e) (k2 b o e)) λp hp hu=>⟨_,rfl,?_⟩) (args_list_sort _)))
 refine VI ⟨_,rfl,?_⟩;obtain⟨e,he⟩:=sortedHeap_at (vs:=vs) (out:=List.toArray (p.toList.map λi=>vs.getD i Value.none)) hoL;exact h p h1 _ h1.objs.size e tk hp hu k1 (λb o q=>by rw[sortedHeap_old (Rp (UW q)) (by rw[size_push'];exact Sj (UW q))];exact UY _ q) (RB _) he
end
noncomputable def dG:D->List D
 |.tup ks=>ks
 |_=>[]
noncomputable def oneOf(d:D):List D:=[d]
noncomputable def IL(xs:List D):Prop:=xs.length<64/\∃σ:List Bool,σ≠[]/\(∀x∈xs,∃k,x=.tup k/\Sh σ k)/\xs.Pairwise λx y=>dG x≠dG y
noncomputable def L7(xs:List D):Prop:=xs.length<64/\∃b:Bool,(∀x∈xs,Sh [b] [x])/\xs.Pairwise λx y=>oneOf x≠oneOf y
open Classical in
noncomputable def pp(xs:List D):bu:=if IL xs then some (.lst (kg dG xs))else if L7 xs then some (.lst (kg oneOf xs))else none
noncomputable def gK:List D->bu
 |[.lst xs]=>pp xs
 |[.tup xs]=>pp xs
 |_=>none
theorem vB{prog:Vo}{w:Vn}{A:Vu}{s:Vm}{Q:Bool->dj}{fin:Bool}(hf:fin=false){σ:List Bool}{ns ms:List D}{xs ys:bc}{i:Nat}(h1:Sh σ ns)(h2:Sh σ ms)(f1:gk xs ns)(f2:gk ys ms)(h:Q (kLt ns ms) s):KatLex prog w A true fin Q (xs.zip ys) i s:=by
 induction h1 generalizing ms xs ys i with
 |nil=>
  cases h2;cases f1;cases f2;subst hf;exact kat_nil (by simpa [kLt,dW]using h)
 |int a h1 ih=>
  cases h2 with|int c h2=>
  cases f1 with|int _ t f1=>
  cases f2 with|int _ u f2=>
  rw[S8];obtain⟨e,he,hiff⟩:=Hc A s a t c u;refine kat_cons (he prog w _ _ ?_);cases e with
  |true=>
   have ac:=hiff.mp rfl;refine kat_yes (ih h2 f1 f2 ?_);unfold kLt at h ⊢;rw[qi,if_pos ac]at h;exact h
  |false=>
   have ac:¬a=c:=λq=>absurd (hiff.mpr q) RF;have h':Q (decide (a<c)) s:=by
    unfold kLt at h;rw[qi,if_neg ac]at h;cases hd:decide (a<c)<;>rw[hd]at h<;>exact h
   refine kat_no ?_;cases hi:(i==0)with
   |true=>exact oneLt_int h'
   |false=>exact kat_one _ _ (PySem.P.lt_int (show UR Q (.bool _) s from h'))
 |str a h1 ih=>
  cases h2 with|str c h2=>
  cases f1 with|str _ t f1=>
  cases f2 with|str _ u f2=>
  rw[S8];obtain⟨e,he,hiff⟩:=Hm A s a t c u;refine kat_cons (he prog w _ _ ?_);cases e with
  |true=>
   have ac:=hiff.mp rfl;refine kat_yes (ih h2 f1 f2 ?_);unfold kLt at h ⊢;rw[qJ,if_pos ac]at h;exact h
  |false=>
   have ac:¬a=c:=λq=>absurd (hiff.mpr q) RF;have h':Q (decide (a.cps.toList<c.cps.toList)) s:=by
    unfold kLt at h;rw[qJ,if_neg ac]at h;cases hd:decide (a.cps.toList<c.cps.toList)<;>rw[hd]at h<;>exact h
   refine kat_no ?_;cases hi:(i==0)with
   |true=>exact oneLt_str h'
   |false=>exact kat_one _ _ (PySem.P.lt_str (show UR Q (.bool _) s from h'))
theorem qu{h:Vq}{PT:Vh->Prop}:∀{its:bc},(∀v∈its,∃a o xs n f,v=.ref a/\h.get? a=some o/\o.cls=.type "tuple"/\o.data=.seq xs n/\xs[0]?=some f/\PT f)->∃fs,KatTups h its fs/\fs.length=its.length/\∀f∈fs,PT f
 |[],_=>⟨[],.nil,rfl,λ_ h=>nomatch h⟩
 |v::its,hh=>by
  obtain⟨a,o,xs,n,f,rfl,h1,h2,h3,h4,h5⟩:=hh v Ru;obtain⟨fs,k1,k2,k3⟩:=qu (its:=its) λu hu=>hh u (Rv _ hu);refine⟨f::fs,.cons h1 h2 h3 h4 k1,by rw[RG,RG,k2],λg hg=>?_⟩;rcases List.mem_cons.mp hg with rfl|z
  ·exact h5
  ·exact k3 g z
theorem gk.first{σ:List Bool}{b:Bool}{xs:bc}{ns:List D}(f:gk xs ns)(h:Sh (b::σ) ns):∃v,xs[0]?=some v/\typeOf v=pure (.type (if b then"int"else"str")):=by
 cases f with
 |nil=>cases h
 |int i t f=>cases h;exact⟨_,rfl,rfl⟩
 |str i t f=>cases h;exact⟨_,rfl,rfl⟩
theorem uY{key:D->List D}{σ:List Bool}{ds:List D}(h:∀x∈ds,Sh σ (key x))(pw:ds.Pairwise λx y=>key x≠key y){p:Array Nat}(hp:PM ds.length p)(hu:Up (rank (ds.map key)) p ds.length):p.toList.map (λi=>ds.getD i .non)=kg key ds:=by
 have hr:p.toList.Perm (List.range ds.length):=by
  have:=Array.perm_iff_toList_perm.mp hp
  simpa using this
 have hmap:(List.range ds.length).map (λi=>ds.getD i .non)=ds:=by
  apply List.ext_getElem
  ·simp
  ·intro i h1 h2;simp at h1;simp[h1]
 have hperm:(p.toList.map λi=>ds.getD i .non).Perm ds:=by
  have:=hr.map (λi=>ds.getD i .non)
  rwa [hmap]at this
 have hn:p.toList.Nodup:=hr.nodup_iff.mpr List.nodup_range;refine(DG h pw ?_ hperm).symm;have hl:p.toList.length=ds.length:=by rw[hr.length_eq,SL]
 have kd:∀i,i<ds.length->(ds.map key).getD i []=key (ds.getD i .non):=λi hi=>by simp[hi]
 have hsh:∀k∈ds.map key,Sh σ k:=λk hk=>by
  obtain⟨x,hx,rfl⟩:=List.mem_map.mp hk;exact h x hx
 unfold vA;rw[Ts,List.pairwise_iff_getElem];intro i j hi hj hij;have hi':p.toList[i]<ds.length:=by simpa using hr.mem_iff.mp (Tr hi)
 have hj':p.toList[j]<ds.length:=by simpa using hr.mem_iff.mp (Tr hj)
 have ne:p.toList[i]≠p.toList[j]:=List.pairwise_iff_getElem.mp hn i j hi hj hij;have up:=hu i j ‹0› ‹0›;have gi:p.getD i 0=p.toList[i]:=by
  have:i<p.size:=by rw[<-Array.length_toList];exact hi
  simp[Array.getD,this]
 have gj:p.getD j 0=p.toList[j]:=by
  have:j<p.size:=by rw[<-Array.length_toList];exact hj
  simp[Array.getD,this]
 unfold Rk at up;rw[gi,gj]at up;have rl:=uy hsh (i:=p.toList[j]) (j:=p.toList[i]) (by rw[RJ];exact hj') (by rw[RJ];exact hi');rw[kd _ hj',kd _ hi',decide_eq_false ‹0›]at rl;have ei:ds.getD p.toList[i] .non=ds[p.toList[i]]:=by rw[Tt,Sz hi'];rfl
 have ej:ds.getD p.toList[j] .non=ds[p.toList[j]]:=by rw[Tt,Sz hj'];rfl
 have s1:=h _ (show ds.getD p.toList[i] .non∈ds by rw[ei];exact Tr hi');have s2:=h _ (show ds.getD p.toList[j] .non∈ds by rw[ej];exact Tr hj');rcases pZ s1 s2 with⟨z,_⟩|z|⟨z,_⟩
 ·exact z
 ·exfalso;have pw':=List.pairwise_iff_getElem.mp pw;rw[ei,ej]at z;rcases Nat.lt_or_gt_of_ne ne with q|q
  ·exact pw' _ _ hi' hj' q z
  ·exact pw' _ _ hj' hi' q z.symm
 ·rw[Fa.mpr z]at rl;cases rl
theorem sQ{vs:aF}{us:bc}(r:Vals vs us):∀l:List Nat,(∀i∈l,i<vs.length)->Vals (l.map λi=>vs.getD i .non) (l.map λi=>us.getD i Value.none)
 |[],_=>.nil
 |i::l,h=>by
  have hi:=h i Ru;obtain⟨u,e,q⟩:=r.get (i:=i) (x:=vs[i]) (by simp[hi]);refine .cons ?_ (sQ r l λj hj=>h j (Rv _ hj));have e1:vs.getD i .non=vs[i]:=by simp[hi]
  have e2:us.getD i Value.none=u:=by simp[Tt,e]
  show L2.RelV (vs.getD i .non) (us.getD i Value.none);rw[e1,e2];exact q
theorem sF{K:Ug}{H:Hp}{ds:List D}{vs:aF}(g:aB K H ds vs):∀l:List Nat,(∀i∈l,i<ds.length)->aB K H (l.map λi=>ds.getD i .non) (l.map λi=>vs.getD i .non)
 |[],_=>cf.mpr rfl
 |i::l,h=>by
  have hi:=h i Ru;obtain⟨v,e,q⟩:=g.get (i:=i) (d:=ds[i]) (by simp[hi]);refine aK.mpr ⟨_,_,rfl,?_,sF g l λj hj=>h j (Rv _ hj)⟩;have e1:ds.getD i .non=ds[i]:=by simp[hi]
  have e2:vs.getD i .non=v:=by simp[Tt,e]
  show b9 K H (ds.getD i .non) (vs.getD i .non);rw[e1,e2];exact q
section
variable{X:Cx}{pins:bh}{s:Vm}{σ:L2.St}{H:Hp}{O:aA}
theorem sU{u:Vh}{ds:List D}{vs:aF}{its:bc}{d:D}{Q:VK}(I:Inv X pins σ H s)(hO:dz H O)(dn:aB X.K (hid H O) ds vs)(rv:Vals vs its)(hs:pp ds=some d)
  (hcol:∀(Q':bc->dj),(∀h' tk,(∀b o,s.heap.get? b=some o->h'.get? b=some o)->Q' its {s with heap:=h',toks:=tk})->Vx (model X.prog X.w) X.A.in1 (collect u) Q' X.xe s)
  (q:∀v H',bj H H'->b9 X.K (hid H' O) d v->Q v H'):Vx (model X.prog X.w) X.A (call (.builtin "sorted") [u]) (EP X pins σ Q) X.xe s:=by
 have l1:=dn.length;have l2:=rv.length;have fin:∀(key:D->List D)(σ':List Bool),(∀x∈ds,Sh σ' (key x))->ds.Pairwise (λx y=>key x≠key y)->ds.length<64->d=.lst (kg key ds)->∀(p:Array Nat)(h1 h':Vq)(l:Vj)(e tk:Nat),PM its.length p->Up (rank (ds.map key)) p its.length->(∀b o,s.heap.get? b=some o->h1.get? b=some o)->(∀b o,h1.get? b=some o->h'.get? b=some o)->h1.objs.size<=l->
   h'.get? l=some (seqObj "list" (List.toArray (p.toList.map λi=>its.getD i Value.none)) e)->EP X pins σ Q (.ref l) {s with heap:=h',toks:=tk}:=by
  intro key σ' hsh pw h64 ed p h1 h' l e tk hp hu k1 k2 hl he;have el:its.length=ds.length:=by omega
  rw[el]at hp hu;have ps:=uY hsh pw hp hu;have hr:p.toList.Perm (List.range ds.length):=by
   have:=Array.perm_iff_toList_perm.mp hp
   simpa using this
  have hlt:∀i∈p.toList,i<ds.length:=λi hi=>by simpa using hr.mem_iff.mp hi
  have I1:Inv X pins σ H {s with heap:=h1,toks:=tk}:=I.kept k1;have hn:H l=none:=I1.hok.fresh hl;have rv':=sQ rv p.toList λi hi=>by have:=hlt i hi;omega
  have dn':=sF dn p.toList hlt;have hlen:p.toList.length=ds.length:=by rw[hr.length_eq,SL]
  refine⟨.ref l,_,Inv.laid (s:={s with heap:=h1,toks:=tk}) (t':=tk) I1 k2 hl (show cG X.prog X.w _ h' _ (.lst (p.toList.map λi=>vs.getD i .non))from⟨by rw[RJ,hlen,VQ];omega,_,e,rv',he⟩),rfl,?_⟩;refine q _ _ (bQ hn _) ?_;rw[ed,<-ps];exact cZ hO hn dn'
 unfold pp at hs;split at hs
 ·rename_i h;cases hs;obtain⟨h64,σ',hσ,hsh,pw⟩:=h;obtain⟨b,σ1,rfl⟩:∃b σ1,σ'=b::σ1:=by
   cases σ' with
   |nil=>exact absurd rfl hσ
   |cons b σ1=>exact⟨b,σ1,rfl⟩
  have hsh':∀x∈ds,Sh (b::σ1) (dG x):=λx hx=>by
   obtain⟨k,rfl,hk⟩:=hsh x hx;exact hk
  have at':∀i (hi:i<ds.length),∃a o xs n,its[i]?=some (.ref a)/\s.heap.get? a=some o/\o.cls=.type "tuple"/\o.data=.seq xs n/\gk xs.toList (dG ds[i]):=λi hi=>by
   obtain⟨v,e1,dv⟩:=dn.get (i:=i) (d:=ds[i]) (by simp[hi]);obtain⟨w,e2,rw'⟩:=rv.get e1;obtain⟨k,ek,hk⟩:=hsh _ (Tr hi);rw[ek]at dv ⊢;obtain⟨a,ws,rfl,ha,dk⟩:=bW.mp dv;cases rw';obtain⟨it2,r2,⟨o,ho,hc,n,hd⟩,_⟩:=I.tuple (bX (au H O) ha);exact⟨a,o,_,n,e2,ho,hc,hd,by simpa [dG]using j7 (uA hk) dk r2⟩
  refine qY (κ:=tuples' true) (r:=rank (ds.map dG)) ‹0› hcol (λh2 h' tk kp Q' hQ=>?_) (λh2 h' tk kp i j C hi hj hC=>?_) (fin dG _ hsh' pw h64 rfl)
  ·obtain⟨fs,t1,t2,t3⟩:=qu (h:=h') (PT:=λf=>typeOf f=pure (.type (if b then"int"else"str"))) (its:=its) λv hv=>by
    obtain⟨i,hi,rfl⟩:=SG hv;obtain⟨a,o,xs,n,e1,ho,hc,hd,ff⟩:=at' i ‹0›;obtain⟨f,ef,tf⟩:=ff.first (hsh' _ (Tr _));refine⟨a,o,xs,n,f,?_,kp _ _ ho,hc,hd,by simpa using ef,tf⟩
    have:=Sz hi
    rw[e1]at this;exact(Option.some.inj this).symm
   refine kat_kind (T:=.type (if b then"int"else"str")) t1 ‹0› (λf hf=>Looks.of_pure (t3 f hf)) (by cases b<;>rfl) ?_
   have:(Value.type (if b then"int"else"str") !=Value.type "tuple")=true:=(by cases b<;>rfl);rw[this];exact hQ
  ·obtain⟨a,o,xs,n,e1,ho,hc,hd,ff⟩:=at' i ‹0›;obtain⟨a2,o2,xs2,n2,e2,ho2,hc2,hd2,ff2⟩:=at' j ‹0›;unfold kas_ask;have g1:its.getD i Value.none=.ref a:=(by simp[Tt,e1]);have g2:its.getD j Value.none=.ref a2:=(by simp[Tt,e2]);rw[g1,g2];have hi':i<ds.length:=(by omega);have hj':j<ds.length:=(by omega);have sh1:=hsh' _ (Tr hi');have sh2:=hsh' _ (Tr hj');have rl:=uy (ks:=ds.map dG) (σ:=b::σ1) (λk hk=>by obtain⟨x,hx,rfl⟩:=List.mem_map.mp hk;exact hsh' x hx) (i:=i) (j:=j) (by rw[RJ];exact hi') (by rw[RJ];exact hj');have k1:(ds.map dG).getD i []=dG ds[i]:=(by simp[hi']);have k2:(ds.map dG).getD j []=dG ds[j]:=(by simp[hj']);rw[k1,k2]at rl;rw[rl]at hC;refine kat_lt (kp _ _ ho) hd (kp _ _ ho2) hd2 (vB ?_ sh1 sh2 ff ff2 hC);have z1:xs.size=(dG ds[i]).length:=(by have:=ff.length;simpa using this);have z2:xs2.size=(dG ds[j]).length:=(by have:=ff2.length;simpa using this);have z3:(dG ds[i]).length=(dG ds[j]).length:=(by rw[Sh.length sh1,Sh.length sh2]);exact decide_eq_false ‹0›
 ·split at hs
  ·rename_i _ h;cases hs;obtain⟨h64,b,hsh,pw⟩:=h;have at':∀i (hi:i<ds.length),(∃(n:Int)(t:Tok),b=true/\its[i]?=some (.int n t)/\ds[i]=.int n)\/∃(x:Str)(t:Tok),b=false/\its[i]?=some (.str x t)/\ds[i]=.str x:=λi hi=>by
    obtain⟨v,e1,dv⟩:=dn.get (i:=i) (d:=ds[i]) (by simp[hi]);obtain⟨w,e2,rw'⟩:=rv.get e1;have hk:=hsh _ (Tr hi);generalize ds[i]=di at dv hk;cases hk with
    |int n _=>
     rw[eS]at dv;subst dv;obtain⟨t,rfl⟩:=rw';exact .inl ⟨n,t,rfl,e2,rfl⟩
    |str x _=>
     rw[eD]at dv;subst dv;obtain⟨t,rfl⟩:=rw';exact .inr ⟨x,t,rfl,e2,rfl⟩
   refine qY (κ:=oneType') (r:=rank (ds.map oneOf)) ‹0› hcol (λh2 h' tk kp Q' hQ=>?_) (λh2 h' tk kp i j C hi hj hC=>?_) (fin oneOf [b] hsh pw h64 rfl)
   ·refine kas_kind (T:=.type (if b then"int"else"str")) h2 (λv hv=>?_) (by cases b<;>rfl) (by cases b<;>rfl) hQ;obtain⟨i,hi,rfl⟩:=SG hv;have hg:=Sz hi;rcases at' i ‹0›with⟨n,t,rfl,e,_⟩|⟨x,t,rfl,e,_⟩
    ·rw[hg]at e;rw[Option.some.inj e];exact Looks.of_pure rfl
    ·rw[hg]at e;rw[Option.some.inj e];exact Looks.of_pure rfl
   ·have hi':i<ds.length:=(by omega);have hj':j<ds.length:=(by omega);unfold kas_ask;have rl:=uy (ks:=ds.map oneOf) (σ:=[b]) (λk hk=>by obtain⟨x,hx,rfl⟩:=List.mem_map.mp hk;exact hsh x hx) (i:=i) (j:=j) (by rw[RJ];exact hi') (by rw[RJ];exact hj');have k1:(ds.map oneOf).getD i []=[ds[i]]:=(by simp[hi',oneOf]);have k2:(ds.map oneOf).getD j []=[ds[j]]:=(by simp[hj',oneOf]);rw[k1,k2]at rl;rw[rl]at hC;rcases at' i hi' with⟨n,t,hb,e1,q1⟩|⟨x,t,hb,e1,q1⟩
    ·rcases at' j hj' with⟨n2,t2,hb2,e2,q2⟩|⟨x2,t2,hb2,e2,q2⟩
     ·have g1:its.getD i Value.none=.int n t:=(by simp[Tt,e1]);have g2:its.getD j Value.none=.int n2 t2:=(by simp[Tt,e2]);rw[g1,g2,keyLt'_oneType];refine oneLt_int ?_;rw[q1,q2]at hC;unfold kLt at hC;rw[qi]at hC;by_cases z:n=n2
      ·rw[if_pos z]at hC;rw[decide_eq_false ‹0›];exact hC
      ·rw[if_neg z]at hC;cases hd:decide (n<n2)<;>rw[hd]at hC<;>exact hC
     ·rw[hb]at hb2;cases hb2
    ·rcases at' j hj' with⟨n2,t2,hb2,e2,q2⟩|⟨x2,t2,hb2,e2,q2⟩
     ·rw[hb]at hb2;cases hb2
     ·have g1:its.getD i Value.none=.str x t:=(by simp[Tt,e1]);have g2:its.getD j Value.none=.str x2 t2:=(by simp[Tt,e2]);rw[g1,g2,keyLt'_oneType];refine oneLt_str ?_;rw[q1,q2]at hC;unfold kLt at hC;rw[qJ]at hC;by_cases z:x=x2
      ·rw[if_pos z]at hC;rw[decide_eq_false (by rw[z];exact qm _)];exact hC
      ·rw[if_neg z]at hC;cases hd:decide (x.cps.toList<x2.cps.toList)<;>rw[hd]at hC<;>exact hC
  ·cases hs
theorem uj:dg X (.builtin "sorted") (wn X.K gK):=by
 rintro pins s σ H xs us Q I r ⟨O,ds,d,hO,hd,hg,q⟩;unfold gK at hg;split at hg
 ·obtain⟨v,rfl,h1⟩:=hd.one;obtain⟨p,ws,rfl,g1,g2⟩:=b8.mp h1;obtain⟨u,rfl,ru⟩:=vals1 r;cases ru;obtain⟨its,rv,pl,hz⟩:=I.list ((au H O).seq g1);have hlen:=rv.length;obtain⟨o,ho,hc,n,hd'⟩:=pl.isList;exact sU I hO g2 rv hg (λQ' hQ=>wpAny_collect_seq p (.inl rfl) ho hc hd' (λh' k=>by simpa using hQ h' s.toks k) (by simp only[RE]<;>omega)) q
 ·obtain⟨v,rfl,h1⟩:=hd.one;obtain⟨p,ws,rfl,g1,g2⟩:=bW.mp h1;obtain⟨u,rfl,ru⟩:=vals1 r;cases ru;obtain⟨its,rv,⟨o,ho,hc,n,hd'⟩,hz⟩:=I.tuple (bX (au H O) g1);have hlen:=rv.length;exact sU I hO g2 rv hg (λQ' hQ=>wpAny_collect_seq p (.inr rfl) ho hc hd' (λh' k=>by simpa using hQ h' s.toks k) (by simp only[RE]<;>omega)) q
 ·cases hg
end
end TG
namespace TG
open PySem PySem.Spec L2
variable[aw]
section
variable{X:Cx}{tg:Vk}
end
end TG
namespace TG
open PySem PySem.Spec L2
variable[aw]
end TG
namespace TG
open PySem PySem.Spec L2
variable[aw]
end TG
namespace TG
open PySem PySem.Spec L2
variable[aw]
noncomputable def keyOf:D->Option Key
 |.int i=>some (.inl i)
 |.str x=>some (.inr x)
 |_=>none
noncomputable def keysOf:List D->Option (List Key)
 |[]=>some []
 |d::r=>(keyOf d).bind λk=>(keysOf r).map (k::·)
noncomputable def mO:D->Option (List Key)
 |.tup ds=>keysOf ds
 |_=>none
theorem kG{d:D}{k:Key}(h:keyOf d=some k):d=bm k:=by
 cases d with
 |int i=>cases h;rfl
 |str x=>cases h;rfl
 |_=>cases h
theorem kZ:∀{ds:List D}{ks:List Key},keysOf ds=some ks->ds=ks.map bm
 |[],_,h=>by cases h;rfl
 |d::r,ks,h=>by
  unfold keysOf at h;cases e1:keyOf d with
  |none=>rw[e1]at h;cases h
  |some k=>
   rw[e1]at h;cases e2:keysOf r with
   |none=>rw[e2]at h;cases h
   |some ks'=>rw[e2]at h;cases h;rw[kG e1,kZ e2];rfl
theorem t9{d:D}{k:List Key}(h:mO d=some k):d=.tup (k.map bm):=by
 cases d with
 |tup ds=>rw[kZ (show keysOf ds=some k from h)]
 |_=>cases h
theorem cC:∀ks:List Key,keysOf (ks.map bm)=some ks
 |[]=>rfl
 |k::r=>by
  show(keyOf (bm k)).bind _=_;have e:keyOf (bm k)=some k:=by cases k<;>rfl
  rw[e];show(keysOf (r.map bm)).map (k::·)=_;rw[cC r];rfl
theorem jo{K:Ug}{H:Hp}{k:Key}{v:V}(h:b9 K H (bm k) v):v=kV k:=by
 cases k with
 |inl i=>exact eS.mp h
 |inr x=>exact eD.mp h
theorem nS{K:Ug}{H:Hp}:∀{ks:List Key}{vs:aF},aB K H (ks.map bm) vs->vs=ks.map kV
 |[],vs,h=>by rw[R7,cf]at h;exact h
 |k::r,vs,h=>by
  rw[RH,aK]at h;obtain⟨v,r',e1,h1,h2⟩:=h;rw[e1,jo h1,nS h2];rfl
section
variable{P:Vo}{w:Vn}{H H':Hp}{h:Vq}{a:Vj}
theorem Bh(x:cG P w H h a (.dK [])):cG P w H' h a (.dT []):=by
 obtain⟨z,hd,vs,rel,o,es,ep,h1,h2,h3,h4,h5,h6⟩:=x;have e:vs=[]:=by have:=rel.length;simpa using this.symm
 subst e;refine⟨RM _,hd,[],.nil,o,es,ep,h1,h2,h3,?_,by simp⟩
 have:=h5.length
 simpa using this
theorem vc(x:cG P w H h a (.dT [])):cG P w H' h a (.dK []):=by
 obtain⟨z,hd,xs,rel,o,es,ep,h1,h2,h3,h4,h5⟩:=x;have e:xs=[]:=by have:=rel.length;simpa using this.symm
 subst e;have e2:es=#[]:=by simpa using h4
 subst e2;exact⟨RM _,hd,[],.nil,o,#[],ep,h1,h2,h3,λe he=>by simp at he,.nil,by simp⟩
end
section
variable{X:Cx}{pins:bh}{σ:St}{H:Hp}{s:Vm}{a:Vj}
theorem Ij(I:Inv X pins σ H s)(h1:H a=some (.dK [])):Inv X pins σ (upd H a (.dT [])) s:=by
 have hx:=I.hok a _ h1;have hq:∃q,s.heap.get? a=some q:=by obtain⟨_,_,_,_,o,_,_,e,_⟩:=id hx;exact⟨o,e⟩
 exact mZ (ob:=.dT []) (h':=s.heap) (t':=s.toks) I (by rw[h1];exact trivial) ⟨rfl,λ_ _=>rfl⟩ hq (Bh hx)
theorem Kz(I:Inv X pins σ H s)(h1:H a=some (.dT [])):Inv X pins σ (upd H a (.dK [])) s:=by
 have hx:=I.hok a _ h1;have hq:∃q,s.heap.get? a=some q:=by obtain⟨_,_,_,_,o,_,_,e,_⟩:=id hx;exact⟨o,e⟩
 exact mZ (ob:=.dK []) (h':=s.heap) (t':=s.toks) I (by rw[h1];exact trivial) ⟨rfl,λ_ _=>rfl⟩ hq (vc hx)
end
theorem Dk{H:Hp}{a:Vj}{o1 o2:HO}(h:H a=some o1):upd (upd H a o2) a o1=H:=by
 funext b;by_cases e:b=a
 ·subst e;rw[aH,h]
 ·rw[aM e,aM e]
noncomputable def qU:List D->List D->Option (dP)
 |[],[]=>some []
 |k::ks,d::ds=>(mO k).bind λk=>(qU ks ds).map ((k,d)::·)
 |_,_=>none
noncomputable abbrev encK(al:dP):List D:=al.map λp=>.tup (p.1.map bm)
noncomputable abbrev jt(al:dP):D:=.dct (encK al) (al.map (·.2))
theorem pN:∀{ks ds:List D}{al:dP},qU ks ds=some al->ks=encK al/\ds=al.map (·.2)
 |[],[],_,h=>by cases h;exact⟨rfl,rfl⟩
 |k::ks,d::ds,al,h=>by
  unfold qU at h;cases e1:mO k with
  |none=>rw[e1]at h;cases h
  |some k'=>
   rw[e1]at h;cases e2:qU ks ds with
   |none=>rw[e2]at h;cases h
   |some al'=>
    rw[e2]at h;cases h;obtain⟨h1,h2⟩:=pN e2;rw[t9 e1,h1,h2];exact⟨rfl,rfl⟩
 |[],_::_,_,h=>by cases h
 |_::_,[],_,h=>by cases h
theorem qq:∀al:dP,qU (encK al) (al.map (·.2))=some al
 |[]=>rfl
 |p::r=>by
  show(mO (.tup (p.1.map bm))).bind _=_;have e:mO (.tup (p.1.map bm))=some p.1:=cC p.1;rw[e];show(qU (encK r) (r.map (·.2))).map ((p.1,p.2)::·)=_;rw[qq r];rfl
theorem mK:∀{al:dP}{ks:List (List Key)},encK al=ks.map (λk=>.tup (k.map bm))->al.map (·.1)=ks
 |[],[],_=>rfl
 |p::r,k::ks,h=>by
  have h:D.tup (p.1.map bm)::encK r=D.tup (k.map bm)::ks.map (λk=>.tup (k.map bm)):=h;injection h with h1 h2;injection h1 with h1;have e:some p.1=some k:=by rw[<-cC p.1,h1,cC k]
  rw[RH,Option.some.inj e,mK h2]
 |[],_::_,h=>by cases h
 |_::_,[],h=>by cases h
theorem Oq{K:Ug}{H:Hp}{O:aA}{a:Vj}{al:dP}(h:gu K H O a (jt al)):
  (∃kvs:List (List Key×V),H a=some (.dT kvs)/\kvs.map (·.1)=al.map (·.1)/\aB K (hid H O) (al.map (·.2)) (kvs.map (·.2)))\/(H a=some (.dK [])/\al=[]):=by
 obtain⟨o,vs,h1,h2,h3⟩:=h;rcases h3 with⟨kvs,e,e1,e2⟩|⟨kvs,e,e1,e2⟩
 ·subst e;cases kvs with
  |nil=>
   refine .inr ⟨h1,?_⟩
   simpa using e1
  |cons p r=>
   cases al with
   |nil=>cases e1
   |cons q r'=>
    have e1:D.tup (q.1.map bm)::encK r'=bm p.1::r.map (λp=>bm p.1):=e1;injection e1 with e1 _;rcases p with⟨k,v⟩
    cases k<;>cases e1
 ·subst e;refine .inl ⟨kvs,h1,?_,by rw[<-e2];exact h2⟩;exact(mK (ks:=kvs.map (·.1)) (by rw[Tu];exact e1)).symm
noncomputable def K9(ks ds:List D)(k:D):bu:=(qU ks ds).bind λal=>(mO k).bind λk=>some (.bl (al.any λp=>decide (p.1=k)))
noncomputable def QD(i:Nat)(f:FX):FX:=λρ=>(f ρ).bind λk=>match ρ[i]? with
 |some (some (.own (.dct ks ds)))=>rO (K9 ks ds k)
 |_=>un
noncomputable def jU(al:dP)(k:List Key)(v:D):dP:=if(al.any λp=>decide (p.1=k))=true then al.map (λp=>if p.1=k then(p.1,v)else p)else al++[(k,v)]
noncomputable def tx(ks ds:List D)(k v:D):Option (dP):=(qU ks ds).bind λal=>(mO k).bind λk=>if small al.length then some (jU al k v)else none
noncomputable def rY(i:Nat)(fk fv:FX):bN:=λk ρ=>match ρ[i]? with
 |some (some (.own (.dct ks ds)))=>o8 ((fv ρ).bind λv=>(fk ρ).bind λq=>rO (tx ks ds q v)) k ρ λal=>k.nx (ρ.set i (some (.own (jt al))))
 |_=>un
theorem wK{ks ds:List D}{k v:D}{al':dP}(h:tx ks ds k v=some al'):∃al q,ks=encK al/\ds=al.map (·.2)/\k=.tup (q.map bm)/\small al.length=true/\al'=jU al q v:=by
 unfold tx at h;cases e1:qU ks ds with
 |none=>rw[e1]at h;cases h
 |some al=>
  rw[e1]at h;cases e2:mO k with
  |none=>rw[e2]at h;cases h
  |some q=>
   rw[e2]at h;obtain⟨h3,h4⟩:=aZ (show(if small al.length then some (jU al q v)else none)=some al' from h);obtain⟨h1,h2⟩:=pN e1;exact⟨al,q,h1,h2,t9 e2,h3,h4.symm⟩
theorem B5{kvs:List (List Key×V)}{al:dP}(e:kvs.map (·.1)=al.map (·.1))(k:List Key)(w:V)(d:D):(putK kvs k w).map (·.1)=(jU al k d).map (·.1):=by
 have e2:(kvs.any λp=>decide (p.1=k))=(al.any λp=>decide (p.1=k)):=by
  have:=congrArg (λl=>l.any λq=>decide (q=k)) e
  simpa [Tf,Function.comp_def]using this
 unfold putK jU;rw[e2];split
 ·have e3:∀(l:List (List Key×V)),(l.map λkv=>if kv.1=k then(kv.1,w)else kv).map (·.1)=l.map (·.1):=λl=>by
   rw[Tu];refine SJ λp _=>?_;show(if p.1=k then(p.1,w)else p).1=p.1;split<;>rfl
  have e4:∀(l:dP),(l.map λkv=>if kv.1=k then(kv.1,d)else kv).map (·.1)=l.map (·.1):=λl=>by
   rw[Tu];refine SJ λp _=>?_;show(if p.1=k then(p.1,d)else p).1=p.1;split<;>rfl
  rw[e3,e4,e]
 ·rw[SK,SK,e];rfl
theorem vN{K:Ug}{H:Hp}{k:List Key}{w:V}{d:D}(hw:b9 K H d w):∀{kvs:List (List Key×V)}{al:dP},kvs.map (·.1)=al.map (·.1)->aB K H (al.map (·.2)) (kvs.map (·.2))->
  aB K H ((al.map λp=>if p.1=k then(p.1,d)else p).map (·.2)) ((kvs.map λp=>if p.1=k then(p.1,w)else p).map (·.2))
 |[],[],_,h=>h
 |p::r,q::r',e,h=>by
  rw[RH,RH]at e;injection e with e1 e2;rw[RH,RH,aK]at h;obtain⟨v,ws,h0,h1,h2⟩:=h;injection h0 with h0 h0';subst h0 h0';have ih:=vN (k:=k) hw e2 h2;rw[RH,RH,RH,RH,aK];refine⟨_,_,rfl,?_,ih⟩;rw[e1];split
  ·exact hw
  ·exact h1
 |[],_::_,e,_=>by cases e
 |_::_,[],e,_=>by cases e
theorem Gu{K:Ug}{H:Hp}{k:List Key}{w:V}{d:D}(hw:b9 K H d w){kvs:List (List Key×V)}{al:dP}(e:kvs.map (·.1)=al.map (·.1))(h:aB K H (al.map (·.2)) (kvs.map (·.2))):
  aB K H ((jU al k d).map (·.2)) ((putK kvs k w).map (·.2)):=by
 have e2:(kvs.any λp=>decide (p.1=k))=(al.any λp=>decide (p.1=k)):=by
  have:=congrArg (λl=>l.any λq=>decide (q=k)) e
  simpa [Tf,Function.comp_def]using this
 unfold putK jU;rw[e2];split
 ·exact vN hw e h
 ·rw[SK,SK];exact h.append (aK.mpr ⟨w,[],rfl,hw,cf.mpr rfl⟩)
theorem HX{kvs:List (List Key×V)}{al:dP}(e:kvs.map (·.1)=al.map (·.1)):encK al=kvs.map λp=>D.tup (p.1.map bm):=by
 have:=congrArg (List.map λk:List Key=>D.tup (k.map bm)) e
 rw[Tu,Tu]at this;exact this.symm
theorem vm{H:Hp}{a:Vj}{o1 o2:HO}:upd (upd H a o1) a o2=upd H a o2:=by
 funext b;by_cases e:b=a
 ·subst e;rw[aH,aH]
 ·rw[aM e,aM e,aM e]
noncomputable def IZ(td ty tv:TE):TS:=λD σ H=>tv σ H λv H1=>td σ H1 λx H2=>ty σ H2 λy H3=>∃a k b kvs,x=.ref a/\y=.ref b/\H3 b=some (.tup (k.map kV))/\(H3 a=some (.dT kvs)\/(H3 a=some (.dK [])/\kvs=[]))/\kvs.length<Vr/\D.nx σ (upd H3 a (.dT (putK kvs k v)))
section
variable{X:Cx}{o idx value:Vk}{pos pos':Pos}{td ty tv:TE}
theorem C3(hu:X.A.units+1<VX)(ho:PE X o td)(hi:PE X idx ty)(hv:PE X value tv)(hs:swapsWith value (some (.Subscript o idx pos')) pos.line X.env=pure false):PS X (.Assign [.Subscript o idx pos'] value pos) (IZ td ty tv):=by
 intro pins s σ H D I h;refine wpAny_Assign_Subscript (cE (hv pins s σ H _ I h) λr s1 ⟨v,H1,I1,rv,q1⟩=>cE (ho pins s1 σ H1 _ I1 q1) λu s2 ⟨x,H2,I2,rx,q2⟩=>cE (hi pins s2 σ H2 _ I2 q2) λiv s3 h3=>?_) hs;obtain⟨y,H3,I3,ry,a,k,b,kvs,ex,ey,hb,ha,hl,q3⟩:=h3;subst ex ey;obtain rfl:u=Value.ref a:=rx;rcases ha with ha|⟨ha,rfl⟩
 ·exact lE hu I3 (Jf.t ha hb hl) ry rv λs4 I4=>⟨σ,_,I4,q3⟩
 ·have ne:b≠a:=λz=>by rw[z,ha]at hb;cases hb
  refine lE hu (Ij I3 ha) (Jf.t aH (by rw[aM ne];exact hb) hl) ry rv λs4 I4=>⟨σ,_,I4,?_⟩
  rw[vm];exact q3
end
end TG
namespace TG
open PySem PySem.Spec L2
variable[aw]
end TG
namespace TG
open PySem PySem.Spec PySem.W PySem.Calls PyProof.Rows Builtin Builtin.ObjectAttr Builtin.Getset_descriptor
variable[aw]
end TG
namespace TG
open PySem PySem.Spec PySem.W PySem.Calls PyProof.Rows Builtin Builtin.ObjectAttr Builtin.Getset_descriptor
end TG
namespace TG
open PySem PySem.Spec L2
variable[aw]
open PyProof.Rows (AllBare OwnCls)
end TG
namespace TG
open PySem PySem.Spec L2
variable[aw]
end TG
namespace TG
open PySem PySem.Spec L2
variable[aw]
end TG
namespace TG
open PySem PySem.Spec L2
variable[aw]
end TG
namespace TG
open PySem PySem.Spec L2
open PySem PySem.Spec PyProof.Rows PySem.W L2
variable[aw]
end TG
namespace TG
open PySem PySem.Spec PyProof.Rows PySem.W L2
variable[aw]
end TG
namespace TG
open PySem PySem.Spec PyProof.Rows PySem.W L2
variable[aw]
theorem uJ:Vt "sorted"=some (.builtin "sorted"):=by first|rfl|decide +kernel
end TG
namespace TG
open PySem PySem.Spec PyProof.Rows PySem.W L2
end TG
namespace TG
open PySem PySem.Spec PySem.Calls L2
open PySem.SeqAt (EqAt list_indexAt)
variable[aw]
section
variable{X:Cx}{p pos:Pos}{e:Vk}
end
end TG
namespace TG
open PySem PySem.Spec L2
variable[aw]
end TG
namespace TG
open PySem PySem.Spec PySem.Calls L2
open PySem.SeqAt (EqAt list_countAt)
variable[aw]
noncomputable def Ao:=Kl (λ_ j=>decide (0<=j)) λi j=>i/2^j.toNat
theorem HE{K:Ug}:cQ K (rI (λ_ j=>0<=j) λi j=>.int (i/2^j.toNat)) Ao:=jj λ_ _ h=>of_decide_eq_true h
noncomputable def tN:=Hr λi j=>.int (Builtin.bitAnd i j)
theorem Jr{K:Ug}:cQ K (AK λi j=>.int (Builtin.bitAnd i j)) tN:=qZ
noncomputable def kJ:List D->List D->Option (List (Key×D))
 |[],[]=>some []
 |k::ks,d::ds=>(keyOf k).bind λk=>(kJ ks ds).map ((k,d)::·)
 |_,_=>none
noncomputable abbrev eU(al:List (Key×D)):List D:=al.map λp=>bm p.1
noncomputable abbrev mC(al:List (Key×D)):D:=.dct (eU al) (al.map (·.2))
theorem jv(k:Key):keyOf (bm k)=some k:=by cases k<;>rfl
theorem qv{a b:Key}(h:bm a=bm b):a=b:=by
 have e:=congrArg keyOf h;rw[jv,jv]at e;exact Option.some.inj e
theorem qA:∀{ks ds:List D}{al:List (Key×D)},kJ ks ds=some al->ks=eU al/\ds=al.map (·.2)
 |[],[],_,h=>by cases h;exact⟨rfl,rfl⟩
 |k::ks,d::ds,al,h=>by
  unfold kJ at h;cases e1:keyOf k with
  |none=>rw[e1]at h;cases h
  |some k'=>
   rw[e1]at h;cases e2:kJ ks ds with
   |none=>rw[e2]at h;cases h
   |some al'=>
    rw[e2]at h;cases h;obtain⟨h1,h2⟩:=qA e2;rw[kG e1,h1,h2];exact⟨rfl,rfl⟩
 |[],_::_,_,h=>by cases h
 |_::_,[],_,h=>by cases h
theorem oB:∀al:List (Key×D),kJ (eU al) (al.map (·.2))=some al
 |[]=>rfl
 |p::r=>by
  show(keyOf (bm p.1)).bind _=_;rw[jv];show(kJ (eU r) (r.map (·.2))).map ((p.1,p.2)::·)=_;rw[oB r];rfl
theorem oF:∀{al:List (Key×D)}{ks:List Key},eU al=ks.map bm->al.map (·.1)=ks
 |[],[],_=>rfl
 |p::r,k::ks,h=>by
  have h:bm p.1::eU r=bm k::ks.map bm:=h;injection h with h1 h2;rw[RH,qv h1,oF h2]
 |[],_::_,h=>by cases h
 |_::_,[],h=>by cases h
theorem OJ{K:Ug}{H:Hp}{O:aA}{a:Vj}{al:List (Key×D)}(h:gu K H O a (mC al)):
  (∃kvs:List (Key×V),H a=some (.dK kvs)/\kvs.map (·.1)=al.map (·.1)/\aB K (hid H O) (al.map (·.2)) (kvs.map (·.2)))\/(H a=some (.dT [])/\al=[]):=by
 obtain⟨o,vs,h1,h2,h3⟩:=h;rcases h3 with⟨kvs,e,e1,e2⟩|⟨kvs,e,e1,e2⟩
 ·subst e;refine .inl ⟨kvs,h1,?_,by rw[<-e2];exact h2⟩;exact(oF (ks:=kvs.map (·.1)) (by rw[Tu];exact e1)).symm
 ·subst e;cases kvs with
  |nil=>
   refine .inr ⟨h1,?_⟩
   simpa using e1
  |cons p r=>
   cases al with
   |nil=>cases e1
   |cons q r'=>
    have e1:bm q.1::eU r'=D.tup (p.1.map bm)::r.map (λp=>D.tup (p.1.map bm)):=e1;injection e1 with e1 _;rcases q with⟨k,v⟩
    cases k<;>cases e1
section
variable{κ:Type}[DecidableEq κ]
noncomputable def mz(al:List (κ×D))(k:κ)(v:D):List (κ×D):=if(al.any λp=>decide (p.1=k))=true then al.map (λp=>if p.1=k then(p.1,v)else p)else al++[(k,v)]
theorem tW{kvs:List (κ×V)}{al:List (κ×D)}(e:kvs.map (·.1)=al.map (·.1))(k:κ)(w:V)(d:D):(putK kvs k w).map (·.1)=(mz al k d).map (·.1):=by
 have e2:(kvs.any λp=>decide (p.1=k))=(al.any λp=>decide (p.1=k)):=by
  have:=congrArg (λl=>l.any λq=>decide (q=k)) e
  simpa [Tf,Function.comp_def]using this
 unfold putK mz;rw[e2];split
 ·have e3:∀(l:List (κ×V)),(l.map λkv=>if kv.1=k then(kv.1,w)else kv).map (·.1)=l.map (·.1):=λl=>by
   rw[Tu];refine SJ λp _=>?_;show(if p.1=k then(p.1,w)else p).1=p.1;split<;>rfl
  have e4:∀(l:List (κ×D)),(l.map λkv=>if kv.1=k then(kv.1,d)else kv).map (·.1)=l.map (·.1):=λl=>by
   rw[Tu];refine SJ λp _=>?_;show(if p.1=k then(p.1,d)else p).1=p.1;split<;>rfl
  rw[e3,e4,e]
 ·rw[SK,SK,e];rfl
theorem su{K:Ug}{H:Hp}{k:κ}{w:V}{d:D}(hw:b9 K H d w):∀{kvs:List (κ×V)}{al:List (κ×D)},kvs.map (·.1)=al.map (·.1)->aB K H (al.map (·.2)) (kvs.map (·.2))->
  aB K H ((al.map λp=>if p.1=k then(p.1,d)else p).map (·.2)) ((kvs.map λp=>if p.1=k then(p.1,w)else p).map (·.2))
 |[],[],_,h=>h
 |p::r,q::r',e,h=>by
  rw[RH,RH]at e;injection e with e1 e2;rw[RH,RH,aK]at h;obtain⟨v,ws,h0,h1,h2⟩:=h;injection h0 with h0 h0';subst h0 h0';have ih:=su (k:=k) hw e2 h2;rw[RH,RH,RH,RH,aK];refine⟨_,_,rfl,?_,ih⟩;rw[e1];split
  ·exact hw
  ·exact h1
 |[],_::_,e,_=>by cases e
 |_::_,[],e,_=>by cases e
theorem vV{K:Ug}{H:Hp}{k:κ}{w:V}{d:D}(hw:b9 K H d w){kvs:List (κ×V)}{al:List (κ×D)}(e:kvs.map (·.1)=al.map (·.1))(h:aB K H (al.map (·.2)) (kvs.map (·.2))):
  aB K H ((mz al k d).map (·.2)) ((putK kvs k w).map (·.2)):=by
 have e2:(kvs.any λp=>decide (p.1=k))=(al.any λp=>decide (p.1=k)):=by
  have:=congrArg (λl=>l.any λq=>decide (q=k)) e
  simpa [Tf,Function.comp_def]using this
 unfold putK mz;rw[e2];split
 ·exact su hw e h
 ·rw[SK,SK];exact h.append (aK.mpr ⟨w,[],rfl,hw,cf.mpr rfl⟩)
end
noncomputable def sE(ks ds:List D)(k v:D):Option (List (Key×D)):=(kJ ks ds).bind λal=>(keyOf k).bind λk=>if small al.length then some (mz al k v)else none
noncomputable def rX(i:Nat)(fk fv:FX):bN:=λk ρ=>match ρ[i]? with
 |some (some (.own (.dct ks ds)))=>o8 ((fv ρ).bind λv=>(fk ρ).bind λq=>rO (sE ks ds q v)) k ρ λal=>k.nx (ρ.set i (some (.own (mC al))))
 |_=>un
theorem wG{ks ds:List D}{k v:D}{al':List (Key×D)}(h:sE ks ds k v=some al'):∃al q,ks=eU al/\ds=al.map (·.2)/\k=bm q/\small al.length=true/\al'=mz al q v:=by
 unfold sE at h;cases e1:kJ ks ds with
 |none=>rw[e1]at h;cases h
 |some al=>
  rw[e1]at h;cases e2:keyOf k with
  |none=>rw[e2]at h;cases h
  |some q=>
   rw[e2]at h;obtain⟨h3,h4⟩:=aZ (show(if small al.length then some (mz al q v)else none)=some al' from h);obtain⟨h1,h2⟩:=qA e1;exact⟨al,q,h1,h2,kG e2,h3,h4.symm⟩
theorem ub{kvs:List (Key×V)}{al:List (Key×D)}(e:kvs.map (·.1)=al.map (·.1)):eU al=kvs.map λp=>bm p.1:=by
 have:=congrArg (List.map bm) e
 rw[Tu,Tu]at this;exact this.symm
noncomputable def Ju(td ty tv:TE):TS:=λD σ H=>tv σ H λv H1=>td σ H1 λx H2=>ty σ H2 λy H3=>∃a k kvs,x=.ref a/\y=kV k/\(H3 a=some (.dK kvs)\/(H3 a=some (.dT [])/\kvs=[]))/\kvs.length<Vr/\D.nx σ (upd H3 a (.dK (putK kvs k v)))
section
variable{X:Cx}{o idx value:Vk}{pos pos':Pos}{td ty tv:TE}
theorem BE(hu:X.A.units+1<VX)(ho:PE X o td)(hi:PE X idx ty)(hv:PE X value tv)(hs:swapsWith value (some (.Subscript o idx pos')) pos.line X.env=pure false):PS X (.Assign [.Subscript o idx pos'] value pos) (Ju td ty tv):=by
 intro pins s σ H D I h;refine wpAny_Assign_Subscript (cE (hv pins s σ H _ I h) λr s1 ⟨v,H1,I1,rv,q1⟩=>cE (ho pins s1 σ H1 _ I1 q1) λu s2 ⟨x,H2,I2,rx,q2⟩=>cE (hi pins s2 σ H2 _ I2 q2) λiv s3 h3=>?_) hs;obtain⟨y,H3,I3,ry,a,k,kvs,ex,ey,ha,hl,q3⟩:=h3;subst ex ey;obtain rfl:u=Value.ref a:=rx;rcases ha with ha|⟨ha,rfl⟩
 ·exact lE hu I3 (Jf.k ha hl) ry rv λs4 I4=>⟨σ,_,I4,q3⟩
 ·refine lE hu (Kz I3 ha) (Jf.k aH hl) ry rv λs4 I4=>⟨σ,_,I4,?_⟩
  rw[vm];exact q3
end
section
variable{X:Cx}
theorem OA{pins:bh}{σ:St}{H:Hp}{s:Vm}{O:aA}{ks ds:List D}{v:V}{qs:List Key}(I:Inv X pins σ H s)(h:b9 X.K (hid H O) (.dct ks ds) v)(hk:keysOf ks=some qs):
  ∃a vs,v=.ref a/\qs.length<=Vr/\(a==sysModules)=false/\s.heap.DictOf (cw X.prog X.w) a vs/\vs.map (·.1)=qs:=by
 obtain⟨a,vs,e,_,h2⟩:=MM.mp h;have ek:=kZ hk;rcases h2 with⟨kvs,h3,h4,_⟩|⟨kvs,h3,h4,_⟩|⟨kvs,o,h3,h4,_⟩
 rotate_left 2
 ·rw[h4]at hk;cases hk
 ·obtain⟨z,hd,us,rel,dd⟩:=BA I.hok ((au H O) _ _ h3);have e1:kvs.map (·.1)=qs:=by
   have:(kvs.map (·.1)).map bm=qs.map bm:=(by rw[Tu,<-ek,h4];rfl);have e2:=congrArg keysOf this;rw[cC,cC]at e2;exact Option.some.inj e2
  refine⟨a,us,e,?_,hd,dd,?_⟩
  ·have:=congrArg List.length e1
   rw[RJ]at this;omega
  ·rw[<-rel.keys,e1]
 ·cases kvs with
  |nil=>
   rw[h4]at hk;cases hk;obtain⟨z,hd,us,rel,dd⟩:=(show cG X.prog X.w H s.heap a (.dK [])from vc (I.hok a _ ((au H O) _ _ h3)))
   refine⟨a,us,e,RM _,hd,dd,?_⟩;rw[<-rel.keys];rfl
  |cons p r=>
   rw[h4]at hk;cases hk
theorem yS{k:Key}{v:Vh}(h:ph k v=true):RelV (kV k) v:=by
 rcases cD h with⟨i,t,rfl,rfl⟩|⟨x,t,rfl,rfl⟩
 ·exact⟨_,rfl⟩
 ·exact⟨_,rfl⟩
theorem tU{P:Vo}{w:Vn}:∀{vs:List (Key×Vh)}{its:bc},its.length=vs.length->(∀(j:Nat)(v:Vh),its[j]?=some v->∃(k:Key)(x:Vh),vs[j]?=some (k,x)/\(cw P w).is k v=true)->Vals (vs.map λp=>kV p.1) its
 |[],[],_,_=>.nil
 |p::r,u::us,hl,h=>by
  obtain⟨k,x,e,hk⟩:=h 0 u rfl;cases e;exact .cons (yS (by rw[wC]at hk;exact hk)) (tU (by simpa using hl) λj v e=>h (j+1) v (by simpa using e))
 |[],_::_,hl,_=>by cases hl
 |_::_,[],hl,_=>by cases hl
theorem sZ{K:Ug}{H:Hp}:∀qs:List Key,aB K H (qs.map bm) (qs.map kV)
 |[]=>cf.mpr rfl
 |k::r=>aK.mpr ⟨kV k,_,rfl,by cases k with
  |inl i=>exact eS.mpr rfl
  |inr x=>exact eD.mpr rfl,sZ r⟩
noncomputable def qE:List D->bu
 |[.dct ks _]=>(keysOf ks).bind λ_=>some (.lst ks)
 |_=>none
theorem xG(hc:X.calm=true):dg X (.type "list") (wn X.K qE):=by
 rintro pins s σ H xs us Q I r ⟨O,ds,d,hO,hd,hg,q⟩;unfold qE at hg;split at hg
 ·rename_i ks vs0;cases hk:keysOf ks with
  |none=>rw[hk]at hg;cases hg
  |some qs=>
   rw[hk]at hg;cases hg;obtain⟨v,ev,h1⟩:=hd.one;obtain⟨a,vs,e,z,hs,dd,e1⟩:=OA I h1 hk;subst ev e;obtain⟨u,rfl,ru⟩:=vals1 r;cases ru;have hl:vs.length=qs.length:=(by have:=congrArg List.length e1;simpa using this);obtain⟨ep,da⟩:=dd.dictAt;refine UT (PySem.W.kdl_dict hs) (I.ok.hd hc) da ‹0› λh' tk acc' c' kp e2 it=>?_;have rv:Vals (qs.map kV) acc'.toList:=by
    have:=tU (P:=X.prog) (w:=X.w) (vs:=vs) (its:=acc'.toList) (by rw[Array.length_toList];exact it.1) λj v e=>it.2 j v (by rw[<-Array.getElem?_toList];exact e)
    rw[<-e1,Tu];exact this
   refine⟨.ref s.heap.objs.size,_,I.laid (t':=tk) kp (RB _) (show cG X.prog X.w _ h' _ (.lst (qs.map kV))from⟨by rw[RJ];exact z,acc'.toList,c',rv,by simpa using e2⟩),rfl,?_⟩;have hf:=I.hok.fresh (RB s.heap.objs.size);refine q _ _ (bQ hf _) ?_;rw[kZ hk];exact cZ hO hf (sZ qs)
 ·cases hg
end
end TG
namespace TG
open PySem PySem.Spec L2
variable[aw]
end TG
namespace TG
open PySem PySem.Spec PySem.Calls L2
variable[aw]
noncomputable def pI(al:dP)(q:List Key):bu:=(al.find? λp=>decide (p.1=q)).map (·.2)
theorem BD{K:Ug}{H:Hp}{v:V}{al:dP}(h:b9 K H (jt al) v):
  ∃a,v=.ref a/\((∃kvs:List (List Key×V),H a=some (.dT kvs)/\kvs.map (·.1)=al.map (·.1)/\aB K H (al.map (·.2)) (kvs.map (·.2)))\/(H a=some (.dK [])/\al=[])):=by
 obtain⟨a,vs,e0,h2,h3⟩:=MM.mp h;refine⟨a,e0,?_⟩;rcases h3 with⟨kvs,e,e1,e2⟩|⟨kvs,e,e1,e2⟩|⟨kvs,o,e,e1,e2⟩
 rotate_left 2
 ·cases al with
  |nil=>cases e1
  |cons _ _=>injection e1 with e1 _;cases e1
 ·cases kvs with
  |nil=>exact .inr ⟨e,by simpa using e1⟩
  |cons p r=>
   cases al with
   |nil=>cases e1
   |cons q r'=>
    have e1:D.tup (q.1.map bm)::encK r'=bm p.1::r.map (λp=>bm p.1):=e1;injection e1 with e1 _;rcases p with⟨k,v⟩
    cases k<;>cases e1
 ·refine .inl ⟨kvs,e,?_,by rw[<-e2];exact h2⟩;exact(mK (ks:=kvs.map (·.1)) (by rw[Tu];exact e1)).symm
theorem vX{K:Ug}{H:Hp}(q:List Key):∀{kvs:List (List Key×V)}{al:dP},kvs.map (·.1)=al.map (·.1)->aB K H (al.map (·.2)) (kvs.map (·.2))->(kF kvs q=none/\pI al q=none)\/∃v d,kF kvs q=some v/\pI al q=some d/\b9 K H d v
 |[],[],_,_=>.inl ⟨rfl,rfl⟩
 |p::r,a::al,e,h=>by
  rw[RH,RH]at e;injection e with e1 e2;rw[RH,RH,aK]at h;obtain⟨v,ws,h0,h1,h2⟩:=h;injection h0 with h0 h0';subst h0 h0';by_cases z:p.1=q
  ·refine .inr ⟨p.2,a.2,kK z,?_,h1⟩;unfold pI;rw[Tv (by rw[<-e1];simpa using z)];rfl
  ·have ih:=vX q e2 h2;have g:pI (a::al) q=pI al q:=by
    unfold pI;rw[Tx (by rw[<-e1];simpa using z)]
   rw[kt z,g];exact ih
 |[],_::_,e,_=>by cases e
 |_::_,[],e,_=>by cases e
end TG
namespace TG
open PySem PySem.Spec L2
variable[aw]
end TG
namespace TG
open PySem PySem.Spec L2
variable[aw]
noncomputable def NC(xs:List D)(ds:List D):Option (List D):=match ds with
 |[.int i]=>if decide (0<=i/\i<xs.length)&&small xs.length then some (xs.eraseIdx i.toNat)else none
 |_=>none
noncomputable def hdS:List D->Bool
 |.str _::_=>true
 |_=>false
noncomputable def Gp:D->Bool
 |.lst []=>true
 |.lst (.tup _::_)=>true
 |_=>false
noncomputable def offA(ρ:ak)(i:Nat):Bool:=match ρ[i]? with
 |some (some (.own d))=>Gp d
 |_=>true
noncomputable def uZ(is:List Nat)(ρ:ak):D->R D
 |.lst ds=>if yf ds&&hdS ds&&is.all (offA ρ)then .ok (.lst ds)else un
 |_=>un
noncomputable def gE(is:List Nat)(f:FX):FX:=λρ=>(wA (f (frzs is ρ))).bind (uZ is ρ)
theorem cY.frzs2{K:Ug}{H:Hp}{σ:St}:∀(is:List Nat){O:aA}{ρ:ak},cY K O H ρ σ->∃O',cY K O' H (TG.frzs is ρ) σ/\∀b∈O,b∉O'->∃i∈is,∃d,ρ[i]?=some (some (.own d))/\σ[i]?=some (some (.ref b))
 |[],O,_,E=>⟨O,E,λb hb nb=>absurd hb nb⟩
 |i::is,O,ρ,E=>by
  obtain⟨O',E',_,g⟩:=E.frz i;obtain⟨O2,E2,g2⟩:=cY.frzs2 is E';refine⟨O2,E2,λb hb nb=>?_⟩;by_cases hb':b∈O'
  ·obtain⟨j,hj,d,e1,e2⟩:=g2 b hb' nb;refine⟨j,Rv _ hj,d,?_,e2⟩;unfold TG.frz at e1;split at e1
   ·rcases bf e1 with⟨_,q⟩|⟨_,q⟩
    ·cases q
    ·exact q
   ·exact e1
  ·obtain⟨d,e1,e2⟩:=g b hb hb';exact⟨i,Ru,d,e1,e2⟩
end TG
namespace TG
open PySem PySem.Spec L2
variable[aw]
end TG
namespace TG
open PySem PySem.Spec PySem.Calls L2
variable[aw]
end TG
namespace TG
open PySem PySem.Spec L2
variable[aw]
end TG
namespace TG
open PySem PySem.Spec L2
variable[aw]
end TG
namespace TG
open PySem PySem.Spec L2
variable[aw]
noncomputable abbrev OL(al:dP):D:=.dct (.non::encK al) (al.map (·.2))
theorem wY{α β:Type}{R:α->β->Prop}:∀{xs:List α}{ys:List β},Vp R xs ys->∀{i:Nat}{x:α},xs[i]?=some x->∃y,ys[i]?=some y/\R x y:=λh=>by
 induction h with
 |nil=>intro i x e;simp at e
 |cons hq _ ih=>
  intro i x e;cases i with
  |zero=>rw[S0]at e;cases e;exact⟨_,rfl,hq⟩
  |succ i=>rw[S3]at e ⊢;exact ih e
theorem xM{K:Ug}{H:Hp}:∀q:List Key,aB K H (q.map bm) (q.map kV)
 |[]=>cf.mpr rfl
 |k::q=>aK.mpr ⟨kV k,_,rfl,by cases k with|inl i=>exact eS.mpr rfl|inr x=>exact eD.mpr rfl,xM q⟩
theorem DJ{K:Ug}{H:Hp}{v:V}{al:dP}(h:b9 K H (OL al) v):∃a o kvs,v=.ref a/\H a=some (.frz o (.dT kvs))/\kvs.map (·.1)=al.map (·.1)/\aB K H (al.map (·.2)) (kvs.map (·.2)):=by
 obtain⟨a,vs,e0,h2,h3⟩:=MM.mp h;rcases h3 with⟨kvs,e,e1,e2⟩|⟨kvs,e,e1,e2⟩|⟨kvs,o,e,e1,e2⟩
 ·cases kvs with
  |nil=>cases e1
  |cons p r=>
   injection e1 with e1 _;rcases p with⟨k,v⟩
   cases k<;>cases e1
 ·cases kvs with
  |nil=>cases e1
  |cons p r=>injection e1 with e1 _;cases e1
 ·injection e1 with _ e1;subst e2;exact⟨a,o,kvs,e0,e,(mK (ks:=kvs.map (·.1)) (by rw[Tu];exact e1)).symm,h2⟩
end TG
namespace TG
open PySem PySem.Spec L2
section
variable{prog:Vo}{w:Vn}{A:Vu}{E:bT}{s:Vm}{it d:Vj}{i ep:Nat}{o:Obj}{es:Array DictEntry}
theorem AD{Q:bT}(hd:(d==sysModules)=false)(ho:s.heap.get? d=some o)(hx:o.ExactDict)(hdat:o.data=.dict es ep)
  (hQ:Q (.ref s.heap.objs.size) {s with heap:=s.heap.push {cls:=.type "dict_keyiterator",data:=.fields #[.ref d,.int 0 0,.int es.size 0,.int ep 0]}}):Vx (model prog w) A (pyIter (.ref d)) Q E s:=by
 have hT:s.TypeIs (.ref d) "dict":=⟨o,ho,hx.1⟩
 refine wpAny_pyIter_slot hT F.slot_dict_iter (V9 F.slot_dict_iter hT F.entry_dict_iter ?_ (F.args_dict_iter_1 _));unfold Builtin.«dict.__iter__»;refine VF ?_;unfold Builtin.Dict.dictSlotNone;refine VF (wpAny_notOrdered_dict hT ?_);show Vx _ _ (pure (Value.ref d)) _ _ s;refine VI ?_;show Vx _ _ (Builtin.Dict.showsAll d >>= _) _ _ s;unfold Builtin.Dict.showsAll;rw[if_neg (by rw[hd];exact RF)];refine VF (VI (VF (Ws ho hdat (VF (Wt ho hdat ?_)))));refine VF (Wa (VI ⟨_,rfl,"dict_keyiterator",_,⟨_,UZ _ rfl,rfl⟩,F.slot_dict_keyiterator_next.lookup,?_⟩));simpa [rawInt]using hQ
theorem Aw{Q:Option Vh->dj}(hit:s.heap.IsKeyIter it d i es.size ep)(hod:s.heap.get? d=some o)(hdd:o.data=.dict es ep)(hlt:i<es.size)
  (hQ:∀h',h'.IsKeyIter it d (i+1) es.size ep->UX it s.heap h'->Q (some es[i].key) {s with heap:=h'}):Vx (model prog w) A (pyNext (.ref it)) Q E s:=by
 obtain⟨oi,ho,hc,hd⟩:=id hit;unfold pyNext;refine VF (Wq (V8 (name:=Str.ofString "__next__") hit.typeIs F.slot_dict_keyiterator_next (V9 F.slot_dict_keyiterator_next hit.typeIs F.entry_dict_keyiterator_next ?_ (F.args_dict_keyiterator_next_1 _))));refine VF (VI (VF (VF ?_)));first|refine VF (Wu hit.typeIs (VI ?_))|refine VF (Wv hit.typeIs (VI ?_))
 refine VF (wpAny_fieldsOf ho hd ?_);have hown:Builtin.Dict_items.ownsTuple "dict_keyiterator"=false:=by decide
 simp only[hown,Si,if_false];show Vx _ _ (if(Value.ref d==Value.none)=true then _ else _) _ _ s;rw[if_neg (show¬((Value.ref d==Value.none)=true)from RF)];refine VF (VI (VF (Ws hod hdd ?_)));rw[if_neg (by simp)];refine VF (VI (VF (Wt hod hdd ?_)));rw[if_neg (by simp)];refine VI ?_;simp only[show¬((i:Int)<0)from by omega,if_false,R0,Array.getElem?_eq_getElem hlt];refine VF ?_;first|refine VF (Wu hit.typeIs (VI ?_))|refine VF (Wv hit.typeIs (VI ?_))
 refine VF (wpAny_isOneOf_keyiter hit.typeIs ?_);show Vx _ _ (setField (.ref it) 1 (rawInt ((i:Int)+1)) >>= _) _ _ s;refine VF (Wj ho hd (by simp) ?_);have hit':(s.heap.update it (Obj.mapFields (·.setIfInBounds 1 (rawInt ((i:Int)+1))))).IsKeyIter it d (i+1) es.size ep:=⟨_,U1 _ ho (Obj.isFreed_of_fields (Obj.data_mapFields hd _)),(Obj.cls_mapFields ..).trans hc,by rw[Obj.data_mapFields hd];simp[rawInt]⟩
 refine VF (VG (VF (wpAny_isOneOf_keyiter (s:={s with heap:=s.heap.update it (Obj.mapFields (·.setIfInBounds 1 (rawInt ((i:Int)+1))))}) hit'.typeIs ?_)));show Vx _ _ (pure es[i].key) _ _ _;exact VI (VI ⟨_,rfl,VI (hQ _ hit' (Heap.SameBut.update ..))⟩)
theorem DW{Q:Option Vh->dj}(hh:A.handled=none)(hit:s.heap.IsKeyIter it d i es.size ep)(hod:s.heap.get? d=some o)(hdd:o.data=.dict es ep)(hge:es.size<=i)(hQ:∀h',Heap.ExtBut it s.heap h'->Q none {s with heap:=h'}):Vx (model prog w) A (pyNext (.ref it)) Q E s:=by
 obtain⟨oi,ho,hc,hd⟩:=id hit;unfold pyNext;refine VF (Wq (V8 (name:=Str.ofString "__next__") hit.typeIs F.slot_dict_keyiterator_next (V9 F.slot_dict_keyiterator_next hit.typeIs F.entry_dict_keyiterator_next ?_ (F.args_dict_keyiterator_next_1 _))));refine VF (VI (VF (VF ?_)));first|refine VF (Wu hit.typeIs (VI ?_))|refine VF (Wv hit.typeIs (VI ?_))
 refine VF (wpAny_fieldsOf ho hd ?_);have hown:Builtin.Dict_items.ownsTuple "dict_keyiterator"=false:=by decide
 simp only[hown,Si,if_false];show Vx _ _ (if(Value.ref d==Value.none)=true then _ else _) _ _ s;rw[if_neg (show¬((Value.ref d==Value.none)=true)from RF)];refine VF (VI (VF (Ws hod hdd ?_)));rw[if_neg (by simp)];refine VF (VI (VF (Wt hod hdd ?_)));rw[if_neg (by simp)];refine VI ?_;simp only[show¬((i:Int)<0)from by omega,if_false,R0,Array.getElem?_eq_none hge];refine VF ?_;first|refine VF (Wu hit.typeIs (VI ?_))|refine VF (Wv hit.typeIs (VI ?_))
 show Vx _ _ (setField (.ref it) 0 .none >>= _) _ _ s;refine VF (Wj ho hd (by simp) ?_);show Vx _ _ (newExc (.type "StopIteration") [] >>= _) _ _ _;refine VF ?_;simp only[newExc,newTuple];refine VF (Wa ?_ (by size_fits));refine VF (m:=firstArgMember _ _) (wpAny_of_eq (a:=Value.none) (by first|rfl|(simp only[firstArgMember];rfl)) ?_);refine Wa ?_ (by size_fits);simp only[raiseNew];refine VF (wpAny_handled ?_);rw[show A.in1.handled=none from hh];refine VF (VI (wpAny_throw ?_));refine VF (wpAny_isInstance (T:="StopIteration") (b:=true) ⟨_,UZ _ rfl,rfl⟩ isSubtype_stop ?_);exact VI (hQ _ (((Heap.SameBut.update ..).extBut.push _).push _))
noncomputable def IT(d:Vj)(o:Obj)(es:Array DictEntry)(ep:Nat)(h:Vq):Prop:=h.get? d=some o/\o.ExactDict/\o.data=.dict es ep
theorem wj(hh:A.handled=none)(I:Vj)(hne:d≠I):Walks prog w A I [I,d] [I] es.size (λi v=>∃e,es[i]?=some e/\v=e.key) (λi h=>h.IsKeyIter I d i es.size ep/\IT d o es ep h)where
 sub:=λb hb=>by simp at hb;simp[hb]
 frame:=λ_ _ _ st hk=>⟨st.1.at λo e=>hk I (by simp) o e,hk d (by simp) _ st.2.1,st.2.2⟩
 item:=λi s Q E hi st hQ=>Aw st.1 st.2.1 st.2.2.2 hi λh' hit' hs'=>hQ _ h' s.toks ⟨es[i],by simp[hi],rfl⟩ ⟨hit',(hs'.2 d hne).trans st.2.1,st.2.2⟩ λb o hb e=>hs'.extBut b o (λh=>hb (by simp[h])) e
 done:=λs Q E st hQ=>DW hh st.1 st.2.1 st.2.2.2 (RB _) λh' he'=>hQ h' s.toks λb o hb e=>he' b o (λh=>hb (by simp[h])) e
 self:=λ_ _ _ _ st hQ=>wpAny_pyIter_keyiter st.1 hQ
theorem B1(lo:(d==sysModules)=false):PySem.W.KdlSrc prog w "dict" d d es.size (λi v=>∃e,es[i]?=some e/\v=e.key) (IT d o es ep)where
 type:=λ_ hm=>⟨o,hm.1,hm.2.1.1⟩
 there:=λ_ hm=>⟨UW hm.1,UW hm.1⟩
 keep:=λ_ _ hm hk=>⟨hk d (.inl rfl) o hm.1,hm.2⟩
 notList:=by decide
 notTuple:=by decide
 hint:=λ_ _ _ _ hm hq=>PySem.W.kdl_hint_dict ⟨o,hm.1,hm.2.1.1⟩ hq
 iter:=λ_ _ hh hm=>⟨_,_,(λ_ _ hq=>AD lo hm.1 hm.2.1 hm.2.2 hq),wj (ep:=ep) (o:=o) hh _ (Rp (UW hm.1)),⟨⟨_,UZ _ rfl,rfl,rfl⟩,UY _ hm.1,hm.2⟩⟩
end
variable[aw]
noncomputable def D4:List D->List D->Option (dP)
 |.non::ks,ds=>qU ks ds
 |ks,ds=>qU ks ds
theorem yx{K:Ug}{H:Hp}{v:V}{ks ds:List D}{al:dP}(h:b9 K H (.dct ks ds) v)(e:D4 ks ds=some al):
  ∃a,v=.ref a/\((∃kvs:List (List Key×V),Rd H a (.dT kvs)/\kvs.map (·.1)=al.map (·.1)/\aB K H (al.map (·.2)) (kvs.map (·.2)))\/(H a=some (.dK [])/\al=[])):=by
 unfold D4 at e;split at e
 ·obtain⟨f1,f2⟩:=pN e;subst f1 f2;obtain⟨a,o,kvs,q1,q2,q3,q4⟩:=DJ h;exact⟨a,q1,.inl ⟨kvs,.inr ⟨o,q2⟩,q3,q4⟩⟩
 ·obtain⟨f1,f2⟩:=pN e;subst f1 f2;obtain⟨a,q1,q2⟩:=BD h;rcases q2 with⟨kvs,q2,q3⟩|q2
  ·exact⟨a,q1,.inl ⟨kvs,.inl q2,q3⟩⟩
  ·exact⟨a,q1,.inr q2⟩
section
variable{X:Cx}
noncomputable def mH:List D->bu
 |[.dct ks ds]=>(D4 ks ds).bind λal=>some (.lst (encK al))
 |_=>none
theorem Dx{pins:bh}{σ:St}{H:Hp}{s:Vm}(I:Inv X pins σ H s){a:Vj}{kvs:List (List Key×V)}(e:Rd H a (.dT kvs)):kvs.length<=Vr/\(a==sysModules)=false/\∃o es ep,IT a o es ep s.heap/\es.size=kvs.length/\∀(i:Nat) u,es[i]?=some u->∃b q,u.key=.ref b/\kvs[i]?.map (·.1)=some q/\H b=some (.tup (q.map kV)):=by
 obtain⟨z,hd,xs,rel,o,es,ep,h1,h2,h3,h4,_⟩:=uU I.hok e;have hl:es.size=kvs.length:=by rw[<-Array.length_toList,h4,RJ];exact(Paired.length rel).symm
 refine⟨z,hd,o,es,ep,⟨h1,h2,h3⟩,hl,λi u eu=>?_⟩;have hi:i<kvs.length:=by
  have:=(Array.getElem?_eq_some_iff.mp eu).1
  omega
 obtain⟨x,ex,f1,f2,f3⟩:=wY rel (i:=i) (x:=kvs[i]) (by simp[hi])
 have:es.toList[i]?=some (entryOfKey (tupleKind (cw X.prog X.w)) x):=by rw[h4,RX,ex];rfl
 rw[Array.getElem?_toList,eu]at this;cases this;exact⟨x.2.1,kvs[i].1,rfl,by simp[hi],f2⟩
theorem wQ(hc:X.calm=true):dg X (.type "list") (wn X.K mH):=by
 rintro pins s σ H xs us Q I r ⟨O,ds,d,hO,hd,hg,q⟩;unfold mH at hg;split at hg
 ·rename_i ks vs0;cases hk:D4 ks vs0 with
  |none=>rw[hk]at hg;cases hg
  |some al=>
   rw[hk]at hg;cases hg;obtain⟨v,ev,h1⟩:=hd.one;subst ev;obtain⟨a,ea,hh⟩:=yx h1 hk;subst ea;obtain⟨u,rfl,ru⟩:=vals1 r;cases ru;have fin:∀(H0:Hp)(kvs:List (List Key×V)),Inv X pins σ H0 s->Rd H0 a (.dT kvs)->kvs.map (·.1)=al.map (·.1)->(∀b ys,H0 b=some (.tup ys)->H b=some (.tup ys))->Vx (model X.prog X.w) X.A (call (.type "list") [.ref a]) (EP X pins σ Q) X.xe s:=λH0 kvs I0 hr hk2 ht=>by
    obtain⟨z,hs,o,es,ep,raw,hsz,hkey⟩:=Dx I0 hr;have hl:al.length=kvs.length:=(by have:=congrArg List.length hk2;simpa using this.symm);refine UT (B1 hs) (I.ok.hd hc) raw (by rw[hsz];exact z) λh' tk acc' c' kp e2 it=>?_;have key:∃ws:aF,Vals ws acc'.toList/\aB X.K (hid H O) (encK al) ws:=by
     have hlen:acc'.toList.length=al.length:=(by rw[Array.length_toList,it.1,hsz,hl]);have each:∀(j:Nat)(u:Vh),acc'.toList[j]?=some u->∃b q,u=.ref b/\al[j]?.map (·.1)=some q/\H b=some (.tup (q.map kV)):=λj u e=>by
      obtain⟨en,e3,e4⟩:=it.2 j u (by rw[<-Array.getElem?_toList];exact e);obtain⟨b,q,w1,w2,w3⟩:=hkey j en e3;refine⟨b,q,by rw[e4,w1],?_,ht _ _ w3⟩
      have:=congrArg (λl=>l[j]?) hk2
      simp only[RX]at this;rw[<-this];exact w2
     clear it e2;generalize acc'.toList=us at hlen each;clear hk hl hk2 h1 hh q
     induction us generalizing al with
     |nil=>
      cases al with
      |nil=>exact⟨[],.nil,cf.mpr rfl⟩
      |cons _ _=>cases hlen
     |cons u us ih=>
      cases al with
      |nil=>cases hlen
      |cons p al=>
       obtain⟨ws,w1,w2⟩:=ih (al:=al) (by simpa using hlen) λj u e=>by
        have:=each (j+1) u (by rw[S3];exact e)
        rw[S3]at this;exact this
       obtain⟨b,q,e1,e2,e3⟩:=each 0 u rfl;cases e2;have bO:b∉O:=λz=>by
        obtain⟨u',q1,q2⟩:=hO.2 b z;rw[e3]at q1;cases q1;exact q2
       exact⟨.ref b::ws,.cons (by rw[e1];rfl) w1,aK.mpr ⟨.ref b,ws,rfl,bW.mpr ⟨b,_,rfl,by rw[dH bO];exact e3,xM p.1⟩,w2⟩⟩
    obtain⟨ws,rv,dn⟩:=key;have wl:ws.length<=Vr:=(by rw[<-dn.length,RJ,hl];exact z);refine⟨.ref s.heap.objs.size,_,I.laid (t':=tk) kp (RB _) (show cG X.prog X.w _ h' _ (.lst ws)from⟨wl,acc'.toList,c',rv,by simpa using e2⟩),rfl,?_⟩;have hf:=I.hok.fresh (RB s.heap.objs.size);exact q _ _ (bQ hf _) (cZ hO hf dn)
   rcases hh with⟨kvs,hr,e1,_⟩|⟨hr,e1⟩
   ·refine fin H kvs I ?_ e1 λ_ _ z=>z;rcases hr with hr|⟨o,hr⟩
    ·exact .inl ((au H O) _ _ hr)
    ·exact .inr ⟨o,(au H O) _ _ hr⟩
   ·have ha:=(au H O) _ _ hr;refine fin _ [] (Ij I ha) (.inl aH) (by rw[e1];rfl) λb ys eb=>?_;by_cases z:b=a
    ·rw[z,aH]at eb;cases eb
    ·rw[aM z]at eb;exact eb
 ·cases hg
end
end TG
namespace TG
open PySem PySem.Spec PySem.Calls L2
variable[aw]
noncomputable def xD(dd k:D):bu:=match dd with
 |.dct ks ds=>(D4 ks ds).bind λal=>(mO k).bind λq=>pI al q
 |_=>none
theorem IB{H:Hp}{O:aA}{a:Vj}{u:HO}(h:Rd (hid H O) a u):Rd H a u:=by
 rcases h with h|⟨o,h⟩
 ·exact .inl ((au H O) _ _ h)
 ·exact .inr ⟨o,(au H O) _ _ h⟩
end TG
namespace L2
open PySem PySem.Spec PyProof.Rows
end L2
namespace TG
open PySem PySem.Spec L2
variable[aw]
end TG
namespace TG
open PySem PySem.Spec L2
variable[aw]
end TG
namespace TG
open PySem PySem.Spec L2
variable[aw]
end TG
namespace TG
open PySem PySem.Spec L2
variable[aw]
end TG
namespace TG
open PySem PySem.Spec L2
variable[aw]
end TG
namespace L2
open PySem PySem.Spec PyProof.Rows
end L2
namespace TG
open PySem PySem.Spec L2
variable[aw]
end TG
namespace TG
open PySem PySem.Spec PySem.Calls L2
variable[aw]
theorem vP{K:Ug}{H:Hp}{v:V}{al:List (Key×D)}(h:b9 K H (mC al) v):
  ∃a,v=.ref a/\((∃kvs:List (Key×V),H a=some (.dK kvs)/\kvs.map (·.1)=al.map (·.1)/\aB K H (al.map (·.2)) (kvs.map (·.2)))\/(H a=some (.dT [])/\al=[])):=by
 obtain⟨a,vs,e0,h2,h3⟩:=MM.mp h;refine⟨a,e0,?_⟩;rcases h3 with⟨kvs,e,e1,e2⟩|⟨kvs,e,e1,e2⟩|⟨kvs,o,e,e1,e2⟩
 ·refine .inl ⟨kvs,e,?_,by rw[<-e2];exact h2⟩;exact(oF (ks:=kvs.map (·.1)) (by rw[Tu];exact e1)).symm
 ·cases kvs with
  |nil=>exact .inr ⟨e,by simpa using e1⟩
  |cons p r=>
   cases al with
   |nil=>cases e1
   |cons q r'=>
    have e1:bm q.1::eU r'=D.tup (p.1.map bm)::r.map (λp=>D.tup (p.1.map bm)):=e1;injection e1 with e1 _;rcases q with⟨k,v⟩
    cases k<;>cases e1
 ·cases al with
  |nil=>cases e1
  |cons q r=>
   have e1:bm q.1::eU r=D.non::kvs.map (λp=>D.tup (p.1.map bm)):=e1;injection e1 with e1 _;rcases q with⟨k,v⟩
   cases k<;>cases e1
noncomputable def og(al:List (Key×D))(q:Key):bu:=(al.find? λp=>decide (p.1=q)).map (·.2)
theorem qo{K:Ug}{H:Hp}(q:Key):∀{kvs:List (Key×V)}{al:List (Key×D)},kvs.map (·.1)=al.map (·.1)->aB K H (al.map (·.2)) (kvs.map (·.2))->(kF kvs q=none/\og al q=none)\/∃v d,kF kvs q=some v/\og al q=some d/\b9 K H d v
 |[],[],_,_=>.inl ⟨rfl,rfl⟩
 |p::r,a::al,e,h=>by
  rw[RH,RH]at e;injection e with e1 e2;rw[RH,RH,aK]at h;obtain⟨v,ws,h0,h1,h2⟩:=h;injection h0 with h0 h0';subst h0 h0';by_cases z:p.1=q
  ·refine .inr ⟨p.2,a.2,kK z,?_,h1⟩;unfold og;rw[Tv (by rw[<-e1];simpa using z)];rfl
  ·have ih:=qo q e2 h2;have g:og (a::al) q=og al q:=by
    unfold og;rw[Tx (by rw[<-e1];simpa using z)]
   rw[kt z,g];exact ih
 |[],_::_,e,_=>by cases e
 |_::_,[],e,_=>by cases e
noncomputable def Hj(dd k:D):Option (bu):=match dd with
 |.dct ks ds=>(kJ ks ds).bind λal=>(keyOf k).map λq=>og al q
 |_=>none
noncomputable def lU(dd k:D):bu:=(Hj dd k).bind id
noncomputable def jx(x y:D):bu:=(Hj y x).map λo=>.bl (!o.isSome)
theorem vp{dd k:D}{o:bu}(h:Hj dd k=some o):∃al q,dd=mC al/\k=bm q/\o=og al q:=by
 unfold Hj at h;split at h
 ·rename_i ks ds;cases e1:kJ ks ds with
  |none=>rw[e1]at h;cases h
  |some al=>
   rw[e1]at h;cases e2:keyOf k with
   |none=>rw[e2]at h;cases h
   |some q=>
    rw[e2]at h;cases h;obtain⟨h1,h2⟩:=qA e1;exact⟨al,q,by rw[h1,h2],kG e2,rfl⟩
 ·cases h
theorem Jp{X:Cx}{pins:bh}{σ:St}{H:Hp}{s:Vm}{O:aA}{al:List (Key×D)}{q:Key}{x y:V}(I:Inv X pins σ H s)(hb:b9 X.K (hid H O) (mC al) y)(ha:b9 X.K (hid H O) (bm q) x):
  ∃(a:Vj)(o:Option V)(H':Hp),y=.ref a/\Inv X pins σ H' s/\AG H' a x o/\(∀s',Inv X pins σ H' s'->Inv X pins σ H s')/\((o=none/\og al q=none)\/∃v d,o=some v/\og al q=some d/\b9 X.K (hid H O) d v):=by
 obtain⟨a,ey,hh⟩:=vP hb;have ex:=jo ha;subst ex;rcases hh with⟨kvs,k1,k2,k3⟩|⟨k1,rfl⟩
 ·exact⟨a,kF kvs q,H,ey,I,AG.k ((au H O) _ _ k1),λs' z=>z,qo q k2 k3⟩
 ·have k1':=(au H O) _ _ k1;refine⟨a,kF [] q,upd H a (.dK []),ey,Kz I k1',AG.k aH,λs' I4=>?_,.inl ⟨rfl,rfl⟩⟩;have I5:=Ij I4 aH;rw[Dk k1']at I5;exact I5
section
variable{X:Cx}
theorem sS(hu:X.A.units+64<VX):iK X (VB .NotIn) (rD X.K jx):=by
 rintro pins s σ H x y u v Q I rx ry ⟨O,a,b,d,hO,ha,hb,hg,q⟩;unfold jx at hg;cases e:Hj b a with
 |none=>rw[e]at hg;cases hg
 |some o=>
  rw[e]at hg;cases hg;obtain⟨al,qk,rfl,rfl,rfl⟩:=vp e;obtain⟨p,o,H',ey,I',g,bk,z⟩:=Jp I hb ha;subst ey;cases ry;refine Gb ‹0› I' g rx λs3 I3=>⟨.bl (!o.isSome),H,bk s3 I3,rfl,q _ H (bj.refl H) (jG.mpr ?_)⟩
  rcases z with⟨z1,z2⟩|⟨v,d,z1,z2,_⟩<;>rw[z1,z2]<;>rfl
end
noncomputable def zQ:List (FX×FX)->ak->R (List (D×D))
 |[],_=>.ok []
 |(fk,fv)::r,ρ=>(fk ρ).bind λk=>(fv ρ).bind λv=>(zQ r ρ).bind λps=>.ok ((k,v)::ps)
noncomputable def kB:List (D×D)->Option (List (Key×D))
 |[]=>some []
 |(k,v)::r=>(keyOf k).bind λk=>(kB r).map ((k,v)::·)
noncomputable def Bo(al:List (Key×D)):List (Key×D):=al.foldl (λm p=>mz m p.1 p.2) []
noncomputable def ng(ps:List (D×D)):bu:=(kB ps).bind λal=>if decide (al.length<=15)then some (mC (Bo al))else none
noncomputable def fj(fs:List (FX×FX)):FX:=λρ=>(wA (zQ fs ρ)).bind λps=>rO (ng ps)
theorem oj:∀{ps:List (D×D)}{al:List (Key×D)},kB ps=some al->ps=al.map λp=>(bm p.1,p.2)
 |[],_,h=>by cases h;rfl
 |(k,v)::r,al,h=>by
  unfold kB at h;cases e1:keyOf k with
  |none=>rw[e1]at h;cases h
  |some k'=>
   rw[e1]at h;cases e2:kB r with
   |none=>rw[e2]at h;cases h
   |some al'=>
    rw[e2]at h;cases h;rw[RH,oj e2,kG e1]
section
variable{X:Cx}
theorem w8{σ:St}{O:aA}{ρ:ak}:∀{fs:List (FX×FX)}{ps:List (D×D)}{H:Hp}{Q:List (V×V)->Hp->Prop},zQ fs ρ=.ok ps->cY X.K O H ρ σ->
  (∀(vs:List (V×V)) H',bj H H'->aB X.K (hid H' O) (ps.map (·.1)) (vs.map (·.1))->aB X.K (hid H' O) (ps.map (·.2)) (vs.map (·.2))->Q vs H')->uD (fs.map λp=>(tF X p.1,tF X p.2)) σ H Q
 |[],ps,H,Q,e,E,q=>by
  cases e;exact q [] H (bj.refl H) (cf.mpr rfl) (cf.mpr rfl)
 |(fk,fv)::r,ps,H,Q,e,E,q=>by
  unfold zQ at e;cases e1:fk ρ with
  |error z=>rw[e1]at e;cases e
  |ok k=>
   rw[e1]at e;have e:(fv ρ).bind (λv=>(zQ r ρ).bind λps=>.ok ((k,v)::ps))=.ok ps:=e;cases e2:fv ρ with
   |error z=>rw[e2]at e;cases e
   |ok v=>
    rw[e2]at e;have e:(zQ r ρ).bind (λps=>(.ok ((k,v)::ps):R (List (D×D))))=.ok ps:=e;cases e3:zQ r ρ with
    |error z=>rw[e3]at e;cases e
    |ok ps'=>
     rw[e3]at e;cases e;refine⟨O,ρ,E,?_⟩;show dX X σ O H (fk ρ) _;rw[e1];intro x H1 s1 d1;refine⟨O,ρ,E.same s1,?_⟩;show dX X σ O H1 (fv ρ) _;rw[e2];intro y H2 s2 d2;refine w8 e3 ((E.same s1).same s2) λvs H3 s3 d3 d4=>q ((x,y)::vs) H3 ((s1.trans s2).trans s3) ?_ ?_
     ·exact aK.mpr ⟨x,_,rfl,d1.mono (bC (s2.trans s3)),d3⟩
     ·exact aK.mpr ⟨y,_,rfl,d2.mono (bC s3),d4⟩
theorem kH{K:Ug}{H:Hp}:∀{al:List (Key×D)}{vs:List (V×V)},aB K H ((al.map λp=>(bm p.1,p.2)).map (·.1)) (vs.map (·.1))->aB K H ((al.map λp=>(bm p.1,p.2)).map (·.2)) (vs.map (·.2))->
  ∃kvs:List (Key×V),vs=kvs.map (λkv=>(kV kv.1,kv.2))/\kvs.map (·.1)=al.map (·.1)/\aB K H (al.map (·.2)) (kvs.map (·.2))
 |[],[],_,_=>⟨[],rfl,rfl,cf.mpr rfl⟩
 |[],_::_,h,_=>by rw[R7,R7,cf]at h;cases h
 |_::_,[],h,_=>by
  rw[RH,RH,aK]at h;obtain⟨_,_,e,_⟩:=h;cases e
 |p::al,w::vs,h1,h2=>by
  rw[RH,RH,RH,aK]at h1 h2;obtain⟨a,as,ea,ha,has⟩:=h1;obtain⟨b,bs,eb,hb,hbs⟩:=h2;injection ea with ea eas;injection eb with eb ebs;subst ea eas eb ebs;obtain⟨kvs,e1,e2,e3⟩:=kH has hbs;refine⟨(p.1,w.2)::kvs,?_,by rw[RH,RH,e2],aK.mpr ⟨w.2,_,rfl,hb,e3⟩⟩;rw[RH,e1,<-jo ha]
theorem qN{K:Ug}{H:Hp}:∀{al:List (Key×D)}{kvs:List (Key×V)}{al0:List (Key×D)}{kvs0:List (Key×V)},kvs.map (·.1)=al.map (·.1)->aB K H (al.map (·.2)) (kvs.map (·.2))->kvs0.map (·.1)=al0.map (·.1)->aB K H (al0.map (·.2)) (kvs0.map (·.2))->
  (kvs.foldl (λacc kv=>putK acc kv.1 kv.2) kvs0).map (·.1)=(al.foldl (λm p=>mz m p.1 p.2) al0).map (·.1)/\aB K H ((al.foldl (λm p=>mz m p.1 p.2) al0).map (·.2)) ((kvs.foldl (λacc kv=>putK acc kv.1 kv.2) kvs0).map (·.2))
 |[],[],_,_,_,_,e0,h0=>⟨e0,h0⟩
 |p::al,kv::kvs,al0,kvs0,e,h,e0,h0=>by
  rw[RH,RH]at e;injection e with e1 e2;rw[RH,RH,aK]at h;obtain⟨v,ws,h1,h2,h3⟩:=h;injection h1 with h1 h1';subst h1 h1';rw[Ti,Ti];rw[e1];exact qN e2 h3 (tW e0 p.1 kv.2 p.2) (vV h2 e0 h0)
 |[],_::_,_,_,e,_,_,_=>by cases e
 |_::_,[],_,_,e,_,_,_=>by cases e
theorem qS{pos:Pos}{keys:List (Option Vk)}{values:bx}{fs:List (FX×FX)}(h:Kk X pos keys values (fs.map λp=>(tF X p.1,tF X p.2)))(hall:keys.all (·.isSome)=true)(hl:keys.length=values.length)(h0:keys≠[])(h15:keys.length<=15):
  FE X (.Dict keys values pos) (fj fs):=PE.weak (yH h hall hl h0 h15) λσ H Q ⟨O,ρ,E,hF⟩ p hp=>by
 unfold fj at hF;cases e:zQ fs ρ with
 |error z=>rw[e]at hF;exact hF.elim
 |ok ps=>
  rw[e]at hF;obtain⟨d,hg,q⟩:=dX.rO (show dX X σ O H (rO (ng ps)) _ from hF);unfold ng at hg;cases ek:kB ps with
  |none=>rw[ek]at hg;cases hg
  |some al=>
   rw[ek]at hg;obtain⟨z15,hd⟩:=aZ (show(if decide (al.length<=15)then some (mC (Bo al))else none)=some d from hg);have z15:=of_decide_eq_true z15;subst hd;have e0:=oj ek;subst e0;refine w8 e (E.hideNew (o:=.dK []) trivial hp) λvs H2 s2 d1 d2=>?_;obtain⟨kvs,e1,e2,e3⟩:=kH d1 d2;have hp2:H2 p=some (.dK []):=s2 _ _ aH;have pO:p∉O:=E.all.not hp;refine⟨hp2,kvs,e1,?_,q _ _ ?_ ?_⟩
   ·have:=congrArg List.length e2
    rw[RJ,RJ]at this;omega
   ·intro b u hb;have ne:=aY hb hp;rw[aM ne];exact s2 b u (by rw[aM ne];exact hb)
   ·have sm:bj (hid H2 (p::O)) (hid (upd H2 p (.dK (jF [] kvs))) O):=(iz Ru).trans (iM λa ha=>Rv _ ha);obtain⟨f1,f2⟩:=qN (al0:=[]) (kvs0:=[]) e2 (e3.mono sm) rfl (cf.mpr rfl);refine MM.mpr ⟨p,_,rfl,f2,.inl ⟨jF [] kvs,by rw[dH pO];exact aH,?_,rfl⟩⟩;exact ub f1
end
end TG
namespace TG
open PySem PySem.Spec PySem.Calls L2
variable[aw]
end TG
namespace TG
open PySem PySem.Spec L2
variable[aw]
noncomputable def xY:FX:=λ_=>un
end TG
namespace TG
open PySem PySem.Spec PySem.Calls L2
variable[aw]
section
variable{X:Cx}{pos:Pos}
theorem z8{pos:Pos}{keys:List (Option Vk)}{values:bx}{fs:List (FX×FX)}(h:Kk X pos keys values (fs.map λp=>(tF X p.1,tF X p.2)))(hall:keys.all (·.isSome)=true)(hl:keys.length=values.length)(h0:keys≠[])(h15:keys.length<=15):
  FN X (.Dict keys values pos) (fj fs):=PE.weak (yH h hall hl h0 h15) λσ H Q ⟨O,ρ,E,hF⟩ p hp=>by
 unfold fj at hF;cases e:zQ fs ρ with
 |error z=>rw[e]at hF;exact hF.elim
 |ok ps=>
  rw[e]at hF;obtain⟨d,hg,q⟩:=dX.rO (show dX X σ O H (rO (ng ps)) _ from hF);unfold ng at hg;cases ek:kB ps with
  |none=>rw[ek]at hg;cases hg
  |some al=>
   rw[ek]at hg;obtain⟨z15,hd⟩:=aZ (show(if decide (al.length<=15)then some (mC (Bo al))else none)=some d from hg);have z15:=of_decide_eq_true z15;subst hd;have e0:=oj ek;subst e0;refine w8 e (E.hideNew (o:=.dK []) trivial hp) λvs H2 s2 d1 d2=>?_;obtain⟨kvs,e1,e2,e3⟩:=kH d1 d2;have hp2:H2 p=some (.dK []):=s2 _ _ aH;refine⟨hp2,kvs,e1,?_,q p _ ?_ hp ⟨_,aH,trivial⟩ ?_⟩
   ·have:=congrArg List.length e2
    rw[RJ,RJ]at this;omega
   ·intro b u hb;have ne:=aY hb hp;rw[aM ne];exact s2 b u (by rw[aM ne];exact hb)
   ·have sm:bj (hid H2 (p::O)) (hid (upd H2 p (.dK (jF [] kvs))) (p::O)):=iz Ru;obtain⟨f1,f2⟩:=qN (al0:=[]) (kvs0:=[]) e2 (e3.mono sm) rfl (cf.mpr rfl);exact⟨_,_,aH,f2,.inl ⟨jF [] kvs,rfl,ub f1,rfl⟩⟩
end
end TG
namespace TG
open PySem PySem.Spec PySem.Calls L2
variable[aw]
section
variable{X:Cx}{pos:Pos}
theorem G2{f:FX}(is:List Nat){σ:St}{H:Hp}{Q:V->Hp->Prop}(h:tF X (gE is f) σ H Q):tF X f σ H Q:=by
 obtain⟨O,ρ,E,hF⟩:=h;obtain⟨O',E',gone⟩:=cY.frzs2 is E;refine⟨O',TG.frzs is ρ,E',?_⟩;unfold gE at hF;cases hf:f (TG.frzs is ρ)with
 |error z=>rw[hf]at hF;exact hF.elim
 |ok d=>
  rw[hf]at hF;have hF':dX X σ O H (uZ is ρ d) _:=hF;cases d with
  |lst ds=>
   have hF':dX X σ O H (if yf ds&&hdS ds&&is.all (offA ρ)then(.ok (D.lst ds):R D)else un) _:=hF';cases hl:(yf ds&&hdS ds&&is.all (offA ρ))with
   |false=>rw[hl]at hF';exact hF'.elim
   |true=>
    rw[hl]at hF';rw[R3,R3]at hl;obtain⟨⟨l1,l2⟩,l3⟩:=hl;refine λv H' s' dv=>hF' v H' s' ?_;obtain⟨a,vs,ev,sq,dn⟩:=b8.mp dv;have dn':=nq (E.all.same s') l1 dn;refine b8.mpr ⟨a,vs,ev,?_,dn'⟩;rcases sq with(sq|⟨o,sq⟩)|sq
    ·have na:a∉O':=λz=>by
      unfold hid at sq;rw[if_pos z]at sq;cases sq
     have no:a∉O:=λha=>by
      obtain⟨i,hi,d',q1,q2⟩:=gone a ha na;obtain⟨b,q3,q4,q5⟩:=E.own i d' q1;rw[q2]at q3;cases q3;have of:Gp d'=true:=by
       have:=List.all_eq_true.mp l3 i hi
       unfold offA at this;rw[q1]at this;exact this
      have hb:H a=H' a:=(by obtain⟨_,z⟩:=q5.some;exact kQ s' z);rw[dH na,<-hb]at sq;cases d' with
      |lst xs=>
       obtain⟨o,ws,e1,e2,e3⟩:=q5;subst e2;rw[e1]at sq;cases sq;cases ds with
       |nil=>cases l2
       |cons d0 ds=>
        cases d0 with
        |str w=>
         obtain⟨v0,r0,e0,f1,_⟩:=aK.mp dn;subst e0;have f1:=eD.mp f1;subst f1;cases xs with
         |nil=>cases cf.mp e3
         |cons x xs=>
          obtain⟨v1,r1,e1',g1,_⟩:=aK.mp e3;cases e1';cases x with
          |tup ys=>
           obtain⟨c,cs,z,_⟩:=bW.mp g1;cases z
          |_=>cases of
        |_=>cases l2
      |_=>cases of
     rw[dH na]at sq;exact .inl (.inl (by rw[dH no];exact sq))
    ·have q':=au H' O' a _ sq;refine .inl (.inr ⟨o,?_⟩);rw[dH λz=>by obtain⟨u,e1,e2⟩:=(E.all.same s').2 a z;rw[q']at e1;cases e1;exact e2.elim];exact q'
    ·exact .inr sq
  |_=>exact hF'.elim
end
end TG
namespace L2
open PySem PySem.Spec PyProof.Rows
theorem yg{a b c:Int}(hc:0<c):0<=Builtin.Range.rangeSize a b c/\Builtin.Range.rangeSize a b c<=if a<b then b-a else 0:=by
 unfold Builtin.Range.rangeSize;rw[if_pos hc];by_cases h:a<b
 ·rw[if_pos h,if_pos h];have h1:0<=(b-a-1)/c:=Int.ediv_nonneg ‹0› ‹0›;have h2:(b-a-1)/c<=b-a-1:=Int.ediv_le_self _ ‹0›;omega
 ·rw[if_neg h,if_neg h];omega
theorem DH{a b c:Int}(ha:-(2^31)<=a)(ha':a<2^31)(hb:-(2^31)<=b)(hb':b<2^31)(hc:0<c)(hc':c<2^31):Builtin.Range.small a b c=true:=by
 have s:=yg (a:=a) (b:=b) hc;have s2:Builtin.Range.rangeSize a b c<=2^32:=by
  refine Int.le_trans s.2 ?_;split<;>omega
 unfold Builtin.Range.small;generalize Builtin.Range.rangeSize a b c=n at *;simp only[Builtin.Range.rangeFitsLong,R3,SF,decide_eq_true_eq,beq_iff_eq];refine⟨⟨⟨⟨⟨by omega,by omega⟩,by omega,by omega⟩,by omega,by omega⟩,by omega,by omega⟩,.inr ?_⟩;rw[if_pos hc,decide_eq_true ‹0›,decide_eq_true ‹0›];rfl
noncomputable def MJ(lo c:Int)(n:Nat):It:=⟨λi _=>i<n,λi H x H'=>H'=H/\x=.int (lo+(i:Nat)*c),λi _=>n<=i⟩
theorem Fh{P:Vo}{w:Vn}{K:Ug}{tg:Vk}(it:Vj)(lo c:Int)(n:Nat):Turn P w K tg (MJ lo c n) [it] it (λi h=>VJ h it (lo+(i:Nat)*c) ((n:Int)-(i:Nat)) c)where
 mem:=by simp
 obj:=λi h st b hb=>by
  have e:b=it:=by simpa using hb
  subst e;exact⟨_,st,λv z=>by
   have z':Data.fields _=Data.cell v:=z;cases z'⟩
 keep:=λi h h' st k=>k it (by simp) _ st
 item:=by
  intro X hP hw hK hc i pins s σ H E I hf st hg;subst hP hw hK;obtain⟨f0,f1,f2,f3,f4,f5⟩:=hf it (by simp);have W:=Walks.range (prog:=X.prog) (w:=X.w) (I.ok.hd hc) it lo c n;refine W.item i s _ _ hg st λv h' tk hv st' kk=>?_;obtain⟨t,rfl⟩:=hv;have I1:Inv X pins σ H {s with heap:=h',toks:=tk}:=I.turned (λb o hb e=>kk b o (by simpa using hb) e) f0 f1 f3 f4 f5;exact⟨_,rfl,yz (s:={s with heap:=h',toks:=tk}) (n:="range_iterator") st' rfl rfl (by decide) ⟨.int (lo+(i:Nat)*c),H,I1,⟨t,rfl⟩,⟨rfl,rfl⟩,st',λb hb=>(hf b hb).1⟩⟩
 done:=by
  intro X hP hw hK hc i pins s σ H E I hf st hg;subst hP hw hK;obtain⟨f0,f1,f2,f3,f4,f5⟩:=hf it (by simp);exact wpAny_pyNext_range_end (I.ok.hd hc) st (by have:n<=i:=hg;omega) λh' eb=>⟨rfl,I.turned (t':=s.toks) (λb o hb e=>eb b o hb e) f0 f1 f3 f4 f5⟩
 self:=λ_ _ _ _ _ st h=>wpAny_pyIter_rangeiter st h
section
variable{X:Cx}{tg:Vk}
theorem LW{pins:bh}{σ:St}{H:Hp}{s:Vm}{R:It->Hp->Prop}{E:bT}{lo hi c:Int}{t u v:Tok}{tk:Nat}(I:Inv X pins σ H s)(h1:-(2^31)<=lo)(h2:lo<2^31)(h3:-(2^31)<=hi)(h4:hi<2^31)(h5:0<c)(h6:c<2^30)
  (q:R (MJ lo c (Builtin.Range.rangeSize lo hi c).toNat) H):Vx (model X.prog X.w) X.A (pyIter (.ref s.heap.objs.size)) (PIE X pins σ tg R) E {s with heap:=s.heap.push {cls:=.type "range",data:=.fields #[.int lo t,.int hi u,.int c v]},toks:=tk}:=by
 refine wpAny_pyIter_range (IsRange.new ..) (DH h1 h2 h3 h4 h5 ‹0›) ?_;have I1:Inv X pins σ H {s with heap:=s.heap.push {cls:=.type "range",data:=.fields #[.int lo t,.int hi u,.int c v]},toks:=tk}:=I.kept λb o e=>UY _ e;refine⟨(s.heap.push {cls:=.type "range",data:=.fields #[.int lo t,.int hi u,.int c v]}).objs.size,[(s.heap.push {cls:=.type "range",data:=.fields #[.int lo t,.int hi u,.int c v]}).objs.size],_,_,H,rfl,
  I1.kept (t':=tk) λb o e=>UY _ e,Fh _ lo c (Builtin.Range.rangeSize lo hi c).toNat,?_,λb hb=>?_,q⟩
 ·have s0:=(yg (a:=lo) (b:=hi) h5).1;have e1:lo+((0:Nat):Int)*c=lo:=by simp
  have e2:(((Builtin.Range.rangeSize lo hi c).toNat:Nat):Int)-((0:Nat):Int)=Builtin.Range.rangeSize lo hi c:=by omega
  show VJ _ _ (lo+((0:Nat):Int)*c) ((((Builtin.Range.rangeSize lo hi c).toNat:Nat):Int)-((0:Nat):Int)) c;rw[e1,e2];exact UZ _ rfl
 ·have e:b=(s.heap.push {cls:=.type "range",data:=.fields #[.int lo t,.int hi u,.int c v]}).objs.size:=by simpa using hb
  subst e;exact I1.fpOk (RB _) (I1.hok.fresh (RB _))
noncomputable def Ly(ta:TA):TI:=λσ H R=>ta σ H λvs H1=>∃i j c:Int,vs=[.int i,.int j,.int c]/\(-(2^31)<=i/\i<2^31/\-(2^31)<=j/\j<2^31/\0<c/\c<2^30)/\R (MJ i c (Builtin.Range.rangeSize i j c).toNat) H1
theorem zm{a b c:Vk}{ta:TA}{p pos:Pos}(hg:Gl X "range")(hm:X.mg "range"=none)(ha:PA X [a,b,c] ta)(hs:Vy [a,b,c] X.env=[(false,eval a X.env),(false,eval b X.env),(false,eval c X.env)]:=by rfl)(hs2:Vy [b,c] X.env=[(false,eval b X.env),(false,eval c X.env)]:=by rfl):
  PI X tg (.Call (.Name "range" p) [a,b,c] [] pos) (Ly ta):=by
 intro pins s σ H R I h;refine Call_ (kC I hg hm boot_range (U5 (cE (ha pos pins s σ H _ I h) λus s1 ⟨vs,H1,I1,r1,q1⟩=>?_) (by rw[hs,hs2]) (by rw[hs2];rfl)));obtain⟨i,j,c,e,⟨q1,q2,q3,q4,q5,q6⟩,q⟩:=q1;subst e;cases r1 with
 |cons r rr=>
  cases rr with
  |cons r' rr=>
   cases rr with
   |cons r'' rr=>
    cases rr;obtain⟨t,rfl⟩:=r;obtain⟨t',rfl⟩:=r';obtain⟨t'',rfl⟩:=r'';exact call_range_3 ‹0› (LW I1 q1 q2 q3 q4 q5 q6 q) (.inl (PyProof.noPylong_small ‹0›))
end
end L2
namespace TG
open PySem PySem.Spec L2
variable[aw]
noncomputable def G4(lo c:Int)(n:Nat):List D:=(List.range n).map λ(k:Nat)=>D.int (lo+(k:Int)*c)
theorem yo(lo c:Int)(n:Nat):(G4 lo c n).length=n:=by unfold G4;rw[RJ,SL]
theorem G0{K:Ug}{Hd:Hp}(lo c:Int)(n:Nat):Walk K Hd (MJ lo c n) (G4 lo c n):=λHn O' i hO s=>
  ⟨fun d e=>by
    unfold G4 at e;rw[RX]at e;cases hi:(List.range n)[i]? with
    |none=>rw[hi]at e;cases e
    |some k=>
      rw[hi]at e;cases e;have hlt:i<n:=by
        have:=(List.getElem?_eq_some_iff.mp hi).1
        rwa [SL]at this
      have ek:k=i:=by
        rw[SN hlt]at hi;exact(Option.some.inj hi).symm
      subst ek;exact⟨hlt,λx H2 ⟨e1,e2⟩=>by subst e1;exact⟨bj.refl _,eS.mpr e2⟩⟩,
   λhl=>by rw[yo]at hl;exact RK hl.symm⟩
noncomputable def zu(i:Int):Bool:=decide (-(2^31)<=i/\i<2^31)
noncomputable def mV:List D->Option (List D)
 |[.int i,.int j,.int k]=>if decide (0<k/\k<2^30)&&(zu i&&zu j)then some (G4 i k (Builtin.Range.rangeSize i j k).toNat)else none
 |_=>none
noncomputable def mX(f:aW):aW:=λρ=>(f ρ).bind λds=>rO (mV ds)
end TG
namespace TG
open PySem PySem.Spec PySem.Calls L2
variable[aw]
end TG
namespace TX
open PySem PySem.Spec L2 TG
variable[aw]
structure XE(X:Cx)(e:Vk)(F:FX):Prop where h:FE X e F
structure XT(X:Cx)(e:Vk)(F:b6):Prop where h:FT X e F
structure XW(X:Cx)(e:Vk)(F:b6):Prop where h:FW X e F
structure XA(X:Cx)(e:bx)(F:aW):Prop where h:FA X e F
structure XS(X:Cx)(e:Vl)(F:bN):Prop where h:FS X e F
structure uC(X:Cx)(e:dZ)(F:bN):Prop where h:Pj X e F
structure XI(X:Cx)(t e:Vk)(F:aW):Prop where h:FI X t e F
structure XG(X:Cx)(e:Vk)(F:GF):Prop where h:FG X e F
structure JM(X:Cx)(e:bx)(F:D6):Prop where h:Qn X e F
structure XO(X:Cx)(e:Option Vk)(F:ak->R dA):Prop where h:FO X e F
structure XN(X:Cx)(e:Vk)(F:FX):Prop where h:FN X e F
structure Ld(X:Cx)(e:bx)(F:b6):Prop where h:PH X e F
structure XV(X:Cx)(e:Vk)(i:Nat):Prop where h:PE X e (ua i)
structure XB(X:Cx)(scope:Vv)(N:av)(tg elt:Vk)(ifs:bx)(g:GF)(C:b6)(Fe:FX)(cl:oM)(C':Vj)(fp:aA)(s:Vm)(H:Hp)(E:bT):Prop where
 a:XG (cv X scope N cl C' fp s H E) tg g
 b:Ld (cv X scope N cl C' fp s H E) ifs C
 c:XE (cv X scope N cl C' fp s H E) elt Fe
structure pG(X:Cx)(scope:Vv)(N:av)(tg elt:Vk)(ifs:bx)(g:GF)(C:b6)(Fe:FX):Prop where
 q:∀cl C' fp s H E,XB X scope N tg elt ifs g C Fe cl C' fp s H E
theorem pG.h{X:Cx}{scope:Vv}{N:av}{tg elt:Vk}{ifs:bx}{g:GF}{C:b6}{Fe:FX}(x:pG X scope N tg elt ifs g C Fe):Pw X scope N tg elt ifs g C Fe:=λcl C' fp s H E=>⟨(x.q cl C' fp s H E).a.h,(x.q cl C' fp s H E).b.h,(x.q cl C' fp s H E).c.h⟩
theorem xv{X:Cx}(i:Nat){x:Str}{pos:Pos}(hN:X.N[i]?=some x:=by rfl)(hv:Kh X.env.scope x:=by first|exact Or.inl rfl|exact Or.inr (Or.inl rfl)|exact Or.inr (Or.inr rfl))(hd:(x==("__debug__":Str))=false:=by decide)
  (hcd:(x==("__classdict__":Str))=false:=by decide):XV X (.Name x pos) i:=⟨pv i hN hv hd hcd⟩
theorem Pq{X:Cx}{e:Vk}{f:b6}(h:XW X e f):XT X e f:=⟨FW.ft h.h⟩
theorem BH{X:Cx}{i:Nat}{x:Str}{idx value:Vk}{fi fv:FX}{npos tpos pos:Pos}(hx:XV X (.Name x npos) i)(hi:XE X idx fi)(hv:XE X value fv)
  (hs:swapsWithSole [.Subscript (.Name x npos) idx tpos] value pos.line X.env=pure false:=by rfl) (hw:swappedStores [.Subscript (.Name x npos) idx tpos] value X.env=pure none:=by rfl)
  (h1:(assignEach [.Subscript (.Name x npos) idx tpos] X.env).map (·.2)=[assign (.Subscript (.Name x npos) idx tpos) X.env]:=by rfl)
  (ha:∀ v,assign (.Subscript (.Name x npos) idx tpos) X.env v=(do
   let ov<-holding [v] (eval (.Name x npos) X.env)
   let iv<-holding [v,ov] (eval idx X.env)
   standAt tpos
   holding [v,ov,iv] (setItem ov iv v)
   release [v,ov,iv] []):=by intro _;rfl):XS X (.Assign [.Subscript (.Name x npos) idx tpos] value pos) (lY i fi fv):=⟨Gn hx.h hi.h hv.h hs hw h1 (IU hx.h hi.h set_list ha)⟩
section
variable[aw]{X:Cx}
theorem Gw{i:Nat}{x:Str}{pos:Pos}(h:XV X (.Name x pos) i):XE X (.Name x pos) (af i):=⟨PE.weak h.h λσ H Q ⟨O,ρ,E,hF⟩=>by
  obtain⟨d,e,q⟩:=Au hF;obtain⟨v,e,dv⟩:=E.val i d e;exact⟨v,e,q v H (bj.refl H) dv⟩⟩
theorem Ee{i j pos}:XE X (.Constant (.int i) j pos) (fC (.int i)):=⟨mL Js λ_ _=>eS.mpr rfl⟩
theorem Jm{b j pos}:XE X (.Constant (.bool b) j pos) (fC (.bl b)):=⟨mL Kr λ_ _=>jG.mpr rfl⟩
theorem GX{j pos}:XE X (.Constant .none j pos) (fC .non):=⟨mL Iq λ_ _=>jD.mpr rfl⟩
theorem GD{x j pos}:XE X (.Constant (.str x) j pos) (fC (.str x)):=⟨mL JB λ_ _=>eD.mpr rfl⟩
theorem GO:XA X [] ah:=⟨TG.OU ⟩
theorem Dr{e:Vk}{es:bx}{f:FX}{g:aW}(he:XE X e f)(hs:XA X es g)(hns:noStar e=true:=by rfl):XA X (e::es) (ae f g):=⟨TG.MB he.h hs.h hns⟩
theorem Fi{es:bx}{g:aW}{k pos}(h:XA X es g):XE X (.Tuple es k pos) (cA g):=⟨PE.weak (JH h.h) λσ H Q ⟨O,ρ,E,hF⟩=>⟨O,ρ,E,(dX.bind hF).imp λxs hF vs H1 s1 d1=>by
  obtain⟨d,e,q⟩:=dX.rO hF;obtain⟨hz,e⟩:=aZ e;subst e;refine⟨by rw[<-d1.length];exact dJ hz,λp hp=>?_⟩;exact q _ _ (s1.trans (bQ hp _)) (eO (E.all.same s1) hp d1)⟩⟩
theorem GB{es:bx}{g:aW}{pos}(h:XA X es g):XE X (.List es pos) (fh g):=⟨PE.weak (AW h.h) λσ H Q ⟨O,ρ,E,hF⟩=>⟨O,ρ,E,(dX.bind hF).imp λxs hF vs H1 s1 d1=>by
  obtain⟨d,e,q⟩:=dX.rO hF;obtain⟨hz,e⟩:=aZ e;subst e;refine⟨by rw[<-d1.length];exact dJ hz,λp hp=>?_⟩;exact q _ _ (s1.trans (bQ hp _)) (cZ (E.all.same s1) hp d1)⟩⟩
theorem gJ{a b:Vk}{op:Operator}{r:R2}{g:D->D->bu}{fa fb:FX}{pos:Pos}(ho:iK X (VP op) r)(s:cQ X.K r g)(ha:XE X a fa)(hb:XE X b fb):XE X (.BinOp a op b pos) (f2 g fa fb):=⟨PE.weak (LO ho ha.h hb.h) (uf s)⟩
theorem ir{a b:Vk}{op:VA}{r:R2}{g:D->D->bu}{fa fb:FX}{pos:Pos}(ho:iK X (VB op) r)(s:cQ X.K r g)(ha:XE X a fa)(hb:XE X b fb)(hm:VC op b=false):XE X (.Compare a [op] [b] pos) (f2 g fa fb):=⟨PE.weak (Gx ho ha.h hb.h hm) (uf s)⟩
theorem iF{a b:Vk}{op:VA}{r:R2}{g:D->D->bu}{fa fb:FX}{pos:Pos}(ho:iK X (VB op) r)(s:cQ X.K r g)(ha:XE X a fa)(hb:XE X b fb)(hm:VC op b=false):XT X (.Compare a [op] [b] pos) (fB (f2 g fa fb)):=⟨PT.weak (EY ho ha.h hb.h hm) (qD (uf s))⟩
end
section
variable[aw]{X:Cx}{a b c:Vk}{rest:bx}{pos:Pos}{f g:b6}
theorem Fz(h:XT X a f):XT X (.UnaryOp .Not a pos) (nH f):=⟨PT.weak (HU h.h) λσ H Q ⟨O,ρ,E,hF⟩=>⟨O,ρ,E,(dX.bind hF).imp λb q H1 s1=>q H1 s1⟩⟩
theorem A7(h:XT X a f):XW X (.BoolOp .And [a] pos) f:=⟨D9 h.h⟩
theorem Fc(h:XT X a f):XW X (.BoolOp .Or [a] pos) f:=⟨Je h.h⟩
theorem Gs(ha:XT X a f)(hb:XW X (.BoolOp .And (b::rest) pos) g):XW X (.BoolOp .And (a::b::rest) pos) (jT f g):=⟨PW.weak (HQ ha.h hb.h) λσ H Q ⟨O,ρ,E,hF⟩=>⟨O,ρ,E,(dX.bind hF).imp λc hF H1 s1=>by
 cases c with
 |true=>exact vt ⟨O,ρ,E.same s1,(hF.mono s1).imp λb q H2 s2=>q H2 (s1.trans s2)⟩
 |false=>exact vT (hF H1 s1)⟩⟩
theorem Jc(ha:XT X a f)(hb:XW X (.BoolOp .Or (b::rest) pos) g):XW X (.BoolOp .Or (a::b::rest) pos) (BK f g):=⟨PW.weak (LA ha.h hb.h) λσ H Q ⟨O,ρ,E,hF⟩=>⟨O,ρ,E,(dX.bind hF).imp λc hF H1 s1=>by
 cases c with
 |false=>exact vT ⟨O,ρ,E.same s1,(hF.mono s1).imp λb q H2 s2=>q H2 (s1.trans s2)⟩
 |true=>exact vt (hF H1 s1)⟩⟩
end
section
variable[aw]{X:Cx}{a b c:Vk}{rest:bx}{pos:Pos}{f g:b6}{fa fb:FX}
theorem Ec{op}(h:XE X a fa):XE X (.BoolOp op [a] pos) fa:=⟨J2 h.h⟩
theorem FR(ha:XE X a fa)(hb:XE X (.BoolOp .And (b::rest) pos) fb):XE X (.BoolOp .And (a::b::rest) pos) (me fa fb):=⟨PE.weak (Ip ha.h hb.h) λσ H Q ⟨O,ρ,E,hF⟩=>⟨O,ρ,E,(dX.bind hF).imp λd hF x H1 s1 d1=>by
 cases d with
 |bl c=>
  refine⟨c,jG.mp d1,?_⟩;cases c with
  |true=>exact vt ⟨O,ρ,E.same s1,(hF.mono s1).imp λd q v H2 s2 d2=>q v H2 (s1.trans s2) d2⟩
  |false=>exact vT (hF _ H1 s1 (jG.mpr rfl))
 |_=>exact hF.elim⟩⟩
theorem JU(ha:XE X a fa)(hb:XE X (.BoolOp .Or (b::rest) pos) fb):XE X (.BoolOp .Or (a::b::rest) pos) (xH fa fb):=⟨PE.weak (Le ha.h hb.h) λσ H Q ⟨O,ρ,E,hF⟩=>⟨O,ρ,E,(dX.bind hF).imp λd hF x H1 s1 d1=>by
 cases d with
 |bl c=>
  refine⟨c,jG.mp d1,?_⟩;cases c with
  |false=>exact vT ⟨O,ρ,E.same s1,(hF.mono s1).imp λd q v H2 s2 d2=>q v H2 (s1.trans s2) d2⟩
  |true=>exact vt (hF _ H1 s1 (jG.mpr rfl))
 |_=>exact hF.elim⟩⟩
theorem Ej(ha:XE X a fa):XE X (.UnaryOp .Not a pos) (qf fa):=⟨PE.weak (Jy ha.h) λσ H Q ⟨O,ρ,E,hF⟩=>⟨O,ρ,E,(dX.bind hF).imp λd hF x H1 s1 d1=>by
 obtain⟨d',e,q⟩:=dX.rO hF;cases d with
 |bl c=>
  cases e;exact⟨c,jG.mp d1,q _ H1 s1 (jG.mpr rfl)⟩
 |_=>cases e⟩⟩
theorem Io(hc:XT X c f)(ha:XE X a fa)(hb:XE X b fb):XE X (.IfExp c a b pos) (zY f fa fb):=⟨PE.weak (Dd hc.h ha.h hb.h) λσ H Q ⟨O,ρ,E,hF⟩=>⟨O,ρ,E,(dX.bind hF).imp λd hF H1 s1=>by
 cases d with
 |true=>exact vt ⟨O,ρ,E.same s1,(hF.mono s1).imp λd q v H2 s2 d2=>q v H2 (s1.trans s2) d2⟩
 |false=>exact vT ⟨O,ρ,E.same s1,(hF.mono s1).imp λd q v H2 s2 d2=>q v H2 (s1.trans s2) d2⟩⟩⟩
end
section
variable[aw]{X:Cx}
theorem Ia{a b:Vk}{fa fb:FX}{pos:Pos}(ha:XE X a fa)(hb:XE X b fb)(hs:uc b):XE X (.Subscript a b pos) (f2 ao fa fb):=⟨PE.weak (L9 O0 ha.h hb.h hs) (uf cj)⟩
theorem DL:XO X none fZ:=⟨λpins s σ H Q I ⟨O,ρ,E,q⟩=>Fg pins s σ H Q I (q H (bj.refl H))⟩
theorem CI{e:Vk}{f:FX}(h:XE X e f):XO X (some e) (il f):=⟨λpins s σ H Q I ⟨O,ρ,E,hF⟩=>
 Fv h.h pins s σ H Q I ⟨O,ρ,E,(dX.bind hF).imp λd hF v H1 s1 d1=>by
  obtain⟨o,e,q⟩:=dX.rO hF;cases d with
  |int i=>
   cases e;exact⟨i,eS.mp d1,q H1 s1⟩
  |_=>cases e⟩⟩
theorem zC{e:Vk}{f:FX}{l h:ak->R dA}{lo hi:Option Vk}{p2 pos:Pos}(he:XE X e f)(hl:XO X lo l)(hh:XO X hi h):XE X (.Subscript e (.Slice lo hi none p2) pos) (gA f l h):=⟨PE.weak (Bx Of he.h hl.h hh.h) λσ H Q ⟨O,ρ,E,hF⟩=>⟨O,ρ,E,(dX.bind hF).imp λa hF x H1 s1 d1=>⟨O,ρ,E.same s1,((dX.bind hF).mono s1).imp λlo' hF H2 s2=>⟨O,ρ,E.same (s1.trans s2),((dX.bind hF).mono (s1.trans s2)).imp λhi' hF H3 s3=>by
  obtain⟨d,e,q⟩:=dX.rO hF;exact⟨O,a,d,E.all.same ((s1.trans s2).trans s3),d1.mono (bC (s2.trans s3)),e,λv H4 s4 d4=>q v H4 (((s1.trans s2).trans s3).trans s4) d4⟩⟩⟩⟩⟩
end
section
variable[aw]{X:Cx}{x:Str}{p pos:Pos}{e:Vk}{es:bx}{id T:String}{g:List D->bu}{f:aW}
theorem gP(hc:dg X (.builtin id) (wn X.K g))(hg:Gl X x)(hm:X.mg x=none)(hv:Vt x=some (.builtin id))(ha:XA X (e::es) f)(hn:x≠"__name__":=by decide)(hdb:(x==("__debug__":Str))=false:=by decide)(hns:(e::es).all noStar=true:=by rfl):XE X (.Call (.Name x p) (e::es) [] pos) (fL g f):=⟨PE.weak (qF hc hg hm hv ha.h hn hdb (dE (R3 _ _ ▸ hns).1) (eV (R3 _ _ ▸ hns).2)) (CF qH)⟩
theorem fA(hc:dg X (.type T) (wn X.K g))(hg:Gl X x)(hm:X.mg x=none)(hv:Vt x=some (.type T))(ha:XA X (e::es) f)(hn:x≠"__name__":=by decide)(hdb:(x==("__debug__":Str))=false:=by decide)(hns:(e::es).all noStar=true:=by rfl):XE X (.Call (.Name x p) (e::es) [] pos) (fL g f):=⟨PE.weak (tu hc hg hm hv ha.h hn hdb (dE (R3 _ _ ▸ hns).1) (eV (R3 _ _ ▸ hns).2)) (CF qH)⟩
theorem qc{f:FX}{xT:Str}{p2:Pos}(ok:xo X.K T)(hg:Gl X "isinstance")(hm:X.mg "isinstance"=none)(hgT:Gl X xT)(hmT:X.mg xT=none)(hvT:Vt xT=some (.type T))(he:XE X e f)(hn2:xT≠"__name__":=by decide)(hd2:(xT==("__debug__":Str))=false:=by decide)(hns:noStar e=true:=by rfl):XE X (.Call (.Name "isinstance" p) [e,.Name xT p2] [] pos) (pF T f):=⟨PE.weak (qF (BZ ok) hg hm vY (nD he.h (nD (EB (v:=.ty T) hgT hmT hvT rfl hn2 hd2) xm (dE rfl)) (dE hns)) (by decide) (by decide) (dE hns) (eV rfl)) λσ H Q ⟨O,ρ,E,hF⟩=>⟨O,ρ,E,(dX.bind hF).imp λa hF v H1 s1 d1=>by
  obtain⟨d,e,q⟩:=dX.rO hF;obtain⟨h1,h2⟩:=aZ e;subst h2;exact⟨O,v,a,rfl,h1,d1,q _ H1 s1 (jG.mpr rfl)⟩⟩⟩
end
section
variable[aw]{X:Cx}{a:Vk}{f:FX}{pos:Pos}
theorem FL{j pos'}(h:XE X a f):XE X (.Compare a [.Is] [.Constant .none j pos'] pos) (u6 f):=⟨PE.weak (IC (CT h.h)) λσ H Q q=>yt σ H Q q⟩
theorem EJ{j pos'}(h:XE X a f):XT X (.Compare a [.Is] [.Constant .none j pos'] pos) (fB (u6 f)):=⟨PT.weak (HB (CT h.h)) λσ H Q q=>qD (t:=λσ H Q=>tF X f σ H λv H'=>Q (.bl (decide (v=.non))) H') yt σ H Q q⟩
theorem zK(h:XE X a f)(he:∀whole,isTrue a X.env whole=(do let v<-whole;standAt a.pos;holding [v] (truthy v)):=by intro _;rfl):XT X a (aS f):=⟨PT.weak (Bq h.h he) λσ H Q ⟨O,ρ,E,hF⟩=>⟨O,ρ,E,(dX.bind hF).imp λd hF x H1 s1 d1=>by
 obtain⟨r,hF,q⟩:=dX.rO hF;refine⟨r,?_,q H1 s1⟩;cases d with
 |non=>cases hF;rw[jD.mp d1];rfl
 |bl b=>cases hF;rw[jG.mp d1];rfl
 |int i=>cases hF;rw[eS.mp d1];rfl
 |str y=>
  obtain⟨hz,e⟩:=aZ hF;subst e;rw[eD.mp d1];refine⟨dJ hz,?_⟩;show(y.length !=0)=((y.length:Int) !=0)
  cases y.length<;>rfl
 |tup xs=>
  cases hF;obtain⟨p,vs,e,g1,g2⟩:=bW.mp d1;rw[e];refine .inr (.inl ⟨vs,bX (au H1 O) g1,?_⟩);have l:=g2.length;cases xs<;>cases vs<;>first|rfl|(simp at l)
 |lst xs=>
  cases hF;obtain⟨p,vs,e,g1,g2⟩:=b8.mp d1;rw[e];refine .inl ⟨vs,(au H1 O).seq g1,?_⟩;have l:=g2.length;cases xs<;>cases vs<;>first|rfl|(simp at l)
 |_=>cases hF⟩⟩
end
section
variable[aw]{X:Cx}{tg:Vk}
theorem ER{e:Vk}{f:FX}(h:XE X e f):XI X tg e (bR f):=by
 refine⟨?_⟩;rintro pins s σ H R I ⟨O,ρ,E,hG⟩;have hG':=dX.bind hG;cases hf:f ρ with
 |error z=>exact yy h.h pins s σ H R I ⟨O,ρ,E,by rw[hf]at hG' ⊢;cases z with|none=>exact hG'.elim|some x=>exact hG'⟩
 |ok d=>
  rw[hf]at hG';obtain⟨ds,e1,q⟩:=dX.rO (α:=List D) (o:=qO d) hG';cases d with
  |lst xs=>
   cases e1;refine yy h.h pins s σ H R I ⟨O,ρ,E,?_⟩;rw[hf];refine λv H1 s1 d1=>?_;obtain⟨p,vs,ev,g1,g2⟩:=b8.mp d1;exact⟨p,ev,⟨vs,(au H1 O).seq g1⟩,q _ H1 s1 (Ag g1 g2)⟩
  |tup xs=>
   cases e1;refine HA h.h pins s σ H R I ⟨O,ρ,E,?_⟩;rw[hf];refine λv H1 s1 d1=>?_;obtain⟨p,vs,ev,g1,g2⟩:=bW.mp d1;exact⟨p,ev,⟨vs,bX (au H1 O) g1⟩,q _ H1 s1 (BG g1 g2)⟩
  |_=>cases e1
theorem we{a:Vk}{f:aW}{p pos:Pos}(hg:Gl X "range")(hm:X.mg "range"=none)(ha:XA X [a] f)(hs:Vy [a] X.env=[(false,eval a X.env)]:=by rfl):XI X tg (.Call (.Name "range" p) [a] [] pos) (iA f):=by
 refine⟨?_⟩;rintro pins s σ H R I ⟨O,ρ,E,hG⟩;refine Ah hg hm ha.h hs pins s σ H R I ⟨O,ρ,E,(dX.bind hG).imp λes hG' vs H1 s1 d1=>?_⟩;clear hG;obtain⟨ds,hG,q⟩:=dX.rO hG';clear hG';unfold m7 at hG;split at hG
 ·rename_i j;obtain⟨h1,h2⟩:=aZ hG;subst h2;obtain⟨j1,j2⟩:=of_decide_eq_true h1;obtain⟨v,ev,dv⟩:=d1.one;exact⟨j,by rw[ev,eS.mp dv],j1,j2,q _ H1 s1 (qG 0 _)⟩
 ·cases hG
theorem v9{a b:Vk}{f:aW}{p pos:Pos}(hg:Gl X "range")(hm:X.mg "range"=none)(ha:XA X [a,b] f)(hs:Vy [a,b] X.env=[(false,eval a X.env),(false,eval b X.env)]:=by rfl)(hs2:Vy [b] X.env=[(false,eval b X.env)]:=by rfl):XI X tg (.Call (.Name "range" p) [a,b] [] pos) (kT f):=by
 refine⟨?_⟩;rintro pins s σ H R I ⟨O,ρ,E,hG⟩;refine zX hg hm ha.h hs hs2 pins s σ H R I ⟨O,ρ,E,(dX.bind hG).imp λes hG' vs H1 s1 d1=>?_⟩;clear hG;obtain⟨ds,hG,q⟩:=dX.rO hG';clear hG';unfold mR at hG;split at hG
 ·rename_i i j;obtain⟨h1,h2⟩:=aZ hG;subst h2;rw[R3]at h1;obtain⟨i1,i2⟩:=of_decide_eq_true h1.1;obtain⟨j1,j2⟩:=of_decide_eq_true h1.2;obtain⟨v,w,ev,dv,dw⟩:=d1.two;exact⟨i,j,by rw[ev,eS.mp dv,eS.mp dw],⟨i1,i2,j1,j2⟩,q _ H1 s1 (qG i _)⟩
 ·cases hG
end
section
variable[aw]{X:Cx}{pos:Pos}
theorem A3{i:Nat}{x:Str}(hN:X.N.Nodup)(hi:X.N[i]?=some x)(hx:Loc X.env.scope x)(hf:X.fn x=true\/X.env.scope.names.lookup x=some .local:=by first|exact .inl rfl|exact .inr rfl|assumption):XG X (.Name x pos) (gN i):=by
 refine⟨?_⟩;rintro pins s σ H v u Q I r ⟨O,ρ,d,ρ',E,hd,hg,q⟩;cases hg;have hiσ:i<σ.length:=by rw[I.len];exact(List.getElem?_eq_some_iff.mp hi).1
 refine GJ hN hi hx hf pins s σ H v u Q I r (q _ (E.setV hiσ hd) λj x e nv=>?_);rcases bf e with⟨_,eq⟩|⟨ne,eq⟩
 ·cases eq;exact absurd rfl (nv _)
 ·exact⟨Rz (Ne.symm ne),eq⟩
theorem CA:JM X [] Hv:=by
 refine⟨?_⟩;rintro pins s σ H vs us Q I r ⟨O,ρ,ds,ρ',E,hd,hg,q⟩;cases ds with
 |nil=>
  cases hg;rw[cf]at hd;exact FC pins s σ H vs us Q I r ⟨hd,q _ E λi x e _=>⟨rfl,e⟩⟩
 |cons _ _=>cases hg
theorem zg{e:Vk}{es:bx}{g:GF}{h:D6}(h1:XG X e g)(h2:JM X es h)(hs:(assignEach (e::es) X.env).map (·.2)=assign e X.env::(assignEach es X.env).map (·.2):=by rfl):JM X (e::es) (Bt g h):=by
 refine⟨?_⟩;rintro pins s σ H vs us Q I r ⟨O,ρ,ds,ρ',E,hd,hg,q⟩;cases ds with
 |nil=>cases hg
 |cons d ds=>
  obtain⟨ρ1,e1,e2⟩:=bind_some hg;rw[aK]at hd;obtain⟨v,vr,ev,d1,d2⟩:=hd;exact Bc h1.h h2.h hs pins s σ H vs us Q I r ⟨v,vr,ev,O,ρ,d,ρ1,E,d1,e1,λσ1 E1 k1=>⟨O,ρ1,ds,ρ',E1,d2,e2,λσ2 E2 k2=>q σ2 E2 λi x e nv=>by
   obtain⟨a1,a2⟩:=k2 i x e nv;obtain⟨b1,b2⟩:=k1 i x a2 nv;exact⟨a1.trans b1,b2⟩⟩⟩
theorem Gk{es:bx}{k:Nat}{g:D6}{n:Nat}(hc:X.calm=true)(h:JM X es g)(hn:(assignEach es X.env).length=n:=by rfl)(hst:(assignEach es X.env).findIdx? (·.1)=none:=by rfl):XG X (.Tuple es k pos) (gT n g):=by
 refine⟨?_⟩;rintro pins s σ H v u Q I r ⟨O,ρ,d,ρ',E,hd,hg,q⟩;cases d with
 |tup xs=>
  obtain⟨p,vs,ev,g1,g2⟩:=bW.mp hd;have hg':(if xs.length=n then g xs ρ else none)=some ρ':=hg;by_cases hl:xs.length=n
  ·rw[if_pos hl]at hg';exact HF hc h.h hn hst pins s σ H v u Q I r ⟨p,vs,ev,bX (au H O) g1,by rw[<-g2.length];exact hl,O,ρ,xs,ρ',E,g2,hg',q⟩
  ·rw[if_neg hl]at hg';cases hg'
 |_=>cases hg
end
section
variable[aw]
theorem CW{X:Cx}:Ld X [] dq:=⟨λpins s σ H Q I ⟨O,ρ,E,q⟩=>GC pins s σ H Q I (q H (bj.refl H))⟩
theorem CV{X:Cx}{c:Vk}{F:b6}(h:XT X c F):Ld X [c] F:=⟨GR h.h⟩
end
section
variable[aw]{X:Cx}{elt tg iter:Vk}{ifs:bx}{scope:Vv}{pos:Pos}{N:av}{ix:gx}{G:aW}{g:GF}{C:b6}{Fe:FX}
theorem J0(hc:X.calm=true)(ok:kY X scope N ix)(tk:nF ix g)(hi:XI X tg iter G)(hb:pG X scope N tg elt ifs g C Fe)(hs:∀x,VN iter X.env x=pure x:=by intro _;rfl):XE X (.ListComp elt [⟨tg,iter,ifs,0⟩] scope pos) (hX ix G g C Fe):=⟨PE.weak (He hc ok.cell ok.kind ok.names ok.free ok.ix hi.h hb.h.k hs) (Ct tk)⟩
end
section
variable[aw]{X:Cx}{st:Vl}{rest body:dZ}{pos:Pos}
theorem Cq:uC X [] bq:=⟨λHb Ob=>vW.weak EZ λE σ H ⟨O,ρ,k,r,S,hF,hk⟩=>hk.nx O ρ σ H S hF⟩
theorem y4{F1 F2:bN}(h1:XS X st F1)(h2:uC X rest F2):uC X (st::rest) (aq F1 F2):=⟨λHb Ob=>vW.weak (uW (h1.h Hb Ob) (h2.h Hb Ob)) λE σ H ⟨O,ρ,k,r,S,hF,hk⟩=>
 ⟨O,ρ,{k with nx:=F2 k},r,S,hF,hk.ne,λO' ρ' σ' H' S' e=>⟨O',ρ',k,r,S',e,hk⟩,hk.bk,hk.ct,hk.rt,hk.ex⟩⟩
theorem BW{F1:bN}(h1:XS X st F1):uC X [st] F1:=⟨λHb Ob=>xN (h1.h Hb Ob)⟩
theorem Gc{e:Vk}{f:FX}(h:XE X e f):XS X (.Return (some e) pos) (aD f):=⟨λHb Ob=>PS.weak (HC h.h) λE σ H ⟨O,ρ,k,r,S,hF,hk⟩=>
 ⟨O,ρ,S.env,dX.on hF hk S λd e v H' s' d'=>hk.rt d O v H' e.symm (S.base.same' s') d'⟩⟩
theorem B3:XS X (.Pass pos) bq:=⟨λHb Ob=>PS.weak EV λE σ H ⟨O,ρ,k,r,S,hF,hk⟩=>hk.nx O ρ σ H S hF⟩
theorem Ed{x j pos'}:XS X (.Expr (.Constant (.str x) j pos) pos') bq:=⟨λHb Ob=>PS.weak Ir λE σ H ⟨O,ρ,k,r,S,hF,hk⟩=>hk.nx O ρ σ H S hF⟩
theorem C1{e:Vk}{f:FX}(h:XE X e f)(hs:swapsWith e none pos.line X.env=pure false:=by rfl):XS X (.Expr e pos) (yq f):=⟨λHb Ob=>PS.weak (xJ h.h hs) λE σ H ⟨O,ρ,k,r,S,hF,hk⟩=>
 ⟨O,ρ,S.env,dX.on hF hk S λd e v H' s' d'=>hk.nx O ρ σ H' (S.same s') e⟩⟩
theorem IE{c:Vk}{a b:dZ}{tc:b6}{A B:bN}(hc:XT X c tc)(ha:uC X a A)(hb:uC X b B):XS X (.If c a b pos) (eR tc A B):=⟨λHb Ob=>PS.weak (K5 hc.h (ha.h Hb Ob) (hb.h Hb Ob)) λE σ H ⟨O,ρ,k,r,S,hF,hk⟩=>
 ⟨O,ρ,S.env,dX.on hF hk S fun z e H1 s1=>by
  cases z with
  |true=>exact vt ⟨O,ρ,k,r,S.same s1,e,hk⟩
  |false=>exact vT ⟨O,ρ,k,r,S.same s1,e,hk⟩⟩⟩
theorem Fy{i:Nat}{x:Str}{e:Vk}{f:FX}{pos':Pos}(hN:X.N.Nodup)(hi:X.N[i]?=some x)(hx:Loc X.env.scope x)(he:XE X e f)(hs:swapsWith e (some (.Name x pos')) pos.line X.env=pure false:=by rfl)(hf:X.fn x=true\/X.env.scope.names.lookup x=some .local:=by first|exact .inl rfl|exact .inr rfl|assumption):XS X (.Assign [.Name x pos'] e pos) (aT i f):=⟨oT (List.getElem?_eq_some_iff.mp hi).1 (Cz hN hi hx he.h hs hf)⟩
theorem HI{elt tg iter:Vk}{ifs:bx}{scope:Vv}{N:av}{ix:gx}{G:aW}{g:GF}{C:b6}{Fe:FX}{i:Nat}{y:Str}{lpos py spos:Pos}(hN:X.N.Nodup)(hi':X.N[i]?=some y)(hx:Loc X.env.scope y)(hc:X.calm=true)(ok:kY X scope N ix)(tk:nF ix g)(hi:XI X tg iter G)(hb:pG X scope N tg elt ifs g C Fe)(hsw:swapsWith (.ListComp elt [⟨tg,iter,ifs,0⟩] scope lpos) (some (.Name y py)) spos.line X.env=pure true:=by rfl)(hs:∀x,VN iter X.env x=pure x:=by intro _;rfl)(hf:X.fn y=true\/X.env.scope.names.lookup y=some .local:=by first|exact .inl rfl|exact .inr rfl|assumption):XS X (.Assign [.Name y py] (.ListComp elt [⟨tg,iter,ifs,0⟩] scope lpos) spos) (aT i (hX ix G g C Fe)):=⟨oT (List.getElem?_eq_some_iff.mp hi').1 (PS.weak (Bg hN hi' hx hc ok.cell ok.kind ok.names ok.free ok.ix hi.h hb.h.k hsw hs hf) λE σ H q=>Ct tk σ H _ q)⟩
theorem Fl{tg e:Vk}{f:FX}{g:GF}(he:XE X e f)(hg:XG X tg g)(hs:swapsWithSole [tg] e pos.line X.env=pure false:=by rfl)(hw:swappedStores [tg] e X.env=pure none:=by rfl)(h1:(assignEach [tg] X.env).map (·.2)=[assign tg X.env]:=by rfl):XS X (.Assign [tg] e pos) (wO f g):=⟨λHb Ob=>PS.weak (DK he.h hg.h hs hw h1) λE σ H ⟨O,ρ,k,r,S,hF,hk⟩=>
 ⟨O,ρ,S.env,dX.on hF hk S fun d e v H1 s1 d1=>by
  cases hg.h:g d ρ with
  |none=>rw[hg.h]at e;exact absurd e.symm hk.ne
  |some ρ1=>
   rw[hg.h]at e;refine⟨O,ρ,d,ρ1,(S.same s1).env,d1,hg.h,λσ' E' own=>hk.nx O ρ1 σ' H1 ((S.same s1).after E' own) e⟩⟩⟩
theorem DF:XS X st j3:=⟨λHb Ob pins s σ H E I ⟨O,ρ,k,r,S,hF,hk⟩=>absurd hF.symm hk.ne⟩
theorem Ae{st:dZ}:uC X st j3:=⟨λHb Ob pins s σ H E I ⟨O,ρ,k,r,S,hF,hk⟩=>absurd hF.symm hk.ne⟩
theorem yZ{st:dZ}{F:bN}(is:List Nat)(h:uC X st F):uC X st (dr is F):=⟨λHb Ob=>vW.weak (h.h Hb Ob) λE σ H ⟨O,ρ,k,r,S,hF,hk⟩=>⟨O,TG.kill is ρ,k,r,S.kill is,hF,hk⟩⟩
theorem Gm{tg iter:Vk}{G:aW}{g:GF}{B:bN}(hp:VM (model X.prog X.w) X.A X.env X.xe)(hc:X.calm=true)(hi:XI X tg iter G)(hg:XG X tg g)(hb:uC X body B)(hs:∀x,VN iter X.env x=pure x:=by intro _;rfl):XS X (.For tg iter body [] pos) (kL G g B):=⟨λHb Ob pins s σ H E I ⟨O,ρ,k,r,S,hF,hk⟩=>by
 have hall:vW X body (λE σ H=>∃Hb',Pa X Hb' Ob B E σ H):=λpins s σ H E I ⟨Hb',q⟩=>hb.h Hb' Ob pins s σ H E I q;refine HG hp hc hi.h hg.h hall hs pins s σ H E I ⟨O,ρ,S.env,dX.on hF hk S λds hF J H1 s1 wk=>?_⟩;have E1:=S.same s1;refine⟨λi m σ H=>m=ds.length-i/\i<=ds.length/\∃O' ρ',fg X.K (lb H1 O Ob) Ob O' H ρ' σ/\fV g B k (ds.drop i) ρ'=r,
  ⟨ds.length,by rw[SM],RM _,O,ρ,E1.loop,by rw[Su];exact hF⟩,?_⟩
 rintro i m σ' H' ⟨rfl,hi',O',ρ',E',hr⟩;have sD:=CY E1.base E'.base;by_cases hlt:i<ds.length
 ·right;obtain⟨go,yl⟩:=(wk H' O' i E'.env.all sD).1 ds[i] (by simp[hlt]);refine⟨go,λσ2 H2=>ds.length-(i+1)=ds.length-(i+1)/\i+1<=ds.length/\∃O' ρ',fg X.K (lb H1 O Ob) Ob O' H2 ρ' σ2/\fV g B k (ds.drop (i+1)) ρ'=r,λσ2 H2 z=>⟨ds.length-(i+1),by omega,z⟩,λx H2 y=>?_⟩;obtain⟨s2,dx⟩:=yl x H2 y;have E':=E'.same s2;rw[SR hlt]at hr;cases hg':g ds[i] ρ' with
  |none=>
   have hr':(rO (g ds[i] ρ')).bind (λρ1=>B ⟨fV g B k (ds.drop (i+1)),k.nx,fV g B k (ds.drop (i+1)),k.ex⟩ ρ1)=r:=hr;rw[hg']at hr';exact absurd hr'.symm hk.ne
  |some ρ1=>
   have hr':(rO (g ds[i] ρ')).bind (λρ1=>B ⟨fV g B k (ds.drop (i+1)),k.nx,fV g B k (ds.drop (i+1)),k.ex⟩ ρ1)=r:=hr;rw[hg']at hr';refine⟨O',ρ',ds[i],ρ1,E'.env,dx,hg',λσ3 E3 own=>?_⟩;have E3':fg X.K (lb H1 O Ob) Ob O' H2 ρ1 σ3:=E'.after E3 own;exact⟨lb H1 O Ob,O',ρ1,⟨fV g B k (ds.drop (i+1)),k.nx,fV g B k (ds.drop (i+1)),k.ex⟩,r,E3',hr',hk.loop E1.base (λO4 ρ4 σ4 H4 E4 z=>⟨rfl,hlt,O4,ρ4,E4,z⟩) (λO4 ρ4 σ4 H4 E4 z=>⟨rfl,hlt,O4,ρ4,E4,z⟩) rfl rfl rfl rfl⟩
 ·left;have ei:i=ds.length:=by omega
  subst ei;refine⟨(wk H' O' ds.length E'.env.all sD).2 rfl,?_⟩;rw[List.drop_length]at hr;exact hk.nx O' ρ' σ' H' (E'.back E1.base) hr⟩
end
section
variable[aw]{X:Cx}{pos:Pos}
theorem FK{es:bx}{g:aW}(h:XA X es g):XN X (.List es pos) (fh g):=⟨PE.weak (AW h.h) λσ H Q ⟨O,ρ,E,hF⟩=>⟨O,ρ,E,(dX.bind hF).imp λxs hF vs H1 s1 d1=>by
  obtain⟨d,e,q⟩:=dX.rO hF;obtain⟨hz,e⟩:=aZ e;subst e;refine⟨by rw[<-d1.length];exact dJ hz,λp hp=>?_⟩;exact q p _ (s1.trans (bQ hp _)) (s1.free hp) ⟨_,aH,trivial⟩ (kj hp d1)⟩⟩
theorem CU{x:Str}{p:Pos}{e:Vk}{f:aW}(hg:Gl X x)(hm:X.mg x=none)(hv:Vt x=some (.type "list"))(ha:XA X [e] f)(hn:x≠"__name__":=by decide)(hdb:(x==("__debug__":Str))=false:=by decide)(hns:noStar e=true:=by rfl):XN X (.Call (.Name x p) [e] [] pos) (fL mU f):=⟨PE.weak (tu jC hg hm hv ha.h hn hdb (dE hns) (eV rfl)) λσ H Q ⟨O,ρ,E,hF⟩=>⟨O,ρ,E,(dX.bind hF).imp λds hF vs H1 s1 d1=>by
  obtain⟨d,hg,q⟩:=dX.rO hF;unfold mU at hg;split at hg
  ·rename_i ys;cases hg;obtain⟨v,ev,h1⟩:=d1.one;rw[b8]at h1;obtain⟨p,ws,ep,g1,g2⟩:=h1;exact⟨p,ws,by rw[ev,ep],.inl ((au H1 O).seq g1),λl hl=>q l _ (s1.trans (bQ hl _)) (s1.free hl) ⟨_,aH,trivial⟩ (kj hl g2)⟩
  ·rename_i ys;cases hg;obtain⟨v,ev,h1⟩:=d1.one;rw[bW]at h1;obtain⟨p,ws,ep,g1,g2⟩:=h1;exact⟨p,ws,by rw[ev,ep],.inr (bX (au H1 O) g1),λl hl=>q l _ (s1.trans (bQ hl _)) (s1.free hl) ⟨_,aH,trivial⟩ (kj hl g2)⟩
  ·cases hg⟩⟩
theorem Ax:XN X (.Dict [] [] pos) v6:=⟨TG.KL ⟩
theorem EI{i:Nat}{x:Str}{e:Vk}{f:FX}{pos':Pos}(hN:X.N.Nodup)(hi:X.N[i]?=some x)(hx:Loc X.env.scope x)(he:XN X e f)(hs:swapsWith e (some (.Name x pos')) pos.line X.env=pure false:=by rfl)(hf:X.fn x=true\/X.env.scope.names.lookup x=some .local:=by first|exact .inl rfl|exact .inr rfl|assumption):XS X (.Assign [.Name x pos'] e pos) (lK i f):=⟨sO (List.getElem?_eq_some_iff.mp hi).1 (Cz hN hi hx he.h hs hf)⟩
end
section
variable[aw]
theorem Ac{X:Cx}{elt tg iter:Vk}{ifs:bx}{scope:Vv}{N:av}{ix:gx}{G:aW}{g:GF}{C:b6}{Fe:FX}{i:Nat}{y:Str}{lpos py spos:Pos}(hN:X.N.Nodup)(hi':X.N[i]?=some y)(hx:Loc X.env.scope y)(hc:X.calm=true)(ok:kY X scope N ix)(tk:nF ix g)(hi:XI X tg iter G)(hb:pG X scope N tg elt ifs g C Fe)(hsw:swapsWith (.ListComp elt [⟨tg,iter,ifs,0⟩] scope lpos) (some (.Name y py)) spos.line X.env=pure true:=by rfl)(hs:∀x,VN iter X.env x=pure x:=by intro _;rfl)(hf:X.fn y=true\/X.env.scope.names.lookup y=some .local:=by first|exact .inl rfl|exact .inr rfl|assumption):XS X (.Assign [.Name y py] (.ListComp elt [⟨tg,iter,ifs,0⟩] scope lpos) spos) (lK i (hX ix G g C Fe)):=⟨sO (List.getElem?_eq_some_iff.mp hi').1 (PS.weak (Bg hN hi' hx hc ok.cell ok.kind ok.names ok.free ok.ix hi.h hb.h.k hsw hs hf) λE σ H q=>A0 tk σ H _ (Hy σ H _ q))⟩
theorem J8{X:Cx}{elt tg iter:Vk}{ifs:bx}{scope:Vv}{pos:Pos}{N:av}{ix:gx}{G:aW}{g:GF}{C:b6}{Fe:FX}(hc:X.calm=true)(ok:kY X scope N ix)(tk:nF ix g)(hi:XI X tg iter G)(hb:pG X scope N tg elt ifs g C Fe)(hs:∀x,VN iter X.env x=pure x:=by intro _;rfl):XN X (.ListComp elt [⟨tg,iter,ifs,0⟩] scope pos) (hX ix G g C Fe):=⟨PE.weak (He hc ok.cell ok.kind ok.names ok.free ok.ix hi.h hb.h.k hs) λσ H Q q=>A0 tk σ H _ (Hy σ H _ q)⟩
theorem Iu{X : Cx}{i : Nat}{x m : Str}{id : String}{r : V -> aF -> Hp -> VK -> Prop}{u : List D -> List D -> Option (List D)}{e : Vk}{es : bx}{f : aW}{npos apos cpos pos : Pos}(slot : Slot "list" m id)(hty : typeOf (.builtin id) = pure (.type "method_descriptor"))(hm : Pk X id r)(ok : G5 X.K r u)(hx : XV X (.Name x npos) i)(he : XA X (e :: es) f)(hbase : VS (.Name x npos) m X.env (eval (.Name x npos) X.env) = eval (.Name x npos) X.env := by rfl)(hfew : ((backTo cpos (Vy (e :: es) X.env)).all (fun x => !x.1) && (backToKw cpos (VW [] X.env)).all (fun x => x.1.isSome)
      && decide ((e::es:bx).length+([]:List Keyword).length+(if([]:List Keyword).isEmpty then 0 else 1)<30))=true:=by rfl)(hline:(apos.endLine==cpos.line)=true:=by rfl)(hs:Vy (e::es) X.env=(false,eval e X.env)::Vy es X.env:=by rfl)(hplain:(backTo cpos (Vy es X.env)).any (·.1)=false:=by rfl)(hsw:swapsWith (.Call (.Attribute (.Name x npos) m apos) (e::es) [] cpos) none pos.line X.env=pure false:=by rfl):XS X (.Expr (.Call (.Attribute (.Name x npos) m apos) (e::es) [] cpos) pos) (uX i u f):=⟨λHb Ob pins s σ H E I ⟨O,ρ,k,rr,S,hF,hk⟩=>by
  unfold uX at hF;split at hF
  · rename_i xs hxs
    obtain⟨a,ha,haO,hat⟩:=S.env.own i _ hxs;obtain⟨o,vs0,ho,eo,dn⟩:=hat;subst eo;refine xJ (LY F.plainAttrs_list slot hty hm hx.h he.h hbase hfew hline hs hplain) hsw pins s σ H E I ⟨.ref a,ha,.inl ⟨rfl,vs0,mJ.of ho⟩,O,ρ,S.env,dX.on hF hk S λds hr vs H1 s1 d1=>?_⟩;have S1:=S.same s1;cases hu1:u xs ds with
    |none=>rw[hu1]at hr;exact absurd hr.symm hk.ne
    |some ys=>
      rw[hu1]at hr;exact ok H1 O a xs ys ds vs0 vs _ S1.env.all haO (s1 _ _ ho) (dn.mono (bC s1)) d1 hu1 λws' v new=>hk.nx O _ σ _ (S1.setO hxs ha trivial (pB haO new)) hr
  ·exact absurd hF.symm hk.ne⟩
theorem Dp{X:Cx}{st:dZ}{F:bN}(i:Nat)(h:uC X st F):uC X st (oN i F):=⟨λHb Ob=>vW.weak (h.h Hb Ob) λE σ H ⟨O,ρ,k,r,S,hF,hk⟩=>by
 obtain⟨O',S'⟩:=S.frz i;exact⟨O',TG.frz i ρ,k,r,S',hF,hk⟩⟩
theorem Be{X:Cx}{e:Vk}{f:FX}(is:List Nat)(h:XE X e f):XE X e (gF is f):=⟨PE.weak h.h λσ H Q ⟨O,ρ,E,hF⟩=>by
 obtain⟨O',E'⟩:=E.frzs is;refine⟨O',TG.frzs is ρ,E',?_⟩;unfold gF at hF;cases hf:f (TG.frzs is ρ)with
 |error z=>rw[hf]at hF;exact hF.elim
 |ok d=>
  rw[hf]at hF;have hF':dX X σ O H (if lf d then .ok d else un) _:=hF;cases hl:lf d with
  |false=>rw[hl]at hF';exact hF'.elim
  |true=>
   rw[hl]at hF';exact λv H' s' dv=>hF' v H' s' (Cj (E.all.same s') hl dv)⟩
theorem wL{X:Cx}{k k':Nat}{ps:av}{g:bE}{h:aW}{x:Str}{p pos:Pos}{e:Vk}{es:bx}(C:Callee X.prog X.w X.K X.mg X.base k x ps g)(hn:Ar ps.length g)(hr:gD k' X.A)(hk:k<=k')(ha:XA X (e::es) h)(hg:Gl X x:=by rfl)(hdb:(x==("__debug__":Str))=false:=by decide)(hns:(e::es).all noStar=true:=by rfl):XE X (.Call (.Name x p) (e::es) [] pos) (fR g h):=by
 refine⟨?_⟩;obtain⟨f,fd,F,b,kp,m⟩:=C;exact PE.weak (Dh F (hr.mono hk) hg m kp b ha.h hdb (dE (R3 _ _ ▸ hns).1) (eV (R3 _ _ ▸ hns).2)) (Ai hn)
end
section
variable[aw]{X:Cx}{a b c:Vk}{fa fb fc:FX}{pos:Pos}
theorem z7{op op':VA}{r r':R2}{g g':D->D->bu}(ho:iK X (VB op) r)(s:cQ X.K r g)(ho':iK X (VB op') r')(s':cQ X.K r' g')(ha:XE X a fa)(hb:XE X b fb)(hc:XE X c fc)(hm:lastMarks [op,op'] [b,c]=false:=by with_unfolding_all rfl):XE X (.Compare a [op,op'] [b,c] pos) (mE g g' fa fb fc):=⟨PE.weak (CG ho ho' ha.h hb.h hc.h hm) (tS s s')⟩
theorem zf{op op':VA}{r r':R2}{g g':D->D->bu}(ho:iK X (VB op) r)(s:cQ X.K r g)(ho':iK X (VB op') r')(s':cQ X.K r' g')(ha:XE X a fa)(hb:XE X b fb)(hc:XE X c fc)(hm:lastMarks [op,op'] [b,c]=false:=by with_unfolding_all rfl):XT X (.Compare a [op,op'] [b,c] pos) (fB (mE g g' fa fb fc)):=⟨PT.weak (DT ho ho' ha.h hb.h hc.h hm) (qD (tS s s'))⟩
theorem Fp(ha:XE X a fa):XE X (.UnaryOp .USub a pos) (wM fa):=⟨PE.weak (LD JX ha.h) (Ic λx d v O H Q _ e dv q=>by
 cases x with
 |int i=>cases e;exact⟨i,eS.mp dv,q _ H (bj.refl H) (eS.mpr rfl)⟩
 |_=>cases e)⟩
end
section
variable[aw]{X:Cx}
theorem Fu{a b:Vk}{es:bx}{k:Nat}{tpos:Pos}{f:aW}{p pos:Pos}(hg:Gl X "zip")(hm:X.mg "zip"=none)(ha:XA X [a,b] f)(hs:Vy [a,b] X.env=(false,eval a X.env)::Vy [b] X.env:=by rfl)(hpl:(backTo pos (Vy [b] X.env)).any (·.1)=false:=by rfl):XI X (.Tuple es k tpos) (.Call (.Name "zip" p) [a,b] [] pos) (EX f):=by
 refine⟨?_⟩;rintro pins s σ H RR I ⟨O,ρ,E,hG⟩;have hA:=ha.h pos pins s σ H (λvs H1=>∃ds r,CL ds=some r/\aB X.K (hid H1 O) ds vs/\∀J,Walk X.K (hid H1 O) J r->RR J H1) I ⟨O,ρ,E,(dX.bind hG).imp λds hG vs H1 s1 d1=>by
  obtain⟨r,e,q⟩:=dX.rO hG;exact⟨ds,r,e,d1,λJ wk=>q J H1 s1 wk⟩⟩
 refine U9 (kC I hg hm PyProof.Rows.boot_zip (U5 (cE hA λus s1 ⟨vs,H1,I1,r1,ds,r,er,d1,q⟩=>?_) hs hpl));exact Iz I1 er d1 r1 q
theorem rH{a:Vk}{es:bx}{k:Nat}{tpos:Pos}{f:aW}{p pos:Pos}(hg:Gl X "enumerate")(hm:X.mg "enumerate"=none)(ha:XA X [a] f)(hs:Vy [a] X.env=(false,eval a X.env)::Vy [] X.env:=by rfl)(hpl:(backTo pos (Vy [] X.env)).any (·.1)=false:=by rfl):XI X (.Tuple es k tpos) (.Call (.Name "enumerate" p) [a] [] pos) (eK f):=by
 refine⟨?_⟩;rintro pins s σ H RR I ⟨O,ρ,E,hG⟩;have hA:=ha.h pos pins s σ H (λvs H1=>∃ds r,qz ds=some r/\aB X.K (hid H1 O) ds vs/\∀J,Walk X.K (hid H1 O) J r->RR J H1) I ⟨O,ρ,E,(dX.bind hG).imp λds hG vs H1 s1 d1=>by
  obtain⟨r,e,q⟩:=dX.rO hG;exact⟨ds,r,e,d1,λJ wk=>q J H1 s1 wk⟩⟩
 refine U9 (kC I hg hm PyProof.Rows.boot_enumerate (U5 (cE hA λus s1 ⟨vs,H1,I1,r1,ds,r,er,d1,q⟩=>?_) hs hpl));exact GL I1 er d1 r1 q
end
section
variable[aw]{X:Cx}{a o e:Vk}{es:bx}{fa fo:FX}{fas:aW}{f m x:Str}{cs:av}{pos apos p:Pos}{k k':Nat}{ps:av}
theorem Eu(ok:cF X.K f cs)(h:XE X a fa)(hb:VS a f X.env (eval a X.env)=eval a X.env:=by rfl):XE X (.Attribute a f pos) (f1 (aC f cs) fa):=⟨PE.weak (J3 h.h hb) λσ H Q ⟨O,ρ,E,hF⟩=>⟨O,ρ,E,(dX.bind hF).imp λd hF v H1 s1 d1=>by
  obtain⟨r,e,q⟩:=dX.rO hF;cases d with
  |obj c fs vs=>
   have e':(if cs.contains c then(fs.zip vs).lookup f else none)=some r:=e;cases hc:cs.contains c with
   |false=>rw[hc]at e';cases e'
   |true=>
    rw[hc]at e';obtain⟨a,ws,ev,g1,g2,C,dx,g3,g4⟩:=FQ.mp d1;obtain⟨w,l1,l2⟩:=qw g1 e';obtain⟨cl,na⟩:=ok c (List.contains_iff_mem.mp hc) C g3;exact⟨a,C,dx,_,w,ev,au H1 O _ _ g4,cl,na,l1,q w H1 s1 l2⟩
  |_=>cases e⟩⟩
theorem B2{tbl : List (Str × (bE))}{pl : Sem Bool}(tb : qX X.prog X.w X.K X.mg X.base k m ps tbl)(hr : gD k' X.A)(hk : k <= k')(ho : XE X o fo)(ha : XA X (e :: es) fas)(hns : (e :: es).all noStar = true := by rfl)(ht : eval (.Call (.Attribute o m apos) (e :: es) [] pos) X.env = (do
      let ov<-eval o X.env
      standAt apos.atName
      let (f,first)<-holding [ov] (getMethod ov m pl)
      VU pos f first (backTo pos (Vy (e::es) X.env)) (backToKw pos (VW [] X.env))):=by rfl):XE X (.Call (.Attribute o m apos) (e::es) [] pos) (bH m tbl fo fas):=⟨uV tb (hr.mono hk) ho.h (λpins s1 σ H1 O ρ a f od Q g fd _ kp F b ar I1 E1 dO hP=>by
    refine UC (first:=[.ref a]) (h₀:=X.base) I1.ok.mod.kin kp (cE (ha.h pos pins s1 σ H1 _ I1 ⟨O,ρ,E1,(dX.bind hP).imp λas hP vs H2 s2 d2=>qB (vs:=.ref a::vs) ar (E1.all.same s2) (aK.mpr ⟨_,_,rfl,dO.mono (bC s2),d2⟩) ((hP.mono s2).imp λd q v H3 s3 d3=>q v H3 (s2.trans s3) d3)⟩) λus s2 ⟨vs,H2,I2,r,Ex,hx,q2⟩=>⟨I2.kIn,?_⟩) (dE (R3 _ _ ▸ hns).1) (eV (R3 _ _ ▸ hns).2);exact uI (us:=.ref a::us) (vs:=.ref a::vs) F (hr.mono hk) b hx I2 (.cons rfl r) q2) ht⟩
theorem Av{tbl : List (Str × (bE))}{pl : Sem Bool}(tb : qX X.prog X.w X.K X.mg X.base k m ps tbl)(hr : gD k' X.A)(hk : k <= k')(ho : XE X o fo)(ht : eval (.Call (.Attribute o m apos) [] [] pos) X.env = (do
      let ov<-eval o X.env
      standAt apos.atName
      let (f,first)<-holding [ov] (getMethod ov m pl)
      VU pos f first (backTo pos (Vy [] X.env)) (backToKw pos (VW [] X.env))):=by rfl):XE X (.Call (.Attribute o m apos) [] [] pos) (bH m tbl fo ah):=⟨uV tb (hr.mono hk) ho.h (λpins s1 σ H1 O ρ a f od Q g fd _ kp F b ar I1 E1 dO hP=>by
    have hP':dX X σ O H1 (g [od]) λd=>∀v H',bj H1 H'->b9 X.K (hid H' O) d v->Q v H':=hP;obtain⟨Ex,hx,q2⟩:=qB (vs:=[.ref a]) ar E1.all (aK.mpr ⟨_,_,rfl,dO,cf.mpr rfl⟩) hP';exact UU (first:=[.ref a]) I1.kIn kp (uI (us:=[.ref a]) (vs:=[.ref a]) F (hr.mono hk) b hx I1 (.cons rfl .nil) q2)) ht⟩
theorem Ea{c:Str}{fs:av}(IA:gB X.prog X.w X.K X.mg X.base k c ps fs)(hr:gD k' X.A)(hk:k+1<=k')(hg:Gl X c)(ha:XA X (e::es) fas)(hdb:(c==("__debug__":Str))=false:=by decide)(hns:(e::es).all noStar=true:=by rfl):XE X (.Call (.Name c p) (e::es) [] pos) (fNew c fs fas):=by
 refine⟨?_⟩;obtain⟨C,f,fd,h1,h2,h3,h4,h5⟩:=IA;refine PE.weak (Gy (dvs:=[]) (E:=E0) h2 h3 (hr.mono hk) hg h5 h4 .nil Mg ha.h hdb (dE (R3 _ _ ▸ hns).1) (eV (R3 _ _ ▸ hns).2)) λσ H Q ⟨O,ρ,E,hF⟩=>⟨O,ρ,E,(dX.bind hF).imp λas hF vs H1 s1 d1 x dx hx hd ne=>?_⟩
 by_cases hl:as.length=fs.length
 ·rw[if_pos hl]at hF;rw[RN];refine⟨x,dx,vs,rfl,by rw[<-d1.length,hl],by rw[aH],rfl,?_⟩;obtain⟨sm,dn⟩:=o7 h1 hl d1 (E.all.same s1) hx hd ne;exact hF _ _ (s1.trans sm) dn
 ·rw[if_neg hl]at hF;exact hF.elim
end
section
variable[aw]{X:Cx}{C:Vj}{pins:bh}{σ:St}{H:Hp}{s:Vm}{Q:VK}
theorem Cp{c:Str}{p pos:Pos}(NA:DZ X.K X.mg c)(hg:Gl X c)(hdb:(c==("__debug__":Str))=false:=by decide):XE X (.Call (.Name c p) [] [] pos) (fC (.obj c [] [])):=by
 refine⟨?_⟩;obtain⟨C,h1,h2,h3⟩:=NA;rintro pins s σ H Q I ⟨O,ρ,E,hF⟩;refine V2 (pW I hg h3 ?_ hdb);refine UU I.kIn h2.kp (run_plain h2 I λx dx hx hd ne=>?_);obtain⟨sm,dn⟩:=o7 (fs:=[]) (as:=[]) (vs:=[]) h1 rfl (cf.mpr rfl) E.all hx hd ne;have e:upd (upd (upd H dx (.own x)) x (.ins C dx [])) x (.ins C dx (([]:av).zip []))=upd (upd H dx (.own x)) x (.ins C dx []):=by rw[yv];rfl
 rw[e]at sm dn;exact hF _ _ sm dn
end
section
variable[aw]{X:Cx}{p pos:Pos}{e:Vk}{C:Vj}
theorem Et{f:FX}{x:Str}{p2:Pos}{yes no:av}(h:eZ X.K X.mg x yes no)(hg:Gl X "isinstance")(hm:X.mg "isinstance"=none)(hgx:Gl X x)(he:XE X e f)(hd2:(x==("__debug__":Str))=false:=by decide)(hns:noStar e=true:=by rfl):XE X (.Call (.Name "isinstance" p) [e,.Name x p2] [] pos) (f1 (bF yes no) f):=by
 refine⟨?_⟩;obtain⟨C,hC,hy,hn⟩:=h;exact PE.weak (qF C6 hg hm vY (nD he.h (nD (EW (v:=.ref C) hgx hC rfl hd2) xm (dE rfl)) (dE hns)) (by decide) (by decide) (dE hns) (eV rfl)) λσ H Q ⟨O,ρ,E,hF⟩=>⟨O,ρ,E,(dX.bind hF).imp λa hF v H1 s1 d1=>by
  obtain⟨d,e,q⟩:=dX.rO hF;unfold bF at e;split at e
  ·rename_i c fs vs;obtain⟨a,ws,rfl,_,_,D,dx,hcl,ha⟩:=FQ.mp d1;by_cases h1:yes.contains c=true
   ·rw[if_pos h1]at e;cases e;exact⟨a,D,dx,_,rfl,au _ _ _ _ ha,.inl ⟨hy c (by simpa using h1) D hcl,q _ H1 s1 (jG.mpr rfl)⟩⟩
   ·rw[if_neg h1]at e;obtain⟨h2,h3⟩:=aZ e;subst h3;obtain⟨cl,n⟩:=hn c (by simpa using h2) D hcl;exact⟨a,D,dx,_,rfl,au _ _ _ _ ha,.inr ⟨cl,n,q _ H1 s1 (jG.mpr rfl)⟩⟩
  ·cases e⟩
end
section
variable[aw]
theorem BC{X:Cx}{i:Nat}{x:Str}{idx value:Vk}{fk fv:FX}{npos tpos pos:Pos}(hu:X.A.units+64<VX)(hx:XV X (.Name x npos) i)(hi:XE X idx fk)(hv:XE X value fv)(hs:swapsWith value (some (.Subscript (.Name x npos) idx tpos)) pos.line X.env=pure false:=by rfl):XS X (.Assign [.Subscript (.Name x npos) idx tpos] value pos) (rY i fk fv):=⟨λHb Ob pins s σ H E I ⟨O,ρ,k,rr,S,hF,hk⟩=>by
 unfold rY at hF;split at hF
 ·rename_i ks ds hxs;obtain⟨a,ha,haO,hat⟩:=S.env.own i _ hxs;have hP:=dX.on hF hk S (Q:=λal=>k.nx (ρ.set i (some (.own (jt al))))=rr) λp e=>e;refine C3 ‹0› hx.h hi.h hv.h hs pins s σ H E I ⟨O,ρ,S.env,(dX.bind hP).imp λy hP v H1 s1 d1=>?_⟩;have S1:=S.same s1;refine⟨.ref a,ha,O,ρ,S1.env,((dX.bind hP).mono s1).imp λj hP w H2 s2 d2=>?_⟩;have S2:=S1.same s2;obtain⟨al',hg,e⟩:=dX.rO hP;obtain⟨al,q,f1,f2,f3,f4,f5⟩:=wK hg;subst f1 f2 f3 f5;have s12:=s1.trans s2;obtain⟨b,ws,eb,g1,g2⟩:=bW.mp d2;rw[nS g2]at g1;have hat2:gu X.K H2 O a (jt al):=hat.mono (let ⟨_,z⟩:=hat.some;kQ s12 z) (bC s12);have dv:b9 X.K (hid H2 O) y v:=d1.mono (bC s2);have fin:∀kvs:List (List Key×V),kvs.map (·.1)=al.map (·.1)->aB X.K (hid H2 O) (al.map (·.2)) (kvs.map (·.2))->gu X.K (upd H2 a (.dT (putK kvs q v))) O a (jt (jU al q y)):=λkvs k2 k3=>
   ⟨_,_,aH,(Gu dv k2 k3).mono (iz haO),.inr ⟨putK kvs q v,rfl,HX (B5 k2 q v y),rfl⟩⟩
  rcases Oq hat2 with⟨kvs,k1,k2,k3⟩|⟨k1,rfl⟩
  ·have hl:kvs.length=al.length:=(by have:=congrArg List.length k2;simpa using this);exact⟨a,q,b,kvs,rfl,eb,(au H2 O) _ _ g1,.inl k1,by rw[hl];exact SU (of_decide_eq_true f4) (by decide),hk.nx O _ σ _ (S2.setO hxs ha trivial (fin kvs k2 k3)) e⟩
  ·exact⟨a,q,b,[],rfl,eb,(au H2 O) _ _ g1,.inr ⟨k1,rfl⟩,by decide,hk.nx O _ σ _ (S2.setO hxs ha trivial (fin [] rfl (cf.mpr rfl))) e⟩
 ·exact absurd hF.symm hk.ne⟩
theorem B8{X:Cx}{i:Nat}{x:Str}{idx value:Vk}{fk fv:FX}{npos tpos pos:Pos}(hu:X.A.units+64<VX)(hx:XV X (.Name x npos) i)(hi:XE X idx fk)(hv:XE X value fv)(hs:swapsWith value (some (.Subscript (.Name x npos) idx tpos)) pos.line X.env=pure false:=by rfl):XS X (.Assign [.Subscript (.Name x npos) idx tpos] value pos) (rX i fk fv):=⟨λHb Ob pins s σ H E I ⟨O,ρ,k,rr,S,hF,hk⟩=>by
 unfold rX at hF;split at hF
 ·rename_i ks ds hxs;obtain⟨a,ha,haO,hat⟩:=S.env.own i _ hxs;have hP:=dX.on hF hk S (Q:=λal=>k.nx (ρ.set i (some (.own (mC al))))=rr) λp e=>e;refine BE ‹0› hx.h hi.h hv.h hs pins s σ H E I ⟨O,ρ,S.env,(dX.bind hP).imp λy hP v H1 s1 d1=>?_⟩;have S1:=S.same s1;refine⟨.ref a,ha,O,ρ,S1.env,((dX.bind hP).mono s1).imp λj hP w H2 s2 d2=>?_⟩;have S2:=S1.same s2;obtain⟨al',hg,e⟩:=dX.rO hP;obtain⟨al,q,f1,f2,f3,f4,f5⟩:=wG hg;subst f1 f2 f3 f5;have s12:=s1.trans s2;have hat2:gu X.K H2 O a (mC al):=hat.mono (let ⟨_,z⟩:=hat.some;kQ s12 z) (bC s12);have dv:b9 X.K (hid H2 O) y v:=d1.mono (bC s2);have fin:∀kvs:List (Key×V),kvs.map (·.1)=al.map (·.1)->aB X.K (hid H2 O) (al.map (·.2)) (kvs.map (·.2))->gu X.K (upd H2 a (.dK (putK kvs q v))) O a (mC (mz al q y)):=λkvs k2 k3=>
   ⟨_,_,aH,(vV dv k2 k3).mono (iz haO),.inl ⟨putK kvs q v,rfl,ub (tW k2 q v y),rfl⟩⟩
  rcases OJ hat2 with⟨kvs,k1,k2,k3⟩|⟨k1,rfl⟩
  ·have hl:kvs.length=al.length:=(by have:=congrArg List.length k2;simpa using this);exact⟨a,q,kvs,rfl,jo d2,.inl k1,by rw[hl];exact SU (of_decide_eq_true f4) (by decide),hk.nx O _ σ _ (S2.setO hxs ha trivial (fin kvs k2 k3)) e⟩
  ·exact⟨a,q,[],rfl,jo d2,.inr ⟨k1,rfl⟩,by decide,hk.nx O _ σ _ (S2.setO hxs ha trivial (fin [] rfl (cf.mpr rfl))) e⟩
 ·exact absurd hF.symm hk.ne⟩
theorem z9{X:Cx}{e:Vk}{f:FX}(is:List Nat)(h:XE X e f):XE X e (gE is f):=⟨PE.weak h.h λσ H Q ⟨O,ρ,E,hF⟩=>by
 obtain⟨O',E',gone⟩:=cY.frzs2 is E;refine⟨O',TG.frzs is ρ,E',?_⟩;unfold gE at hF;cases hf:f (TG.frzs is ρ)with
 |error z=>rw[hf]at hF;exact hF.elim
 |ok d=>
  rw[hf]at hF;have hF':dX X σ O H (uZ is ρ d) _:=hF;cases d with
  |lst ds=>
   have hF':dX X σ O H (if yf ds&&hdS ds&&is.all (offA ρ)then(.ok (D.lst ds):R D)else un) _:=hF';cases hl:(yf ds&&hdS ds&&is.all (offA ρ))with
   |false=>rw[hl]at hF';exact hF'.elim
   |true=>
    rw[hl]at hF';rw[R3,R3]at hl;obtain⟨⟨l1,l2⟩,l3⟩:=hl;refine λv H' s' dv=>hF' v H' s' ?_;obtain⟨a,vs,ev,sq,dn⟩:=b8.mp dv;have dn':=nq (E.all.same s') l1 dn;refine b8.mpr ⟨a,vs,ev,?_,dn'⟩;rcases sq with(sq|⟨o,sq⟩)|sq
    ·have na:a∉O':=λz=>by
      unfold hid at sq;rw[if_pos z]at sq;cases sq
     have no:a∉O:=λha=>by
      obtain⟨i,hi,d',q1,q2⟩:=gone a ha na;obtain⟨b,q3,q4,q5⟩:=E.own i d' q1;rw[q2]at q3;cases q3;have of:Gp d'=true:=by
       have:=List.all_eq_true.mp l3 i hi
       unfold offA at this;rw[q1]at this;exact this
      have hb:H a=H' a:=(by obtain⟨_,z⟩:=q5.some;exact kQ s' z);rw[dH na,<-hb]at sq;cases d' with
      |lst xs=>
       obtain⟨o,ws,e1,e2,e3⟩:=q5;subst e2;rw[e1]at sq;cases sq;cases ds with
       |nil=>cases l2
       |cons d0 ds=>
        cases d0 with
        |str w=>
         obtain⟨v0,r0,e0,f1,_⟩:=aK.mp dn;subst e0;have f1:=eD.mp f1;subst f1;cases xs with
         |nil=>cases cf.mp e3
         |cons x xs=>
          obtain⟨v1,r1,e1',g1,_⟩:=aK.mp e3;cases e1';cases x with
          |tup ys=>
           obtain⟨c,cs,z,_⟩:=bW.mp g1;cases z
          |_=>cases of
        |_=>cases l2
      |_=>cases of
     rw[dH na]at sq;exact .inl (.inl (by rw[dH no];exact sq))
    ·have q':=au H' O' a _ sq;refine .inl (.inr ⟨o,?_⟩);rw[dH λz=>by obtain⟨u,e1,e2⟩:=(E.all.same s').2 a z;rw[q']at e1;cases e1;exact e2.elim];exact q'
    ·exact .inr sq
  |_=>exact hF'.elim⟩
end
section
variable[aw]{X:Cx}
theorem Gi{o e:Vk}{fo fk:FX}{pos:Pos}(hu:X.A.units+64<VX)(ho:XE X o fo)(hi:XE X e fk)(hs:GA e):XE X (.Subscript o e pos) (f2 xD fo fk):=⟨PE.weak (xZ ‹0› ho.h hi.h hs) λσ H Q ⟨O,ρ,E,hF⟩=>⟨O,ρ,E,(dX.bind hF).imp λdd hF v H1 s1 d1=>⟨O,ρ,E.same s1,((dX.bind hF).mono s1).imp λk hF y H2 s2 d2=>by
  obtain⟨d,hg,q⟩:=dX.rO hF;cases dd with
  |dct ks ds=>
   have hg:(D4 ks ds).bind (λal=>(mO k).bind λq=>pI al q)=some d:=hg;cases hk:D4 ks ds with
   |none=>rw[hk]at hg;cases hg
   |some al=>
    rw[hk]at hg;cases ht:mO k with
    |none=>rw[ht]at hg;cases hg
    |some qk=>
     rw[ht]at hg;have hg:pI al qk=some d:=hg;obtain⟨a,ea,hh⟩:=yx (d1.mono (bC s2)) hk;rw[t9 ht]at d2;obtain⟨b,ws,eb,g1,g2⟩:=bW.mp d2;rw[nS g2]at g1;rcases hh with⟨kvs,hr,e1,e2⟩|⟨_,rfl⟩
     ·rcases vX qk e1 e2 with⟨_,z2⟩|⟨w,d',z1,z2,z3⟩
      ·rw[z2]at hg;cases hg
      ·rw[z2]at hg;cases hg;exact⟨a,w,ea,by rw[<-z1];exact .inr ⟨kvs,qk,b,IB hr,eb,(au H2 O) _ _ g1,rfl⟩,q w H2 (s1.trans s2) z3⟩
     ·cases hg
  |_=>cases hg⟩⟩⟩
theorem AX{o e:Vk}{fo fk:FX}{pos:Pos}(hu:X.A.units+64<VX)(ho:XE X o fo)(hi:XE X e fk)(hs:GA e):XE X (.Subscript o e pos) (f2 lU fo fk):=⟨PE.weak (xZ ‹0› ho.h hi.h hs) λσ H Q ⟨O,ρ,E,hF⟩=>⟨O,ρ,E,(dX.bind hF).imp λdd hF v H1 s1 d1=>⟨O,ρ,E.same s1,((dX.bind hF).mono s1).imp λk hF y H2 s2 d2=>by
  obtain⟨d,hg,q⟩:=dX.rO hF;unfold lU at hg;cases e:Hj dd k with
  |none=>rw[e]at hg;cases hg
  |some o=>
   rw[e]at hg;have hg:o=some d:=hg;subst hg;obtain⟨al,qk,rfl,rfl,z0⟩:=vp e;obtain⟨a,ea,hh⟩:=vP (d1.mono (bC s2));have ey:=jo d2;subst ey;rcases hh with⟨kvs,k1,k2,k3⟩|⟨_,rfl⟩
   ·rcases qo qk k2 k3 with⟨_,z2⟩|⟨w,d',z1,z2,z3⟩
    ·rw[z2]at z0;cases z0
    ·rw[z2]at z0;cases z0;exact⟨a,w,ea,by rw[<-z1];exact AG.k ((au H2 O) _ _ k1),q w H2 (s1.trans s2) z3⟩
   ·cases z0⟩⟩⟩
theorem An{k v:Vk}{fk fv:FX}{pos:Pos}(hk:XE X k fk)(hv:XE X v fv):XE X (.Dict [some k] [v] pos) (fj [(fk,fv)]):=⟨qS (fs:=[(fk,fv)]) (hZ hk.h hv.h pP) rfl rfl (by simp) (by simp)⟩
theorem y8{k v k' v':Vk}{fk fv fk' fv':FX}{pos:Pos}(hk:XE X k fk)(hv:XE X v fv)(hk':XE X k' fk')(hv':XE X v' fv'):XE X (.Dict [some k,some k'] [v,v'] pos) (fj [(fk,fv),(fk',fv')]):=⟨qS (fs:=[(fk,fv),(fk',fv')]) (hZ hk.h hv.h (hZ hk'.h hv'.h pP)) rfl rfl (by simp) (by simp)⟩
theorem zG{k v k' v' k2 v2:Vk}{fk fv fk' fv' fk2 fv2:FX}{pos:Pos}(hk:XE X k fk)(hv:XE X v fv)(hk':XE X k' fk')(hv':XE X v' fv')(hk2:XE X k2 fk2)(hv2:XE X v2 fv2):XE X (.Dict [some k,some k',some k2] [v,v',v2] pos) (fj [(fk,fv),(fk',fv'),(fk2,fv2)]):=⟨qS (fs:=[(fk,fv),(fk',fv'),(fk2,fv2)]) (hZ hk.h hv.h (hZ hk'.h hv'.h (hZ hk2.h hv2.h pP))) rfl rfl (by simp) (by simp)⟩
end
section
variable[aw][aw]
theorem AR{X:Cx}{e:Vk}:XE X e xY:=⟨λpins s σ H Q I ⟨O,ρ,E,h⟩=>h.elim⟩
end
section
variable[aw]{X:Cx}{pos:Pos}
theorem zo{k v:Vk}{fk fv:FX}{pos:Pos}(hk:XE X k fk)(hv:XE X v fv):XN X (.Dict [some k] [v] pos) (fj [(fk,fv)]):=⟨z8 (fs:=[(fk,fv)]) (hZ hk.h hv.h pP) rfl rfl (by simp) (by simp)⟩
theorem FJ{elt tg iter:Vk}{ifs:bx}{scope:Vv}{N:av}{ix:gx}{G:aW}{g:GF}{C:b6}{Fe:FX}{i:Nat}{y:Str}{lpos py spos:Pos}(is:List Nat)(hN:X.N.Nodup)(hi':X.N[i]?=some y)(hx:Loc X.env.scope y)(hc:X.calm=true)(ok:kY X scope N ix)(tk:nF ix g)(hi:XI X tg iter G)(hb:pG X scope N tg elt ifs g C Fe)(hsw:swapsWith (.ListComp elt [⟨tg,iter,ifs,0⟩] scope lpos) (some (.Name y py)) spos.line X.env=pure true:=by rfl)(hs:∀x,VN iter X.env x=pure x:=by intro _;rfl)(hf:X.fn y=true\/X.env.scope.names.lookup y=some .local:=by first|exact .inl rfl|exact .inr rfl|assumption):XS X (.Assign [.Name y py] (.ListComp elt [⟨tg,iter,ifs,0⟩] scope lpos) spos) (aT i (gE is (hX ix G g C Fe))):=⟨oT (List.getElem?_eq_some_iff.mp hi').1 (PS.weak (Bg hN hi' hx hc ok.cell ok.kind ok.names ok.free ok.ix hi.h hb.h.k hsw hs hf) λE σ H q=>Ct tk σ H _ (G2 is q))⟩
end
section
variable[aw]{X:Cx}{tg:Vk}
theorem wu{a b c:Vk}{f:aW}{p pos:Pos}(hg:Gl X "range")(hm:X.mg "range"=none)(ha:XA X [a,b,c] f)(hs:Vy [a,b,c] X.env=[(false,eval a X.env),(false,eval b X.env),(false,eval c X.env)]:=by rfl)(hs2:Vy [b,c] X.env=[(false,eval b X.env),(false,eval c X.env)]:=by rfl):XI X tg (.Call (.Name "range" p) [a,b,c] [] pos) (mX f):=by
 refine⟨?_⟩;rintro pins s σ H R I ⟨O,ρ,E,hG⟩;refine zm hg hm ha.h hs hs2 pins s σ H R I ⟨O,ρ,E,(dX.bind hG).imp λes hG' vs H1 s1 d1=>?_⟩;clear hG;obtain⟨ds,hG,q⟩:=dX.rO hG';clear hG';unfold mV at hG;split at hG
 ·rename_i i j k;obtain⟨h1,h2⟩:=aZ hG;subst h2;rw[R3,R3]at h1;obtain⟨k1,k2⟩:=of_decide_eq_true h1.1;obtain⟨i1,i2⟩:=of_decide_eq_true h1.2.1;obtain⟨j1,j2⟩:=of_decide_eq_true h1.2.2;obtain⟨v,vs',ev,dv,d2⟩:=aK.mp d1;obtain⟨w,u,ew,dw,du⟩:=d2.two;exact⟨i,j,k,by rw[ev,ew,eS.mp dv,eS.mp dw,eS.mp du],⟨i1,i2,j1,j2,k1,k2⟩,q _ H1 s1 (G0 i k _)⟩
 ·cases hG
end
noncomputable abbrev Lk(K:Ug)(f:Vj)(nm qual:Str)(st:Vl)(oc:Vh)(od:Option Vj)(kV dc pm:Vh)(an:Option Vj)(cd ct:Vh)(sl:Array (Option Vh)):Prop:=K.lookup f=some ⟨oc,od,.func (UE nm qual (jH st) (eB st) (aG st) .none kV dc pm an cd ct),sl⟩
structure yD(P:Vo)(w:Vn)(K:Ug)(mg:cN)(base:Vq)(k:Nat)(N:av)(qual:Str)(st:Vl)(f:Vj)(B:bN):Prop where
 h:∀(cdv:Vh)(A:Vu)(outer:List Env)(s:Vm)(H:Hp)(E:XK),gD k (A.deeper (U7 qual (aG st) s.heap.objs.size f cdv))->VM (model P w) (A.deeper (U7 qual (aG st) s.heap.objs.size f cdv)) (U7 qual (aG st) s.heap.objs.size f cdv) (jZ (nK P w) P w K mg base N qual (aG st) f cdv A outer s H E).xe->
  uC (jZ (nK P w) P w K mg base N qual (aG st) f cdv A outer s H E) (eB st) B
theorem yD.ok{P:Vo}{w:Vn}{K:Ug}{mg:cN}{base:Vq}{k:Nat}{N:av}{qual:Str}{st:Vl}{f:Vj}{B:bN}(h:yD P w K mg base k N qual st f B):BodyOk P w K mg base k N qual st f B:=⟨λcdv A outer s H E hr hp=>(h.h cdv A outer s H E hr hp).h⟩
section
variable{X:Cx}{x:Str}{pos:Pos}
theorem xw(i:Nat)(hN:X.N[i]?=some x:=by rfl)(hv:Kh X.env.scope x:=by first|exact Or.inl rfl|exact Or.inr (Or.inl rfl)|exact Or.inr (Or.inr rfl))(hd:(x==("__debug__":Str))=false:=by decide)(hcd:(x==("__classdict__":Str))=false:=by decide):XE X (.Name x pos) (af i):=Gw (xv i hN hv hd hcd)
theorem xi{a b:Vk}{fa fb:FX}(ha:XE X a fa)(hb:XE X b fb)(hs:uc b:=by exact λ_ _=>rfl):XE X (.Subscript a b pos) (f2 ao fa fb):=Ia ha hb hs
theorem xs(i:Nat){e:Vk}{f:FX}{pos':Pos}(hN:X.N.Nodup)(he:XE X e f)(hi:X.N[i]?=some x:=by rfl)(hx:Loc X.env.scope x:=by first|exact Or.inl rfl|exact Or.inr rfl)(hs:swapsWith e (some (.Name x pos')) pos.line X.env=pure false:=by rfl)(hf:X.fn x=true\/X.env.scope.names.lookup x=some .local:=by first|exact .inl rfl|exact .inr rfl|assumption):XS X (.Assign [.Name x pos'] e pos) (aT i f):=Fy hN hi hx he hs hf
end
noncomputable def M9:av->Bool
 |[]=>true
 |x::r=>!(r.contains x)&&M9 r
theorem sB{l:av}(h:M9 l=true):l.Nodup:=by
 induction l with
 |nil=>exact Se
 |cons x r ih=>
  simp only[M9,R3,Bool.not_eq_true']at h;exact List.nodup_cons.mpr ⟨λm=>by rw[List.contains_iff_mem.mpr m]at h;exact absurd h.1 (by decide),ih h.2⟩
noncomputable def D5:Vk->av
 |.Name x _=>[x]
 |.Tuple es _ _=>es.filterMap λe=>match e with
  |.Name x _=>some x
  |_=>none
 |_=>[]
noncomputable def Az(N:av):gx->av->av
 |[],_=>[]
 |some j::r,t=>N.getD j ""::Az N r t
 |none::r,x::t=>x::Az N r t
 |none::r,[]=>""::Az N r []
section
variable{X:Cx}{elt tg iter:Vk}{ifs:bx}{scope:Vv}{ix:gx}{G:aW}{g:GF}{C:b6}{Fe:FX}{i:Nat}{y:Str}{lpos py pos:Pos}
theorem xl(hc:X.calm=true)(tk:nF ix g)(hi:XI X tg iter G)(hb:pG X scope (Az X.N ix (D5 tg)) tg elt ifs g C Fe)(ok:jA X.env.scope.names X.N scope (Az X.N ix (D5 tg)) ix=true:=by rfl)(hs:∀x,VN iter X.env x=pure x:=by intro _;rfl):XE X (.ListComp elt [⟨tg,iter,ifs,0⟩] scope pos) (hX ix G g C Fe):=J0 hc (.of ok) tk hi hb hs
theorem QX(hc:X.calm=true)(tk:nF ix g)(hi:XI X tg iter G)(hb:pG X scope (Az X.N ix (D5 tg)) tg elt ifs g C Fe)(ok:jA X.env.scope.names X.N scope (Az X.N ix (D5 tg)) ix=true:=by rfl)(hs:∀x,VN iter X.env x=pure x:=by intro _;rfl):XN X (.ListComp elt [⟨tg,iter,ifs,0⟩] scope pos) (hX ix G g C Fe):=J8 hc (.of ok) tk hi hb hs
theorem Qa(hN:X.N.Nodup)(hc:X.calm=true)(tk:nF ix g)(hi:XI X tg iter G)(hb:pG X scope (Az X.N ix (D5 tg)) tg elt ifs g C Fe)(hi':X.N[i]?=some y:=by rfl)(hx:Loc X.env.scope y:=by first|exact Or.inl rfl|exact Or.inr rfl)(ok:jA X.env.scope.names X.N scope (Az X.N ix (D5 tg)) ix=true:=by rfl)(hsw:swapsWith (.ListComp elt [⟨tg,iter,ifs,0⟩] scope lpos) (some (.Name y py)) pos.line X.env=pure true:=by rfl)(hs:∀x,VN iter X.env x=pure x:=by intro _;rfl)(hf:X.fn y=true\/X.env.scope.names.lookup y=some .local:=by first|exact .inl rfl|exact .inr rfl|assumption):XS X (.Assign [.Name y py] (.ListComp elt [⟨tg,iter,ifs,0⟩] scope lpos) pos) (aT i (hX ix G g C Fe)):=HI hN hi' hx hc (.of ok) tk hi hb hsw hs hf
theorem N8(is:List Nat)(hN:X.N.Nodup)(hc:X.calm=true)(tk:nF ix g)(hi:XI X tg iter G)(hb:pG X scope (Az X.N ix (D5 tg)) tg elt ifs g C Fe)(hi':X.N[i]?=some y:=by rfl)(hx:Loc X.env.scope y:=by first|exact Or.inl rfl|exact Or.inr rfl)(ok:jA X.env.scope.names X.N scope (Az X.N ix (D5 tg)) ix=true:=by rfl)(hsw:swapsWith (.ListComp elt [⟨tg,iter,ifs,0⟩] scope lpos) (some (.Name y py)) pos.line X.env=pure true:=by rfl)(hs:∀x,VN iter X.env x=pure x:=by intro _;rfl)(hf:X.fn y=true\/X.env.scope.names.lookup y=some .local:=by first|exact .inl rfl|exact .inr rfl|assumption):XS X (.Assign [.Name y py] (.ListComp elt [⟨tg,iter,ifs,0⟩] scope lpos) pos) (aT i (gE is (hX ix G g C Fe))):=FJ is hN hi' hx hc (.of ok) tk hi hb hsw hs hf
theorem PP(hN:X.N.Nodup)(hc:X.calm=true)(tk:nF ix g)(hi:XI X tg iter G)(hb:pG X scope (Az X.N ix (D5 tg)) tg elt ifs g C Fe)(hi':X.N[i]?=some y:=by rfl)(hx:Loc X.env.scope y:=by first|exact Or.inl rfl|exact Or.inr rfl)(ok:jA X.env.scope.names X.N scope (Az X.N ix (D5 tg)) ix=true:=by rfl)(hsw:swapsWith (.ListComp elt [⟨tg,iter,ifs,0⟩] scope lpos) (some (.Name y py)) pos.line X.env=pure true:=by rfl)(hs:∀x,VN iter X.env x=pure x:=by intro _;rfl)(hf:X.fn y=true\/X.env.scope.names.lookup y=some .local:=by first|exact .inl rfl|exact .inr rfl|assumption):XS X (.Assign [.Name y py] (.ListComp elt [⟨tg,iter,ifs,0⟩] scope lpos) pos) (lK i (hX ix G g C Fe)):=Ac hN hi' hx hc (.of ok) tk hi hb hsw hs hf
end
structure U where
 P:Vo
 w:Vn
 K:Ug
 mg:cN
 base:Vq
 cL:Vj
 T:Vj
noncomputable abbrev Ca(u:U)(k:Nat)(x:Str)(ps:av)(g:bE):Prop:=Callee u.P u.w u.K u.mg u.base k x ps g
noncomputable abbrev Ma(u:U)(k:Nat)(c m:Str)(ps:av)(g:bE):Prop:=MethAt u.P u.w u.K u.mg u.base k c m ps g
noncomputable abbrev Ta(u:U)(k:Nat)(m:Str)(ps:av)(t:List (Str×(bE))):Prop:=qX u.P u.w u.K u.mg u.base k m ps t
noncomputable def Df(u:U)(x:Str)(st:Vl):Prop:=∃f fd,t6 u.K x x st f fd/\u.mg x=some (.ref f)
noncomputable def Dm(u:U)(c m qual:Str)(st:Vl):Prop:=∃C f fd,clsAt u.K c C/\mG u.K C/\Meth u.K C m f/\t6 u.K m qual st f fd
noncomputable def Bd(x qual:Str)(st:Vl)(ps:av):Prop:=∀us:bc,us.length=ps.length->∀(kV doc pm:Vh)(an:Option Vj)(cdv ct:Vh),bindArgs (UE x qual (jH st) (eB st) (aG st) .none kV doc pm an cdv ct) ⟨us,[]⟩=pure (ps.zip us)
theorem t6.bd{K:Ug}{x qual:Str}{st:Vl}{f:Vj}{fd:VY}{ps:av}(F:t6 K x qual st f fd)(h:Bd x qual st ps):Binds K fd ps []:=F.binds λkV doc pm an cdv ct us e=>h us e kV doc pm an cdv ct
section
variable{u:U}{x c m qual:Str}{st:Vl}{ps:av}{k:Nat}{B:bN}
theorem C7(M:av)(d:Df u x st)(b:Bd x x st ps)(sc:cR (ps++M) ps (aG st))(h:(ps++M).Nodup->∀f,yD u.P u.w u.K u.mg u.base k (ps++M) x st f B):Ca u (k+1) x ps (ai B ps.length (ps++M).length):=by
 obtain⟨f,fd,F,e⟩:=d;exact zJ F (t6.bd F b) e sc (h sc.nd f).ok
theorem D8(d:Df u x st)(b:Bd x x st ps):Ca u k x ps λ_=>un:=by
 obtain⟨f,fd,F,e⟩:=d;exact vh k F (t6.bd F b) e
theorem Ad(d:Dm u c m qual st)(b:Bd m qual st ps):Ma u k c m ps λ_=>un:=by
 obtain⟨C,f,fd,h1,h2,h3,F⟩:=d;have no:∀vs H Q E,¬yN u.K ps.length (λ_=>un) vs H Q E:=λvs H Q E ⟨O,ds,_,_,_,e⟩=>e;exact⟨C,f,fd,h1,h2,h3,⟨λvs H Q E h=>absurd h (no vs H Q E),λA outer s H args us vs Q E _ _ _ _ h=>absurd h (no vs H Q E)⟩,t6.bd F b⟩
theorem Ka(M:av)(d:Dm u c m qual st)(b:Bd m qual st ps)(sc:cR (ps++M) ps (aG st))(h:(ps++M).Nodup->∀f,yD u.P u.w u.K u.mg u.base k (ps++M) qual st f B):Ma u (k+1) c m ps (ai B ps.length (ps++M).length):=by
 obtain⟨C,f,fd,h1,h2,h3,F⟩:=d;exact Ab h1 h2 h3 F (t6.bd F b) sc (h sc.nd f).ok
theorem QT(M:av){f:Vj}{fd:VY}(F:t6 u.K x x st f fd)(sc:cR (ps++M) ps (aG st))(h:(ps++M).Nodup->yD u.P u.w u.K u.mg u.base k (ps++M) x st f B):ig u.P u.w u.K u.mg u.base (nK u.P u.w) (k+1) f fd ps (yN u.K ps.length (ai B ps.length (ps++M).length)):=uh F sc (h sc.nd).ok
end
noncomputable def KD(K:Ug)(x:Str)(st:Vl):Prop:=∃f oc od kV dc pm an cd ct sl,UI K Vs x=some (some (.ref f))/\Lk K f x x st oc od kV dc pm an cd ct sl/\UG K cd x=true/\UB K (.ref f)=true
theorem KD.mk{K:Ug}{x:Str}{st:Vl}{f:Vj}{oc:Vh}{od:Option Vj}{kV dc pm:Vh}{an:Option Vj}{cd ct:Vh}{sl:Array (Option Vh)}(a:UI K Vs x=some (some (.ref f)))(l:Lk K f x x st oc od kV dc pm an cd ct sl)(c:UG K cd x=true)(k:UB K (.ref f)=true):KD K x st:=⟨f,oc,od,kV,dc,pm,an,cd,ct,sl,a,l,c,k⟩
noncomputable def KDs(K:Ug):List (Str×Vl)->Prop
 |[]=>True
 |p::r=>KD K p.1 p.2/\KDs K r
theorem KDs.mk{K:Ug}{x:Str}{st:Vl}{r:List (Str×Vl)}(h:KD K x st)(t:KDs K r):KDs K ((x,st)::r):=⟨h,t⟩
noncomputable def MC(u:U)(Z:Prop):List (Str×Vl)->Prop
 |[]=>Z
 |p::r=>MC u Z r/\Df u p.1 p.2
noncomputable def KZs(K:Ug):av->Prop
 |[]=>True
 |x::r=>UI K Vs x=some none/\KZs K r
theorem KZs.mk{K:Ug}{x:Str}{r:av}(h:UI K Vs x=some none)(t:KZs K r):KZs K (x::r):=⟨h,t⟩
noncomputable def Zs(u:U):av->Prop
 |[]=>True
 |x::r=>Zs u r/\u.mg x=none
section
variable{u:U}{h:Vq}
theorem MC.of{Z:Prop}(X:u.K.In h)(G:h.Ns Vs u.mg)(z:Z):∀{l:List (Str×Vl)},KDs u.K l->MC u Z l
 |[],_=>z
 |_::_,h=>by
  obtain⟨⟨_,_,_,_,_,_,_,_,_,_,a,l,c,k⟩,r⟩:=h;exact⟨MC.of X G z r,_,_,b7 l c k,UV X G a⟩
theorem Zs.of(X:u.K.In h)(G:h.Ns Vs u.mg):∀{l:av},KZs u.K l->Zs u l
 |[],_=>trivial
 |_::_,⟨a,r⟩=>⟨Zs.of X G r,PySem.W.mg_none_of X G a⟩
end
theorem Ek{us:bc}{n:Nat}(h:us.length=n+1):∃a r,us=a::r/\r.length=n:=by
 cases us with
 |nil=>cases h
 |cons a r=>exact⟨a,r,rfl,Nat.succ.inj h⟩
theorem KC{us:bc}(h:us.length=1):∃a,us=[a]:=List.length_eq_one_iff.mp h
theorem IW{us:bc}(h:us.length=2):∃a b,us=[a,b]:=by
 obtain⟨a,r,rfl,k⟩:=Ek h;obtain⟨b,rfl⟩:=KC k;exact⟨a,b,rfl⟩
theorem CD{us:bc}(h:us.length=3):∃a b c,us=[a,b,c]:=by
 obtain⟨a,r,rfl,k⟩:=Ek h;obtain⟨b,c,rfl⟩:=IW k;exact⟨a,b,c,rfl⟩
theorem KI{us:bc}(h:us.length=4):∃a b c d,us=[a,b,c,d]:=by
 obtain⟨a,r,rfl,k⟩:=Ek h;obtain⟨b,c,d,rfl⟩:=CD k;exact⟨a,b,c,d,rfl⟩
theorem OO{us:bc}(h:us.length=5):∃a b c d e,us=[a,b,c,d,e]:=by
 obtain⟨a,r,rfl,k⟩:=Ek h;obtain⟨b,c,d,e,rfl⟩:=KI k;exact⟨a,b,c,d,e,rfl⟩
end TX
namespace TG
open L2
instance(priority:=low) noTabs:aw:=⟨λ_=>True,λ_ _=>trivial,λ_ _ _=>trivial⟩
open PySem PySem.Spec L2
theorem nr{α:Sort _}{a b:α}(h:a=b):a=b:=h
theorem df{α β:Type}(a:α)(f:α->R β):Except.bind (Except.ok a:R α) f=f a:=nr rfl
theorem sv{α β:Type}(x:Option Ex)(f:α->R β):Except.bind (Except.error x:R α) f=.error x:=nr rfl
theorem qg{α:Type}(a:α)(k:Ks)(ρ:ak)(f:α->R D):o8 (.ok a) k ρ f=f a:=nr rfl
theorem tP{α:Type}(x:Ex)(k:Ks)(ρ:ak)(f:α->R D):o8 (.error (some x)) k ρ f=k.ex x ρ:=nr rfl
theorem jQ{α:Type}(a:α):wA (.ok a:R α)=.ok a:=nr rfl
theorem eE{α:Type}(a:α):rO (some a)=.ok a:=nr rfl
theorem ge_0(d:D)(ρ:ak):rK (some (.val d)::ρ) 0=.ok d:=rfl
theorem yM(x:Option S)(ρ:ak)(i:Nat):rK (x::ρ) (i+1)=rK ρ i:=rfl
theorem nU(i:Nat)(ρ:ak):af i ρ=rK ρ i:=rfl
theorem AC(d:D)(ρ:ak):fC d ρ=.ok d:=rfl
theorem oG(ρ:ak):ah ρ=.ok []:=rfl
theorem lu(f:FX)(g:aW)(ρ:ak):ae f g ρ=(f ρ).bind λx=>(g ρ).bind λxs=>.ok (x::xs):=rfl
theorem o0(g:aW)(ρ:ak):cA g ρ=(g ρ).bind λxs=>rO (qV xs):=rfl
theorem nM(g:aW)(ρ:ak):fh g ρ=(g ρ).bind λxs=>rO (lW xs):=rfl
theorem zv(g:D->bu)(f:FX)(ρ:ak):f1 g f ρ=(f ρ).bind λa=>rO (g a):=rfl
theorem yP(g:D->D->bu)(f h:FX)(ρ:ak):f2 g f h ρ=(f ρ).bind λa=>(h ρ).bind λb=>rO (g a b):=rfl
theorem zq(f:FX)(ρ:ak):fB f ρ=(f ρ).bind λd=>rO (N5 d):=rfl
theorem zT(g:List D->bu)(f:aW)(ρ:ak):fL g f ρ=(f ρ).bind λds=>rO (g ds):=rfl
theorem AB(g:bE)(f:aW)(ρ:ak):fR g f ρ=(f ρ).bind g:=nr rfl
theorem nW(f:b6)(ρ:ak):nH f ρ=(f ρ).bind λb=>.ok (!b):=rfl
theorem o6(f g:b6)(ρ:ak):jT f g ρ=(f ρ).bind λb=>if b then g ρ else .ok false:=rfl
theorem tI(f g:b6)(ρ:ak):BK f g ρ=(f ρ).bind λb=>if b then .ok true else g ρ:=rfl
theorem iW(f:FX)(ρ:ak):aS f ρ=(f ρ).bind λd=>rO (truth d):=rfl
theorem kM(f g:FX)(ρ:ak):me f g ρ=(f ρ).bind λd=>wz d (g ρ):=rfl
theorem nX(f g:FX)(ρ:ak):xH f g ρ=(f ρ).bind λd=>KY d (g ρ):=rfl
theorem lG(f:FX)(ρ:ak):qf f ρ=(f ρ).bind λa=>rO (JA a):=rfl
theorem tG(t:b6)(f g:FX)(ρ:ak):zY t f g ρ=(t ρ).bind λc=>if c then f ρ else g ρ:=rfl
theorem nR(T:String)(f:FX)(ρ:ak):pF T f ρ=(f ρ).bind λa=>rO (wo T a):=rfl
theorem oI(f:FX)(ρ:ak):u6 f ρ=(f ρ).bind λa=>.ok (.bl (isNon a)):=rfl
theorem lC(f:FX)(ρ:ak):KS f ρ=(f ρ).bind λa=>.ok (.bl (!isNon a)):=rfl
theorem nN(f:FX)(ρ:ak):wM f ρ=(f ρ).bind λa=>rO (IM a):=rfl
theorem jm(f:FX)(ρ:ak):HL f ρ=(f ρ).bind λa=>rO (Bu a):=rfl
theorem nT(f:FX)(ρ:ak):NR f ρ=(f ρ).bind λa=>rO (HR a):=rfl
theorem iT(g g':D->D->bu)(fa fb fc:FX)(ρ:ak):mE g g' fa fb fc ρ=(fa ρ).bind λx=>(fb ρ).bind λy=>(rO (g x y)).bind λz=>wz z ((fc ρ).bind λw=>rO (g' y w)):=rfl
theorem iY(f:FX)(ρ:ak):bR f ρ=(f ρ).bind λd=>rO (qO d):=rfl
theorem gS(f:aW)(ρ:ak):iA f ρ=(f ρ).bind λds=>rO (m7 ds):=rfl
theorem gQ(f:aW)(ρ:ak):kT f ρ=(f ρ).bind λds=>rO (mR ds):=rfl
theorem n0(f:aW)(ρ:ak):EX f ρ=(f ρ).bind λds=>rO (CL ds):=rfl
theorem kP(f:aW)(ρ:ak):eK f ρ=(f ρ).bind λds=>rO (qz ds):=rfl
theorem oh(z:Str):Qh (.str z)=some z:=rfl
theorem gR(ρ:ak):fZ ρ=.ok none:=rfl
theorem lH(f:FX)(ρ:ak):il f ρ=(f ρ).bind λd=>rO (xE d):=rfl
theorem iN(f:FX)(l h:ak->R dA)(ρ:ak):gA f l h ρ=(f ρ).bind λa=>(l ρ).bind λlo=>(h ρ).bind λhi=>rO (qK a lo hi):=rfl
theorem lD(ρ:ak):dq ρ=.ok true:=rfl
theorem lg(k:Ks)(ρ:ak):bq k ρ=k.nx ρ:=nr rfl
theorem iy(A B:bN)(k:Ks)(ρ:ak):aq A B k ρ=A {k with nx:=B k} ρ:=nr rfl
theorem kR(f:FX)(k:Ks)(ρ:ak):aD f k ρ=o8 (f ρ) k ρ .ok:=nr rfl
theorem iQ(k:Ks)(ρ:ak):Lv k ρ=.ok .non:=nr rfl
theorem oY(c:b6)(A B:bN)(k:Ks)(ρ:ak):eR c A B k ρ=o8 (c ρ) k ρ λb=>if b then A k ρ else B k ρ:=nr rfl
theorem lJ(i:Nat)(f:FX)(k:Ks)(ρ:ak):aT i f k ρ=o8 (f ρ) k ρ λd=>k.nx (setV i d ρ):=nr rfl
theorem jf(is:List Nat)(F:bN)(k:Ks)(ρ:ak):dr is F k ρ=F k (kill is ρ):=nr rfl
theorem iE(G:aW)(g:GF)(B:bN)(k:Ks)(ρ:ak):kL G g B k ρ=o8 (G ρ) k ρ λds=>fV g B k ds ρ:=nr rfl
theorem Aq(d:D)(x:Option S)(ρ:ak):setV 0 d (x::ρ)=some (.val d)::ρ:=rfl
theorem zZ(i:Nat)(d:D)(x:Option S)(ρ:ak):setV (i+1) d (x::ρ)=x::setV i d ρ:=rfl
theorem nQ(ρ:ak):kill [] ρ=ρ:=rfl
theorem kX(i:Nat)(is:List Nat)(ρ:ak):kill (i::is) ρ=kill is (ρ.set i none):=rfl
theorem dC(B:bN)(n:Nat)(a:D):ai B 1 n [a]=B K0 (env0 n [a]):=nr rfl
theorem bG(B:bN)(n:Nat)(a b:D):ai B 2 n [a,b]=B K0 (env0 n [a,b]):=nr rfl
theorem cX(B:bN)(n:Nat)(a b c:D):ai B 3 n [a,b,c]=B K0 (env0 n [a,b,c]):=nr rfl
theorem Cb(B:bN)(n:Nat)(a b c d e:D):ai B 5 n [a,b,c,d,e]=B K0 (env0 n [a,b,c,d,e]):=nr rfl
theorem ot(ρ:ak):inB [] ρ=[]:=rfl
theorem lI(ix:gx)(ρ:ak):inB (none::ix) ρ=none::inB ix ρ:=rfl
noncomputable def pick(ρ:ak)(i:Nat):Option S:=match ρ[i]? with
 |some (some (.val d))=>some (.val d)
 |_=>none
theorem lB(i:Nat)(ix:gx)(ρ:ak):inB (some i::ix) ρ=pick ρ i::inB ix ρ:=rfl
theorem zB(d:D)(ρ:ak):pick (some (.val d)::ρ) 0=some (.val d):=rfl
theorem yX(x:Option S)(ρ:ak)(i:Nat):pick (x::ρ) (i+1)=pick ρ i:=rfl
theorem kS(i:Nat)(f:FX)(k:Ks)(ρ:ak):lK i f k ρ=o8 (f ρ) k ρ λd=>k.nx (ρ.set i (some (.own d))):=nr rfl
theorem kW(i:Nat)(F:bN)(k:Ks)(ρ:ak):oN i F k ρ=F k (frz i ρ):=nr rfl
theorem zr(d:D)(ρ:ak):frz 0 (some (.own d)::ρ)=some (.val d)::ρ:=rfl
theorem tK(d:D)(ρ:ak):frz 0 (some (.val d)::ρ)=some (.val d)::ρ:=rfl
theorem zc(i:Nat)(x:Option S)(ρ:ak):frz (i+1) (x::ρ)=x::frz i ρ:=by
 unfold frz;rw[S3];split<;>rename_i h
 ·rw[h];rfl
 ·rfl
theorem tY(i:Nat)(u:List D->List D->Option (List D))(f:aW)(k:Ks)(ρ:ak){xs:List D}(h:ρ[i]?=some (some (.own (.lst xs)))):uX i u f k ρ=o8 (f ρ) k ρ λds=>(rO (u xs ds)).bind λys=>k.nx (ρ.set i (some (.own (.lst ys)))):=by
 unfold uX;rw[h]
theorem oQ{xs:List D}{y:D}(h:xs.length<100000):gq xs [y]=some (xs++[y]):=by
 show(if small (xs.length+1)then some (xs++[y])else none)=_;rw[eh ‹0›];rfl
theorem n9(i j:Int):bS (.int i) (.int j)=some (.int (i+j)):=nr rfl
theorem n5(i j:Int):TG.rB (.int i) (.int j)=some (.int (i-j)):=nr rfl
theorem sJ(i j:Int):Rj (.int i) (.int j)=some (.bl (decide (i<j))):=nr rfl
theorem oU(i j:Int):pK (.int i) (.int j)=some (.bl (decide (i<j))):=nr rfl
theorem nV(x y:Str):pK (.str x) (.str y)=some (.bl (decide (x.cps.toList<y.cps.toList))):=nr rfl
theorem oH(c d:Bool):Oj (.bl c) (.bl d)=some (.bl (c==d)):=nr rfl
theorem gV(c d:Bool):E9 (.bl c) (.bl d)=some (.bl (!(c==d))):=nr rfl
theorem si(i j:Int):D7 (.int i) (.int j)=some (.bl (decide (i<=j))):=nr rfl
theorem rW(i j:Int):Ko (.int i) (.int j)=some (.bl (decide (j<i))):=nr rfl
theorem rT(i j:Int):QJ (.int i) (.int j)=some (.bl (decide (j<=i))):=nr rfl
theorem oK(i:Int):IM (.int i)=some (.int (-i)):=nr rfl
theorem fY{i j:Int}(h:0<j):cm (.int i) (.int j)=some (.int (i%j)):=by
 show(if decide (0<j)then some (D.int (i%j))else none)=_;rw[decide_eq_true h];rfl
theorem mn{i j:Int}(h:0<j)(h':j<10^200):dm (.int i) (.int j)=some (.int (i/j)):=by
 show(if decide (0<j/\j<10^200)then some (D.int (i/j))else none)=_;rw[decide_eq_true ⟨h,h'⟩];rfl
theorem ny{i j:Int}(h:-(2^64)<i)(h':i<2^64):jy (.int i) (.int j)=some (.int (i*j)):=by
 show(if decide ((-(2^64)<i/\i<2^64)\/(-(2^64)<j/\j<2^64))then some (D.int (i*j))else none)=_;rw[decide_eq_true (.inl ⟨h,h'⟩)];rfl
theorem qa{i j:Int}(h:-(2^64)<j)(h':j<2^64):jy (.int i) (.int j)=some (.int (i*j)):=by
 show(if decide ((-(2^64)<i/\i<2^64)\/(-(2^64)<j/\j<2^64))then some (D.int (i*j))else none)=_;rw[decide_eq_true (.inr ⟨h,h'⟩)];rfl
theorem wc(i:Int)(n:Nat)(h:n<=1000000)(h':i.natAbs<2^64):pJ (.int i) (.int n)=some (.int (i^n)):=by
 show(if decide (0<=(n:Int)/\(n:Int)<=1000000/\i.natAbs<2^64)then some (D.int (i^(n:Int).toNat))else none)=_;rw[decide_eq_true ⟨by omega,by omega,h'⟩];rfl
theorem iO(i j:Int):gEq (.int i) (.int j)=some (.bl (i==j)):=by unfold gEq pyEq;rfl
theorem js(i j:Str):gEq (.str i) (.str j)=some (.bl (i==j)):=by unfold gEq pyEq;rfl
theorem je(i j:Bool):gEq (.bl i) (.bl j)=some (.bl (i==j)):=by unfold gEq pyEq;rfl
theorem jq(i j:Int):tQ (.int i) (.int j)=some (.bl (!(i==j))):=by unfold tQ pyEq;rfl
theorem iL(i j:Str):tQ (.str i) (.str j)=some (.bl (!(i==j))):=by unfold tQ pyEq;rfl
theorem iX(i j:Bool):tQ (.bl i) (.bl j)=some (.bl (!(i==j))):=by unfold tQ pyEq;rfl
theorem uR{α:Type}(xs:List α)(n:Nat):mI xs (n:Int)=xs[n]?:=by
 unfold mI uP;rw[if_pos ‹0›];by_cases h:n<xs.length
 ·rw[if_pos ‹0›];rfl
 ·rw[if_neg ‹0›,Tz ‹0›];rfl
theorem zj{α:Type}(a:α)(xs:List α):mI (a::xs) 0=some a:=uR (a::xs) 0
theorem z5{α:Type}(a:α)(xs:List α)(n:Nat):mI (a::xs) ((n+1:Nat):Int)=mI xs (n:Int):=by
 rw[uR,uR,S3]
theorem Jq(xs:List D)(i:Int):ao (.tup xs) (.int i)=mI xs i:=nr rfl
theorem J5(xs:List D)(i:Int):ao (.lst xs) (.int i)=mI xs i:=nr rfl
theorem gH(a:D)(xs:List D):ao (.tup (a::xs)) (.int 0)=some a:=zj a xs
theorem h7(a b:D)(xs:List D):ao (.tup (a::b::xs)) (.int 1)=some b:=(z5 a _ 0).trans (zj b xs)
theorem sy(a b c:D)(xs:List D):ao (.tup (a::b::c::xs)) (.int 2)=some c:=(z5 a _ 1).trans ((z5 b _ 0).trans (zj c xs))
theorem sN(a:D)(xs:List D):ao (.lst (a::xs)) (.int 0)=some a:=zj a xs
theorem sf(a b:D)(xs:List D):ao (.lst (a::b::xs)) (.int 1)=some b:=(z5 a _ 0).trans (zj b xs)
theorem sG(a b c:D)(xs:List D):ao (.lst (a::b::c::xs)) (.int 2)=some c:=(z5 a _ 1).trans ((z5 b _ 0).trans (zj c xs))
theorem iS(xs:List D):cP [.lst xs]=some (.int xs.length):=nr rfl
theorem jk(xs:List D):cP [.tup xs]=some (.int xs.length):=nr rfl
theorem fS(xs:List D):cW [.lst xs]=some (.tup xs):=nr rfl
theorem fW(xs:List D):cW [.tup xs]=some (.tup xs):=nr rfl
theorem oy(b:Bool):N5 (.bl b)=some b:=nr rfl
theorem gU(i:Int):xE (.int i)=some (some i):=nr rfl
theorem fG(b:Bool):truth (.bl b)=some b:=nr rfl
theorem fE(xs:List D):truth (.tup xs)=some (!xs.isEmpty):=nr rfl
theorem fH(xs:List D):truth (.lst xs)=some (!xs.isEmpty):=nr rfl
theorem mF(i j:Int):kz [.int i,.int j]=some (.int (if j>i then j else i)):=nr rfl
theorem mD(i j:Int):lP [.int i,.int j]=some (.int (if j<i then j else i)):=nr rfl
theorem fM(xs:List D):qO (.lst xs)=some xs:=nr rfl
theorem fI(xs:List D):qO (.tup xs)=some xs:=nr rfl
theorem jp(k:R D):wz (.bl true) k=k:=nr rfl
theorem iZ(k:R D):wz (.bl false) k=.ok (.bl false):=nr rfl
theorem lm(k:R D):KY (.bl true) k=.ok (.bl true):=nr rfl
theorem ly(k:R D):KY (.bl false) k=k:=nr rfl
theorem jh(a b:Bool):wz (.bl a) (.ok (.bl b))=.ok (.bl (a&&b)):=by cases a<;>rfl
theorem lh(a b:Bool):KY (.bl a) (.ok (.bl b))=.ok (.bl (a||b)):=by cases a<;>rfl
theorem oE(b:Bool):JA (.bl b)=some (.bl (!b)):=nr rfl
theorem oZ(xs:List D):HR (.lst xs)=some (.lst xs.reverse):=nr rfl
theorem oX(n:Nat)(h:n<2^62):m7 [.int n]=some (dY 0 n):=by
 show(if okR (n:Int)then some (dY 0 ((n:Int).toNat))else none)=_
 have:okR (n:Int)=true:=decide_eq_true ⟨by omega,by omega⟩
 rw[this];rfl
theorem JD{xs:List D}(h:xs.length<=100000):lW xs=some (.lst xs):=by unfold lW;rw[eh h];rfl
theorem ur{α:Type}(f:α->D)(h:∀a,pl (f a)=true):∀xs:List α,mm (xs.map f)=true
 |[]=>rfl
 |x::xs=>by
  show(pl (f x)&&mm (xs.map f))=true;rw[h,ur f h xs];rfl
theorem EL(f:Str->D)(hf:f=D.str)(w:Str)(ws:av):inD (.str w) (ws.map f)=ws.any λy=>y==w:=by
 subst hf;unfold inD;rw[Tf];congr 1
theorem pQ(w:Str)(ws:av):xx (.str w) (.tup (ws.map .str))=some (.bl (ws.contains w)):=by
 show(if(pl (.str w)&&mm (ws.map .str))&&bY 8 (.str w)then some (D.bl (inD (.str w) (ws.map .str)))else none)=_;rw[EL _ rfl,ur _ λ_=>rfl];show some (D.bl _)=_;congr 2
 induction ws with
 |nil=>rfl
 |cons x xs ih=>rw[R9,S9,ih,Bool.beq_comm]
theorem Ew(w:Str)(ws:av):xx (.str w) (.lst (ws.map .str))=some (.bl (ws.contains w)):=pQ w ws
theorem Bl(xs ys:List D)(h:xs.length+ys.length<=100000):bS (.lst xs) (.lst ys)=some (.lst (xs++ys)):=by
 show(if small (xs.length+ys.length)then some (D.lst (xs++ys))else none)=_;rw[eh h];rfl
theorem hU(xs ys:List D)(h:xs.length+ys.length<=100000):bS (.tup xs) (.tup ys)=some (.tup (xs++ys)):=by
 show(if small (xs.length+ys.length)then some (D.tup (xs++ys))else none)=_;rw[eh h];rfl
theorem kN(xs:List D)(lo hi:dA):qK (.lst xs) lo hi=some (.lst (cutD xs lo hi)):=nr rfl
theorem kU(xs:List D)(lo hi:dA):qK (.tup xs) lo hi=some (.tup (cutD xs lo hi)):=nr rfl
theorem gI{ix:gx}{G:aW}{g:GF}{C:b6}{Fe:FX}{ρ:ak}{ds r:List D}(h1:G ρ=.ok ds)(h2:ds.length<=100000)(h3:xj (inB ix ρ) g C Fe ds=.ok r):hX ix G g C Fe ρ=.ok (.lst r):=by
 unfold hX;rw[h1,df,eh h2,h3];rfl
theorem ra{α:Type}{ρ:ak}{g:GF}{C:b6}{Fe:FX}(mk:α->D)(p:α->Bool)(v:α->D):∀xs:List α,(∀a∈xs,∃ρ1,g (mk a) ρ=some ρ1/\C ρ1=.ok (p a)/\Fe ρ1=.ok (v a))->
  xj ρ g C Fe (xs.map mk)=.ok ((xs.filter p).map v)
 |[],_=>rfl
 |a::xs,h=>by
  obtain⟨ρ1,h1,h2,h3⟩:=h a Ru;rw[RH,nB,h1,eE,df,h2,jQ,df,h3,jQ,df,ra mk p v xs λb hb=>h b (Rv _ hb)];cases e:p a with
  |true=>rw[if_pos rfl,Tp e];rfl
  |false=>rw[if_neg RF,Tq (by simp[e])]
theorem pU{α:Type}{ρ:ak}{g:GF}{C:b6}{Fe:FX}(mk:α->D)(v:α->D)(xs:List α)(h:∀a∈xs,∃ρ1,g (mk a) ρ=some ρ1/\C ρ1=.ok true/\Fe ρ1=.ok (v a)):xj ρ g C Fe (xs.map mk)=.ok (xs.map v):=by
 rw[ra mk (λ_=>true) v xs h,List.filter_eq_self.mpr λ_ _=>rfl]
theorem xL{g:GF}{B:bN}{k:Ks}(Iv:Nat->ak->Prop):∀(ds:List D)(i:Nat)(ρ:ak),(∀j d ρ (k':Ks),i<=j->ds[j-i]?=some d->Iv j ρ->∃ρ1 ρ2,g d ρ=some ρ1/\Iv (j+1) ρ2/\B k' ρ1=k'.nx ρ2)->Iv i ρ->∃ρ',Iv (i+ds.length) ρ'/\fV g B k ds ρ=k.nx ρ'
 |[],i,ρ,_,h=>⟨ρ,h,rfl⟩
 |d::ds,i,ρ,st,h=>by
  obtain⟨ρ1,ρ2,e1,h2,e2⟩:=st i d ρ ⟨fV g B k ds,k.nx,fV g B k ds,k.ex⟩ (RB _) (by rw[Td];rfl) h;obtain⟨ρ',h3,e3⟩:=xL (g:=g) (B:=B) (k:=k) Iv ds (i+1) ρ2 (λj d' ρ k' hj hd=>st j d' ρ k' ‹0› (by rw[show j-i=(j-(i+1))+1 by omega,S3];exact hd)) h2;refine⟨ρ',?_,?_⟩
  ·rw[RG]
   have:i+(ds.length+1)=i+1+ds.length:=(by omega);rw[this];exact h3
  ·show((rO (g d ρ)).bind λρ1=>B ⟨fV g B k ds,k.nx,fV g B k ds,k.ex⟩ ρ1)=_;rw[e1,eE,df,e2];exact e3
theorem gL{g:GF}{B:bN}{k:Ks}{ds:List D}{ρ:ak}{Q:R D->Prop}(Iv:Nat->ak->Prop)(st:∀i d ρ (k':Ks),ds[i]?=some d->Iv i ρ->∃ρ1 ρ2,g d ρ=some ρ1/\Iv (i+1) ρ2/\B k' ρ1=k'.nx ρ2)(h:Iv 0 ρ)(q:∀ρ',Iv ds.length ρ'->Q (k.nx ρ')):Q (fV g B k ds ρ):=by
 obtain⟨ρ',h1,e⟩:=xL (k:=k) Iv ds 0 ρ (λj d ρ k' _ hd=>st j d ρ k' hd) h;rw[e];rw[S7]at h1;exact q ρ' h1
theorem eN{α:Type}{xs:List α}{i:Nat}{a:α}(h:xs[i]?=some a):i<xs.length:=by
 rcases Nat.lt_or_ge i xs.length with z|z
 ·exact z
 ·rw[Tz z]at h;cases h
theorem GK{α β:Type}(f:α->β)(xs:List α)(i:Int):mI (xs.map f) i=(mI xs i).map f:=by
 unfold mI;rw[RJ];cases uP xs.length i with
 |none=>rfl
 |some j=>simp
theorem vv{α:Type}{xs:List α}{k:Nat}(h:k<xs.length):mI xs (k:Int)=some xs[k]:=by
 unfold mI uP;rw[if_pos ‹0›,if_pos ‹0›];simp[h]
theorem yu{α:Type}{xs:List α}{i:Int}(h0:0<=i)(h:i<xs.length):mI xs i=some (xs[i.toNat]'‹0›):=by
 have e:i=((i.toNat:Nat):Int):=by omega
 conv=>lhs;rw[e]
 exact vv ‹0›
noncomputable def G8:bN:=aq (eR (fB (f2 pK (af 1) (fL cP (ae (af 0) ah)))) (aD (f2 ao (af 0) (af 1))) bq) (aD (fC (.int 0)))
theorem Eg(ns:List Int)(k:Nat):ai G8 2 2 [.lst (ns.map .int),.int k]=.ok (.int (ns.getD k 0)):=by
 show(if decide ((k:Int)<((ns.map D.int).length:Int))then o8 (rO (mI (ns.map D.int) (k:Int))) _ _ .ok else .ok (.int 0))=_;rw[RJ];by_cases h:k<ns.length
 ·rw[if_pos (by simpa using h),GK,vv h,Option.map_some,Tt,Sz h];rfl
 ·rw[if_neg (by simpa using h),Tt,Tz ‹0›];rfl
theorem Bi(ns:List Int)(i:Int)(h:0<=i):∃c:Int,ai G8 2 2 [.lst (ns.map .int),.int i]=.ok (.int c):=by
 have e:i=((i.toNat:Nat):Int):=by omega
 exact⟨ns.getD i.toNat 0,by rw[e];exact Eg ns i.toNat⟩
theorem pT(x y:Str):(x++y).length=x.length+y.length:=by
 show(x.cps++y.cps).size=_;rw[Array.size_append];rfl
theorem jW(x y:Str)(h:x.length<=1000)(h':y.length<=1000):bS (.str x) (.str y)=some (.str (x++y)):=by
 show(if small (x.length+y.length)then some (D.str (x++y))else none)=_;rw[eh ‹0›];rfl
theorem ym(x:Str)(h:x.length<=1000)(i:Int)(h0:0<=i)(h1:i<x.length):∃y:Str,y.length=1/\ao (.str x) (.int i)=some (.str y):=by
 have hl:x.cps.toList.length=x.length:=by simp[Str.length]
 have hi:i<x.cps.toList.length:=by omega
 refine⟨⟨#[x.cps.toList[i.toNat]'‹0›]⟩,rfl,?_⟩;show(if small x.length then(mI x.cps.toList i).bind λc=>some (D.str ⟨#[c]⟩)else none)=_;rw[eh ‹0›,if_pos rfl,yu h0 hi];rfl
theorem lF(lo:Int)(n:Nat):dY lo n=(List.range n).map λ(k:Nat)=>D.int (lo+(k:Int)):=nr rfl
theorem eG(lo:Int)(n:Nat):(dY lo n).length=n:=by unfold dY;rw[RJ,SL]
theorem str_int(i:Int)(h:i.natAbs<10^70):∃x:Str,DV [.int i]=some (.str x):=by
 refine⟨toString i,?_⟩;show(if decide (i.natAbs.log2<1920)then some (D.str (toString i))else none)=_;have e:i.natAbs.log2<1920:=by
  by_cases z:i.natAbs=0
  ·rw[z];decide
  ·rw[Nat.log2_lt z];exact Sd h (by decide +kernel)
 rw[decide_eq_true e];rfl
theorem wy{α:Type}(xs:List α)(m:Nat):cutD xs none (some (m:Int))=xs.take m:=by
 unfold cutD;rw[HT.Lj,HT.My,Su,SM];rcases Nat.le_total m xs.length with h|h
 ·rw[TB h]
 ·rw[TC h,TF h,TF (RB _)]
theorem vx{α:Type}(xs:List α)(m:Nat):cutD xs (some (m:Int)) none=xs.drop m:=by
 unfold cutD;rw[HT.Lj,HT.My];rcases Nat.le_total m xs.length with h|h
 ·rw[TB h];exact TF (by rw[R1];exact RB _)
 ·rw[TC h,Td,Sq,TH h]
theorem E5(ρ:ak):v6 ρ=.ok (.dct [] []):=nr rfl
theorem vS(q:List Key):mO (.tup (q.map bm))=some q:=cC q
theorem GY{i:Nat}{fk fv:FX}{k:Ks}{ρ:ak}{al:dP}{q:List Key}{v:D}(h:ρ[i]?=some (some (.own (jt al))))(ek:fk ρ=.ok (.tup (q.map bm)))(ev:fv ρ=.ok v)(hl:al.length<=100000):rY i fk fv k ρ=k.nx (ρ.set i (some (.own (jt (jU al q v))))):=by
 have e:tx (encK al) (al.map (·.2)) (.tup (q.map bm)) v=some (jU al q v):=by
  unfold tx;rw[qq];show(mO (.tup (q.map bm))).bind _=_;rw[vS];show(if small al.length then _ else _)=_;rw[eh hl];rfl
 unfold rY;rw[h];show o8 ((fv ρ).bind λv=>(fk ρ).bind λq=>rO (tx (encK al) (al.map (·.2)) q v)) k ρ _=_;rw[ev,df,ek,df,e];rfl
theorem Em{α:Type}(xs:List α)(a:α):mI (xs++[a]) (-1)=some a:=by
 unfold mI uP;rw[if_neg (by decide),RZ,R6];simp;rw[if_pos ‹0›];show(xs++[a])[(-1+((xs.length:Int)+1)).toNat]?=some a;rw[show(-1+((xs.length:Int)+1)).toNat=xs.length by omega];simp
local macro_rules
 |`(tactic| simp! only[$xs,*])=>`(tactic| simp only[df,sv,qg,tP,jQ,eE,ge_0,yM,nU,AC,oG,lu,o0,nM,zv,yP,zq,zT,AB,nW,o6,tI,iW,kM,nX,lG,tG,nR,oI,lC,nN,jm,nT,iT,iY,gS,gQ,n0,kP,gR,lH,iN,lD,lg,iy,kR,iQ,oY,lJ,jf,iE,kS,kW,zr,tK,zc,Aq,zZ,nQ,kX,ot,lI,lB,zB,yX,TJ,TK,RH,R7,Sl,SH,K0,env0,List.replicate,Te,RN,S7,Nat.reduceAdd,Nat.reduceSub,RG,Sa,n9,n5,sJ,oU,nV,oH,gV,oh,si,rW,rT,oK,iO,js,je,jq,iL,iX,gH,h7,sy,sN,sf,sG,iS,jk,fS,fW,oy,gU,fG,fE,fH,mF,mD,fM,fI,jp,iZ,lm,ly,jh,lh,oE,oZ,kN,kU,gN,if_true,if_false,Tj,TL,Si,$xs,*])
theorem Lb(a b c:D):qV [a,b,c]=some (.tup [a,b,c]):=nr rfl
theorem uo(a b:D):qV [a,b]=some (.tup [a,b]):=nr rfl
theorem Mp(a:D):qV [a]=some (.tup [a]):=nr rfl
theorem MI:qV []=some (.tup []):=nr rfl
theorem M0(a:D):lW [a]=some (.lst [a]):=nr rfl
theorem K1(a b:D):lW [a,b]=some (.lst [a,b]):=nr rfl
theorem Pn:lW []=some (.lst []):=nr rfl
noncomputable def Pu(m:Nat)(rows:gz):Prop:=rows.Pairwise λr s=>dW (r.take m) (s.take m)=some true
inductive F2{α β:Type}(R:α->β->Prop):List α->List β->Prop where
 |nil:F2 R [] []
 |cons {a:α} {b:β} {as:List α} {bs:List β} (h:R a b) (t:F2 R as bs):F2 R (a::as) (b::bs)
theorem DR{ρ:ak}{g:GF}{C:b6}{Fe:FX}:∀(ds:List D)(P:Nat->D->Prop),(∀i d,ds[i]?=some d->∃ρ1 v,g d ρ=some ρ1/\C ρ1=.ok true/\Fe ρ1=.ok v/\P i v)->∃vs:List D,vs.length=ds.length/\(∀i v,vs[i]?=some v->P i v)/\xj ρ g C Fe ds=.ok vs
 |[],_,_=>⟨[],rfl,(λ_ _ h=>nomatch h),rfl⟩
 |d::ds,P,h=>by
  obtain⟨ρ1,w,h1,h2,h3,h4⟩:=h 0 d rfl;obtain⟨ws,e1,e2,e3⟩:=DR (ρ:=ρ) (g:=g) (C:=C) (Fe:=Fe) ds (λi v=>P (i+1) v) λi d' hd=>h (i+1) d' (by rw[S3];exact hd);refine⟨w::ws,by rw[RG,RG,e1],λi v hv=>?_,?_⟩
  ·cases i with
   |zero=>cases hv;exact h4
   |succ i=>rw[S3]at hv;exact e2 i v hv
  ·rw[nB,h1,eE,df,h2,jQ,df,h3,jQ,df,e3];rfl
end TG
namespace TD
open PySem PySem.Spec L2 TG TX
noncomputable def cU:bN:=aq (eR (fB (f2 pK (af 1) (fL cP (ae (af 0) ah)))) (aD (f2 ao (af 0) (af 1))) bq) (aD (fC (.int 0)))
noncomputable def eJ:bN:=aD (fL cW (ae (hX [none] (bR (f2 bS (f2 ao (af 0) (fC (.int 0))) (f2 ao (af 0) (fC (.int 1))))) (gN 0) dq (f2 ao (af 0) (fC (.int 0)))) ah))
noncomputable def cx:bN:=aq (kL (eK (ae (fR (ai eJ 1 1) (ae (af 0) ah)) ah)) (gT 2 (oO [2,3])) (aq (eR (fB (f2 gEq (af 3) (af 1))) (aD (af 2)) bq) (dr [2,3] bq))) (j3)
noncomputable def fX:bN:=aD (f2 bS (f2 bS (gA (af 0) fZ (il (af 1))) (af 2)) (gA (af 0) (il (f2 bS (af 1) (fC (.int 1)))) fZ))
noncomputable def jV:bN:=aD (f2 pK (af 1) (fL cP (ae (f2 ao (af 0) (fC (.int 0))) ah)))
noncomputable def cp:bN:=aq (eR (aS (fR (ai jV 2 2) (ae (af 0) (ae (af 1) ah)))) (aD (cA (ae (fR (ai fX 3 3) (ae (f2 ao (af 0) (fC (.int 0))) (ae (af 1) (ae (af 2) ah)))) (ae (f2 ao (af 0) (fC (.int 1))) ah)))) bq) (aD (cA (ae (f2 ao (af 0) (fC (.int 0))) (ae (fR (ai fX 3 3) (ae (f2 ao (af 0) (fC (.int 1))) (ae (f2 rB (af 1) (fL cP (ae (f2 ao (af 0) (fC (.int 0))) ah))) (ae (af 2) ah)))) ah))))
noncomputable def mx:bN:=aD (fL cW (ae (hX [none] (bR (f2 bS (f2 ao (af 0) (fC (.int 0))) (f2 ao (af 0) (fC (.int 1))))) (gN 0) dq (f2 ao (af 0) (fC (.int 1)))) ah))
noncomputable def eM:bN:=aD (f2 ao (f2 ao (f2 bS (f2 ao (af 0) (fC (.int 0))) (f2 ao (af 0) (fC (.int 1)))) (af 1)) (fC (.int 1)))
noncomputable def cV:bN:=aD (zY (aS (pF "str" (af 0))) (f2 bS (fC (.str ".")) (af 0)) (fL DV (ae (af 0) ah)))
noncomputable def bK:bN:=aD (f2 cm (f2 bS (f2 bS (f2 jy (af 0) (af 0)) (f2 jy (fC (.int 48271)) (af 0))) (fC (.int 11))) (fC (.int 2147483647)))
noncomputable def bZ:bN:=aq (aT 2 (f2 cm (f2 bS (f2 bS (f2 cm (fR (ai cU 2 2) (ae (af 0) (ae (af 1) ah))) (fC (.int 2147483647))) (f2 jy (f2 jy (fC (.int 69621)) (af 1)) (af 1))) (fC (.int 5))) (fC (.int 2147483647)))) (aD (fR (ai bK 1 1) (ae (fR (ai bK 1 1) (ae (af 2) ah)) ah)))
noncomputable def bJ:bN:=aq (aT 2 (fC (.str "abcdefghijklmnopqrstuvwxyz"))) (aq (aT 1 (f2 cm (f2 bS (f2 jy (af 1) (f2 ao (fh (ae (fC (.int 1)) (ae (fC (.int 5)) (ae (fC (.int 7)) (ae (fC (.int 11)) (ae (fC (.int 13)) (ae (fC (.int 23)) ah))))))) (f2 cm (af 0) (fC (.int 6))))) (f2 dm (af 0) (fC (.int 6)))) (fC (.int 24)))) (aq (aT 0 (f2 dm (af 0) (fC (.int 144)))) (aq (eR (fB (f2 gEq (f2 cm (af 0) (fC (.int 3))) (fC (.int 0)))) (aD (f2 sC (f2 ao (af 2) (f2 cm (f2 bS (f2 dm (af 0) (fC (.int 3))) (f2 dm (af 1) (fC (.int 8)))) (fC (.int 26)))) (f2 bS (fC (.int 1)) (f2 cm (af 1) (fC (.int 8)))))) bq) (aq (aT 3 (f2 bS (fC (.int 1)) (f2 cm (f2 dm (af 0) (fC (.int 3))) (fC (.int 8))))) (aq (aT 4 (fC (.str ""))) (aq (kL (iA (ae (af 3) ah)) (gN 5) (aq (aT 6 (f2 dm (af 0) (f2 bS (fC (.int 24)) (f2 jy (f2 jy (fC (.int 11)) (af 5)) (af 5))))) (aq (eR (fB (f2 gEq (af 5) (f2 cm (f2 dm (af 0) (fC (.int 24))) (af 3)))) (aT 6 (f2 bS (af 6) (af 1))) bq) (aq (aT 4 (f2 bS (af 4) (f2 ao (af 2) (f2 cm (af 6) (fC (.int 26)))))) (dr [5,6] bq))))) (aD (af 4))))))))
end TD
namespace TD
open PySem PySem.Spec L2 TG
local macro_rules
 |`(tactic| simp! only[$xs,*])=>`(tactic| simp only[df,sv,qg,tP,jQ,eE,ge_0,yM,nU,AC,oG,lu,o0,nM,zv,yP,zq,zT,AB,nW,o6,tI,iW,kM,nX,lG,tG,nR,oI,lC,nN,jm,nT,iT,iY,gS,gQ,n0,kP,gR,lH,iN,lD,lg,iy,kR,iQ,oY,lJ,jf,iE,kS,kW,zr,tK,zc,Aq,zZ,nQ,kX,ot,lI,lB,zB,yX,TJ,TK,RH,R7,Sl,SH,K0,env0,List.replicate,Te,RN,S7,Nat.reduceAdd,Nat.reduceSub,RG,Sa,n9,n5,sJ,oU,nV,oH,gV,oh,si,rW,rT,oK,iO,js,je,jq,iL,iX,gH,h7,sy,sN,sf,sG,iS,jk,fS,fW,oy,gU,fG,fE,fH,mF,mD,fM,fI,jp,iZ,lm,ly,jh,lh,oE,oZ,kN,kU,gN,if_true,if_false,Tj,TL,Si,$xs,*])
theorem Mi(ns:List Int)(i:Int)(h:0<=i):∃c:Int,ai cU 2 2 [.lst (ns.map .int),.int i]=.ok (.int c):=Bi ns i h
local macro_rules
 |`(tactic| simp! only[$xs,*])=>`(tactic| simp only[df,sv,qg,tP,jQ,eE,ge_0,yM,nU,AC,oG,lu,o0,nM,zv,yP,zq,zT,AB,nW,o6,tI,iW,kM,nX,lG,tG,nR,oI,lC,nN,jm,nT,iT,iY,gS,gQ,n0,kP,gR,lH,iN,lD,lg,iy,kR,iQ,oY,lJ,jf,iE,kS,kW,zr,tK,zc,Aq,zZ,nQ,kX,ot,lI,lB,zB,yX,TJ,TK,RH,R7,Sl,SH,K0,env0,List.replicate,Te,RN,S7,Nat.reduceAdd,Nat.reduceSub,RG,Sa,n9,n5,sJ,oU,nV,oH,gV,oh,si,rW,rT,oK,iO,js,je,jq,iL,iX,gH,h7,sy,sN,sf,sG,iS,jk,fS,fW,oy,gU,fG,fE,fH,mF,mD,fM,fI,jp,iZ,lm,ly,jh,lh,oE,oZ,kN,kU,gN,if_true,if_false,Tj,TL,Si,$xs,*])
theorem tT{g:GF}{B:bN}{k:Ks}{Q:R D->Prop}(Iv:Nat->ak->Prop):∀(ds:List D)(o i:Nat)(ρ:ak)(d:D),ds[i]?=some d->(∀j d ρ (k':Ks),j<i->ds[j]?=some d->Iv (o+j) ρ->∃ρ1 ρ2,g d ρ=some ρ1/\Iv (o+j+1) ρ2/\B k' ρ1=k'.nx ρ2)->Iv o ρ->
  (∀ρ (k':Ks),Iv (o+i) ρ->∃ρ1,g d ρ=some ρ1/\Q (B k' ρ1))->Q (fV g B k ds ρ)
 |[],_,_,_,_,h,_,_,_=>nomatch h
 |x::ds,o,0,ρ,d,h,_,hI,q=>by
  cases h;obtain⟨ρ1,e1,q1⟩:=q ρ ⟨fV g B k ds,k.nx,fV g B k ds,k.ex⟩ hI;show Q ((rO (g x ρ)).bind λρ1=>B ⟨fV g B k ds,k.nx,fV g B k ds,k.ex⟩ ρ1);rw[e1,eE,df];exact q1
 |x::ds,o,i+1,ρ,d,h,st,hI,q=>by
  obtain⟨ρ1,ρ2,e1,h2,e2⟩:=st 0 x ρ ⟨fV g B k ds,k.nx,fV g B k ds,k.ex⟩ ‹0› rfl hI;show Q ((rO (g x ρ)).bind λρ1=>B ⟨fV g B k ds,k.nx,fV g B k ds,k.ex⟩ ρ1);rw[e1,eE,df,e2];refine tT Iv ds (o+1) i ρ2 d (by rw[S3]at h;exact h) (λj d' ρ' k' hj hd hI'=>?_) h2 (λρ' k' hI'=>q ρ' k' (by rw[show o+(i+1)=o+1+i by omega];exact hI'));obtain⟨a,b,c1,c2,c3⟩:=st (j+1) d' ρ' k' ‹0› (by rw[S3];exact hd) (by rw[show o+(j+1)=o+1+j by omega];exact hI');exact⟨a,b,c1,by rw[show o+1+j+1=o+(j+1)+1 by omega];exact c2,c3⟩
noncomputable abbrev fld(p:Str×D):D:=.tup [.str p.1,p.2]
theorem rp(kf rf:List D)(ps:List (Str×D))(hl:ps.length<=100)(e:kf++rf=ps.map fld):ai eJ 1 1 [.tup [.tup kf,.tup rf]]=.ok (.tup (ps.map λp=>.str p.1)):=by
 have hl':kf.length+rf.length<=100:=by have:=congrArg List.length e;rw[RZ,RJ]at this;omega
 have f0:hX [none] (bR (f2 bS (f2 ao (af 0) (fC (.int 0))) (f2 ao (af 0) (fC (.int 1))))) (gN 0) dq (f2 ao (af 0) (fC (.int 0))) [some (.val (.tup [.tup kf,.tup rf]))]=.ok (.lst (ps.map λp=>.str p.1)):=by
  refine gI (ds:=ps.map fld) ?_ (by rw[RJ];omega) ?_
  ·simp! only[];rw[hU _ _ ‹0›,e];simp! only[]
  ·refine pU _ _ ps λp _=>⟨_,rfl,rfl,?_⟩
   simp! only[]
 rw[dC];unfold eJ;simp! only[f0]
theorem tm(xs:List D):qz [.tup xs]=some (fu 0 xs):=nr rfl
theorem ke:∀(xs:List D)(k i:Nat),(fu k xs)[i]?=(xs[i]?).map λx=>.tup [.int ((k+i:Nat):Int),x]
 |[],k,i=>by simp[fu]
 |x::xs,k,0=>by simp[fu]
 |x::xs,k,i+1=>by
  rw[fu,S3,ke xs (k+1) i,S3];congr 1;funext y;rw[show k+1+i=k+(i+1)by omega]
theorem wm(kf rf:List D)(ps:List (Str×D))(hl:ps.length<=100)(e:kf++rf=ps.map fld)(hn:(ps.map (·.1)).Nodup)(i:Nat)(nm:Str)(k:D)(hi:ps[i]?=some (nm,k)):
  ai cx 2 4 [.tup [.tup kf,.tup rf],.str nm]=.ok (.int i):=by
 have en:=rp kf rf ps hl e;rw[bG];unfold cx;rw[iy,iE];simp! only[en,tm];have di:(fu 0 (ps.map λp=>D.str p.1))[i]?=some (.tup [.int ((i:Nat):Int),.str nm]):=by
  rw[ke,RX,hi,S7];rfl
 refine tT (Q:=λz=>z=.ok (.int i)) (λ_ ρ=>ρ=[some (.val (.tup [.tup kf,.tup rf])),some (.val (.str nm)),none,none]) _ 0 i _ _ di ?_ rfl ?_
 ·rintro j d ρ k' hj hd rfl;rw[ke,RX]at hd;have hil:=eN hi;have hjl:j<ps.length:=by omega
  rw[Sz hjl]at hd;cases hd;have ne:(ps[j].1==nm)=false:=by
   have h1:=List.pairwise_iff_getElem.mp hn j i (by rw[RJ];exact hjl) (by rw[RJ];exact hil) hj;rw[TN,TN]at h1;have h2:ps[i]=(nm,k):=(by rw[Sz hil]at hi;exact Option.some.inj hi);rw[h2]at h1
   simpa using h1
  refine⟨[some (.val (.tup [.tup kf,.tup rf])),some (.val (.str nm)),some (.val (.int ((0+j:Nat):Int))),some (.val (.str ps[j].1))],_,rfl,rfl,?_⟩;simp! only[ne]
 ·rintro ρ k' rfl;refine⟨[some (.val (.tup [.tup kf,.tup rf])),some (.val (.str nm)),some (.val (.int (i:Int))),some (.val (.str nm))],rfl,?_⟩;simp! only[BEq.rfl]
theorem AF(kf rf:List D)(ps:List (Str×D))(hl:ps.length<=100)(e:kf++rf=ps.map fld)(i:Nat)(nm:Str)(k:D)(hi:ps[i]?=some (nm,k)):ai eM 2 2 [.tup [.tup kf,.tup rf],.int i]=.ok k:=by
 have hl':kf.length+rf.length<=100:=by have:=congrArg List.length e;rw[RZ,RJ]at this;omega
 have g:ao (.tup (ps.map fld)) (.int (i:Int))=some (.tup [.str nm,k]):=by
  rw[Jq,uR,RX,hi];rfl
 rw[bG];unfold eM;simp! only[hU kf rf ‹0›,e,g]
theorem qI(kf rf:List D)(i:Nat):ai jV 2 2 [.tup [.tup kf,.tup rf],.int i]=.ok (.bl (decide (i<kf.length))):=by
 rw[bG];unfold jV
 have:decide ((i:Int)<(kf.length:Int))=decide (i<kf.length):=by
  by_cases h:i<kf.length
  ·rw[decide_eq_true h,decide_eq_true ‹0›]
  ·rw[decide_eq_false h,decide_eq_false ‹0›]
 simp! only[this]
theorem rZ(vs os:List D)(i:Nat)(h:vs.length+os.length<=10000):ai fX 3 3 [.tup vs,.int i,.tup os]=.ok (.tup (vs.take i++os++vs.drop (i+1))):=by
 have l1:(vs.take i).length<=vs.length:=by rw[RQ];omega
 have l2:(vs.drop (i+1)).length<=vs.length:=by rw[R1];omega
 have c:((i:Int)+1)=((i+1:Nat):Int):=by omega
 have a1:=hU (vs.take i) os ‹0›;have a2:=hU (vs.take i++os) (vs.drop (i+1)) (by rw[RZ];omega);rw[cX];unfold fX;simp! only[c,wy,vx,a1,a2]
theorem zO(kf rf os:List D)(i:Nat)(h:kf.length+rf.length+os.length<=10000):ai cp 3 3 [.tup [.tup kf,.tup rf],.int i,.tup os]=.ok (if i<kf.length then .tup [.tup (kf.take i++os++kf.drop (i+1)),.tup rf]else .tup [.tup kf,.tup (rf.take (i-kf.length)++os++rf.drop (i-kf.length+1))]):=by
 rw[cX];unfold cp;by_cases hi:i<kf.length
 ·rw[if_pos hi];simp! only[qI,decide_eq_true hi,rZ kf os i ‹0›,uo]
 ·rw[if_neg hi];have c:((i:Int)-(kf.length:Int))=((i-kf.length:Nat):Int):=by omega
  simp! only[qI,decide_eq_false hi,c,rZ rf os (i-kf.length) ‹0›,uo]
end TD
namespace T4
open PySem PySem.Spec L2 TG TD
local macro_rules
 |`(tactic| simp! only[$xs,*])=>`(tactic| simp only[df,sv,qg,tP,jQ,eE,ge_0,yM,nU,AC,oG,lu,o0,nM,zv,yP,zq,zT,AB,nW,o6,tI,iW,kM,nX,lG,tG,nR,oI,lC,nN,jm,nT,iT,iY,gS,gQ,n0,kP,gR,lH,iN,lD,lg,iy,kR,iQ,oY,lJ,jf,iE,kS,kW,zr,tK,zc,Aq,zZ,nQ,kX,ot,lI,lB,zB,yX,TJ,TK,RH,R7,Sl,SH,K0,env0,List.replicate,Te,RN,S7,Nat.reduceAdd,Nat.reduceSub,RG,Sa,n9,n5,sJ,oU,nV,oH,gV,oh,si,rW,rT,oK,iO,js,je,jq,iL,iX,gH,h7,sy,sN,sf,sG,iS,jk,fS,fW,oy,gU,fG,fE,fH,mF,mD,fM,fI,jp,iZ,lm,ly,jh,lh,oE,oZ,kN,kU,gN,if_true,if_false,Tj,TL,Si,$xs,*])
theorem JZ{x:Str}{n:Int}(h:1<=n)(h':n<=1000)(hx:x.length<=1000):sC (.str x) (.int n)=some (.str (ie x n)):=by
 show(if decide (1<=n/\n<=1000/\x.length<=1000)then some (D.str (ie x n))else none)=_;rw[decide_eq_true ⟨h,h',hx⟩];rfl
theorem lx(x:Int)(h0:0<=x)(h1:x<2147483700):∃y:Int,0<=y/\y<2147483647/\ai bK 1 1 [.int x]=.ok (.int y):=by
 have m1:=ny (i:=x) (j:=x) ‹0› ‹0›;have m2:=ny (i:=48271) (j:=x) (by decide) (by decide);have g:=λi=>fY (i:=i) (show(0:Int)<2147483647 by decide);refine⟨(x*x+48271*x+11)%2147483647,TQ _ (by decide),TR _ (by decide),?_⟩;rw[dC];unfold bK;simp! only[m1,m2,g]
theorem yn(ns:List Int)(k:Nat)(hk:k<=100):∃y:Int,0<=y/\y<2147483647/\ai bZ 2 3 [.lst (ns.map .int),.int k]=.ok (.int y):=by
 obtain⟨c,ec⟩:=TD.Mi ns k ‹0›;have m1:=ny (i:=69621) (j:=(k:Int)) (by decide) (by decide);have m2:=qa (i:=69621*(k:Int)) (j:=(k:Int)) ‹0› ‹0›;have g:=λi=>fY (i:=i) (show(0:Int)<2147483647 by decide);obtain⟨y1,a1,b1,e1⟩:=lx ((c%2147483647+69621*(k:Int)*(k:Int)+5)%2147483647) (TQ _ (by decide)) (by have:=TR (c%2147483647+69621*(k:Int)*(k:Int)+5) (show(0:Int)<2147483647 by decide);omega);obtain⟨y2,a2,b2,e2⟩:=lx y1 a1 ‹0›;refine⟨y2,a2,b2,?_⟩;rw[bG];unfold bZ;simp! only[ec,g,m1,m2,e1,e2]
theorem Ep{i:Nat}{fk fv:FX}{k:Ks}{ρ:ak}{al:List (Key×D)}{q:Key}{d v:D}(h:ρ[i]?=some (some (.own (mC al))))(ek:fk ρ=.ok d)(hd:d=bm q)(ev:fv ρ=.ok v)(hl:al.length<=1000):
  rX i fk fv k ρ=k.nx (ρ.set i (some (.own (mC (mz al q v))))):=by
 subst hd;have e:sE (eU al) (al.map (·.2)) (bm q) v=some (mz al q v):=by
  unfold sE;rw[oB];show(keyOf (bm q)).bind _=_;rw[jv];show(if small al.length then _ else _)=_;rw[eh ‹0›];rfl
 unfold rX;rw[h];show o8 ((fv ρ).bind λv=>(fk ρ).bind λq=>rO (sE (eU al) (al.map (·.2)) q v)) k ρ _=_;rw[ev,df,ek,df,e];rfl
noncomputable abbrev A9(ws:av):List (Key×D):=ws.map λw=>((.inr w:Key),D.bl true)
noncomputable abbrev wd(ws:av):D:=mC (A9 ws)
noncomputable def qL(ws:av)(w:Str):av:=if w∈ws then ws else ws++[w]
theorem JL(ws:av)(w:Str):mz (A9 ws) (.inr w) (.bl true)=A9 (qL ws w):=by
 have e:((A9 ws).any λp=>decide (p.1=(.inr w:Key)))=decide (w∈ws):=by
  induction ws with
  |nil=>simp
  |cons a ws ih=>
   show(decide ((.inr a:Key)=.inr w)||(A9 ws).any λp=>decide (p.1=(.inr w:Key)))=_;rw[ih];by_cases z:a=w
   ·subst z;simp
   ·have z':¬(.inr a:Key)=.inr w:=λq=>z (Sum.inr.inj q);have z2:¬w=a:=λq=>z q.symm;simp[z',z2]
 unfold mz qL;rw[e];by_cases h:w∈ws
 ·rw[if_pos (by simpa using h),if_pos h];show(ws.map _).map _=_;rw[Tu];refine SJ λa _=>?_;show(if(.inr a:Key)=.inr w then((.inr a:Key),D.bl true)else((.inr a:Key),D.bl true))=_;split<;>rfl
 ·rw[if_neg (by simpa using h),if_neg h];show _=(ws++[w]).map _;rw[SK];rfl
theorem GV{ws:av}(w:Str)(h:ws.Nodup):(qL ws w).Nodup:=by
 unfold qL;split
 ·exact h
 ·rename_i z;exact List.nodup_append.mpr ⟨h,List.nodup_cons.mpr ⟨by simp,Se⟩,λa ha b hb e=>by
   rw[List.mem_singleton]at hb;subst hb e;exact z ha⟩
theorem C2(ws:av)(w:Str):(qL ws w).length<=ws.length+1:=by
 unfold qL;split
 ·omega
 ·simp
theorem G7(ws:av):eU (A9 ws)=ws.map D.str:=by
 show(ws.map _).map _=_;rw[Tu];rfl
theorem HW(ws:av):keysOf (eU (A9 ws))=some (ws.map .inr):=by
 rw[show eU (A9 ws)=(ws.map (.inr:Str->Key)).map bm from by rw[G7,Tu];rfl];exact cC _
theorem Bk(ws:av):qE [wd ws]=some (.lst (ws.map .str)):=by
 show(keysOf (eU (A9 ws))).bind _=_;rw[HW];show some (D.lst (eU (A9 ws)))=_;rw[G7]
theorem AQ(i:Int)(k:Nat):Ao (.int i) (.int k)=some (.int (i/2^k)):=by
 show(if decide (0<=(k:Int))then some (D.int (i/2^(k:Int).toNat))else none)=_;rw[decide_eq_true ‹0›];rfl
theorem uw(i j:Int):tN (.int i) (.int j)=some (.int (Builtin.bitAnd i j)):=nr rfl
theorem Pl(a b c d:D):lW [a,b,c,d]=some (.lst [a,b,c,d]):=nr rfl
noncomputable abbrev fm(ps qs:List (Str×D)):D:=.tup [.tup (ps.map fld),.tup (qs.map fld)]
theorem pV{α:Type}{ρ:ak}{g:GF}{C:b6}{Fe:FX}(mk:α->D)(p:α->Bool)(v:α->D):∀xs:List α,(∀a∈xs,∃ρ1,g (mk a) ρ=some ρ1/\C ρ1=.ok (p a)/\(p a=true->Fe ρ1=.ok (v a)))->
  xj ρ g C Fe (xs.map mk)=.ok ((xs.filter p).map v)
 |[],_=>rfl
 |a::xs,h=>by
  obtain⟨ρ1,h1,h2,h3⟩:=h a Ru;rw[RH,nB,h1,eE,df,h2,jQ,df,pV mk p v xs λb hb=>h b (Rv _ hb)];cases e:p a with
  |true=>rw[if_pos rfl,h3 e,jQ,df,Tp e];rfl
  |false=>rw[if_neg RF,Tq (by simp[e])]
local macro_rules
 |`(tactic| simp! only[$xs,*])=>`(tactic| simp only[df,sv,qg,tP,jQ,eE,ge_0,yM,nU,AC,oG,lu,o0,nM,zv,yP,zq,zT,AB,nW,o6,tI,iW,kM,nX,lG,tG,nR,oI,lC,nN,jm,nT,iT,iY,gS,gQ,n0,kP,gR,lH,iN,lD,lg,iy,kR,iQ,oY,lJ,jf,iE,kS,kW,zr,tK,zc,Aq,zZ,nQ,kX,ot,lI,lB,zB,yX,TJ,TK,RH,R7,Sl,SH,K0,env0,List.replicate,Te,RN,S7,Nat.reduceAdd,Nat.reduceSub,RG,Sa,n9,n5,sJ,oU,nV,oH,gV,oh,si,rW,rT,oK,iO,js,je,jq,iL,iX,gH,h7,sy,sN,sf,sG,iS,jk,fS,fW,oy,gU,fG,fE,fH,mF,mD,fM,fI,jp,iZ,lm,ly,jh,lh,oE,oZ,kN,kU,gN,if_true,if_false,Tj,TL,Si,$xs,*])
noncomputable def LT:List Nat:=("abcdefghijklmnopqrstuvwxyz":Str).cps.toList
theorem DU:∀a<26,∀b<26,LT[a]?=LT[b]?->a=b:=by decide +kernel
noncomputable def stp(b:Int):Int:=([1,5,7,11,13,23]:List Int).getD (b%6).toNat 0
noncomputable def kk(b k:Int):Int:=(k*stp b+b/6)%24
noncomputable def jz(b:Int):Int:=b/144/24%(1+b/144/3%8)
noncomputable def Mo(b k:Int)(w:Str):Prop:=
 (b/144%3=0->w.length=(1+kk b k%8).toNat/\w.cps.toList[0]?=LT[((b/144/3+kk b k/8)%26).toNat]?)/\
 (b/144%3≠0->w.cps.toList[(jz b).toNat]?=LT[((b/144/(24+11*jz b*jz b)+kk b k)%26).toNat]?)
theorem Lq(b k:Int):0<=kk b k/\kk b k<24:=⟨TQ _ (by decide),TR _ (by decide)⟩
theorem Jt{b k1 k2:Int}(a1:0<=k1)(a2:k1<24)(b1:0<=k2)(b2:k2<24)(h:kk b k1=kk b k2):k1=k2:=by
 unfold kk stp at h;rcases(show b%6=0\/b%6=1\/b%6=2\/b%6=3\/b%6=4\/b%6=5 by omega)with z|z|z|z|z|z<;>rw[z]at h<;>simp at h<;>omega
theorem Es{b k1 k2:Int}{w:Str}(a1:0<=k1)(a2:k1<24)(b1:0<=k2)(b2:k2<24)(h1:Mo b k1 w)(h2:Mo b k2 w):k1=k2:=by
 refine Jt (b:=b) a1 a2 b1 b2 ?_;have q1:=Lq b k1;have q2:=Lq b k2;by_cases z:b/144%3=0
 ·obtain⟨l1,e1⟩:=h1.1 z;obtain⟨l2,e2⟩:=h2.1 z
  have:=DU _ ‹0› _ ‹0› (e1.symm.trans e2)
  omega
 ·have:=DU _ ‹0› _ ‹0› ((h1.2 z).symm.trans (h2.2 z))
  omega
theorem xA(x:Str)(h:x.length<=1000)(i:Int)(h0:0<=i)(h1:i<x.length):∃y:Str,y.length=1/\y.cps.toList[0]?=x.cps.toList[i.toNat]?/\ao (.str x) (.int i)=some (.str y):=by
 have hl:x.cps.toList.length=x.length:=by simp[Str.length]
 have hi:i<x.cps.toList.length:=by omega
 have hn:i.toNat<x.cps.toList.length:=by omega
 refine⟨⟨#[x.cps.toList[i.toNat]'hn]⟩,rfl,?_,?_⟩
 ·rw[Sz hn];rfl
 ·show(if small x.length then(mI x.cps.toList i).bind λc=>some (D.str ⟨#[c]⟩)else none)=_;rw[eh ‹0›,if_pos rfl,yu h0 hi];rfl
theorem tq(c:Array Nat)(hc:0<c.size):∀(n:Nat)(a:Array Nat),((List.replicate n c).foldl (·++·) a).toList[0]?=if a.size=0 then(if n=0 then none else c.toList[0]?)else a.toList[0]?
 |0,a=>by
  rw[Te,List.foldl_nil];split
  ·rename_i h;simp[h]
  ·rfl
 |n+1,a=>by
  rw[Th,Ti,tq c hc n (a++c)]
  have:¬(a++c).size=0:=by rw[Array.size_append];omega
  rw[if_neg this,Array.toList_append];by_cases h:a.size=0
  ·rw[if_pos h,if_neg ‹0›,RU (by simp[h])];simp[h]
  ·rw[if_neg h,RW (by simp;omega)]
theorem DB{y:Str}{n:Int}(h:1<=n)(hy:y.length=1):(ie y n).cps.toList[0]?=y.cps.toList[0]?:=by
 unfold ie;split
 ·rfl
 ·have hc:0<y.cps.size:=by have:y.cps.size=1:=hy;omega
  rw[tq y.cps hc n.toNat #[]];split
  ·rw[if_neg ‹0›]
  ·rename_i z;exact absurd rfl z
theorem yj(x y:Str):(x++y).cps.toList=x.cps.toList++y.cps.toList:=by
 show(x.cps++y.cps).toList=_;rw[Array.toList_append]
theorem tZ(x:Str):x.cps.toList.length=x.length:=by simp[Str.length]
theorem xR(b k:Int)(hb:0<=b)(hk:0<=k):∃w:Str,ai bJ 2 7 [.int b,.int k]=.ok (.str w)/\Mo b k w:=by
 have LL:(("abcdefghijklmnopqrstuvwxyz":Str)).length=26:=by decide +kernel
 have hLT:LT=("abcdefghijklmnopqrstuvwxyz":Str).cps.toList:=rfl;generalize hL:("abcdefghijklmnopqrstuvwxyz":Str)=L at LL hLT;have g3:=λi=>fY (i:=i) (show(0:Int)<3 by decide);have g6:=λi=>fY (i:=i) (show(0:Int)<6 by decide);have g8:=λi=>fY (i:=i) (show(0:Int)<8 by decide);have g24:=λi=>fY (i:=i) (show(0:Int)<24 by decide);have g26:=λi=>fY (i:=i) (show(0:Int)<26 by decide);have d3:=λi=>mn (i:=i) (show(0:Int)<3 by decide) (show(3:Int)<10^200 by decide);have d6:=λi=>mn (i:=i) (show(0:Int)<6 by decide) (show(6:Int)<10^200 by decide);have d8:=λi=>mn (i:=i) (show(0:Int)<8 by decide) (show(8:Int)<10^200 by decide);have d24:=λi=>mn (i:=i) (show(0:Int)<24 by decide) (show(24:Int)<10^200 by decide);have d144:=λi=>mn (i:=i) (show(0:Int)<144 by decide) (show(144:Int)<10^200 by decide);obtain⟨st,hst,hstp,est⟩:∃st:Int,(0<=st/\st<=25)/\stp b=st/\ao (.lst [.int 1,.int 5,.int 7,.int 11,.int 13,.int 23]) (.int (b%6))=some (.int st):=by
  rcases(show b%6=0\/b%6=1\/b%6=2\/b%6=3\/b%6=4\/b%6=5 by omega)with z|z|z|z|z|z<;>rw[z]
  ·exact⟨1,by decide,by unfold stp;rw[z];rfl,rfl⟩
  ·exact⟨5,by decide,by unfold stp;rw[z];rfl,rfl⟩
  ·exact⟨7,by decide,by unfold stp;rw[z];rfl,rfl⟩
  ·exact⟨11,by decide,by unfold stp;rw[z];rfl,rfl⟩
  ·exact⟨13,by decide,by unfold stp;rw[z];rfl,rfl⟩
  ·exact⟨23,by decide,by unfold stp;rw[z];rfl,rfl⟩
 have l6:∀a b c d e f:D,lW [a,b,c,d,e,f]=some (.lst [a,b,c,d,e,f]):=λ_ _ _ _ _ _=>rfl;have ms:=qa (i:=k) (j:=st) ‹0› ‹0›;have hkk:kk b k=(k*st+b/6)%24:=by unfold kk;rw[hstp]
 generalize hk':(k*st+b/6)%24=k' at hkk;have k1:0<=k'/\k'<24:=by omega
 have hP:∀w,Mo b k w=((b/144%3=0->w.length=(1+kk b k%8).toNat/\w.cps.toList[0]?=LT[((b/144/3+kk b k/8)%26).toNat]?)/\(b/144%3≠0->w.cps.toList[(jz b).toNat]?=LT[((b/144/(24+11*jz b*jz b)+kk b k)%26).toNat]?)):=λ_=>rfl;have hj:jz b=b/144/24%(1+b/144/3%8):=rfl;generalize hb':b/144=b' at hP hj;generalize jz b=j0 at hP hj;rw[hkk]at hP;simp only[hP];have b0:0<=b':=by omega
 rw[bG];unfold bJ;by_cases h:b'%3=0
 ·have h':(b'%3==0)=true:=by simp[h]
  obtain⟨y,hy,hy0,e1⟩:=xA L ‹0› ((b'/3+k'/8)%26) ‹0› ‹0›;have mu:=JZ (x:=y) (n:=1+k'%8) ‹0› ‹0› ‹0›;refine⟨ie y (1+k'%8),?_,λ_=>⟨by rw[nh ‹0›,hy,Nat.mul_one],by rw[DB ‹0› hy,hy0,hLT]⟩,λz=>absurd h z⟩;simp! only[hL,g6,l6,est,ms,d6,g24,hk',d144,hb',g3,h',d3,d8,g26,e1,g8,mu]
 ·have h':(b'%3==0)=false:=by simp[h]
  obtain⟨n,hn,hn1,hn2⟩:∃n:Nat,1+b'/3%8=(n:Int)/\1<=n/\n<=8:=⟨(1+b'/3%8).toNat,by omega,by omega,by omega⟩
  rw[hn]at hj;have hj1:0<=j0/\j0<(n:Int):=by rw[hj];exact⟨TQ _ ‹0›,TR _ ‹0›⟩
  have rn:=oX n ‹0›;obtain⟨T,hT⟩:∃T:bN,T=(aq (kL (iA (ae (af 3) ah)) (gN 5) (aq (aT 6 (f2 dm (af 0) (f2 bS (fC (.int 24)) (f2 jy (f2 jy (fC (.int 11)) (af 5)) (af 5))))) (aq (eR (fB (f2 gEq (af 5) (f2 cm (f2 dm (af 0) (fC (.int 24))) (af 3)))) (aT 6 (f2 bS (af 6) (af 1))) bq) (aq (aT 4 (f2 bS (af 4) (f2 ao (af 2) (f2 cm (af 6) (fC (.int 26)))))) (dr [5,6] bq))))) (aD (af 4))):=⟨_,rfl⟩
  have key:∃w:Str,(w.cps.toList[j0.toNat]?=LT[((b'/(24+11*j0*j0)+k')%26).toNat]?)/\T K0 [some (.val (.int b')),some (.val (.int k')),some (.val (.str L)),some (.val (.int n)),some (.val (.str "")),none,none]=.ok (.str w):=by
   rw[hT,iy,iE];simp! only[rn];refine gL (Q:=λz=>∃w:Str,(w.cps.toList[j0.toNat]?=LT[((b'/(24+11*j0*j0)+k')%26).toNat]?)/\z=.ok (.str w)) (λi ρ=>∃w:Str,w.length=i/\(j0<(i:Int)->w.cps.toList[j0.toNat]?=LT[((b'/(24+11*j0*j0)+k')%26).toNat]?)/\ρ=[some (.val (.int b')),some (.val (.int k')),some (.val (.str L)),some (.val (.int n)),some (.val (.str w)),none,none]) ?_ ?_ ?_
   ·rintro i d ρ kx hd ⟨w,hw,hw2,rfl⟩;have hi:=eN hd;rw[eG]at hi;have hdi:d=.int (i:Int):=by
     rw[lF,RX,SN hi]at hd;cases hd;simp
    subst hdi;have m1:=ny (i:=11) (j:=(i:Int)) (by decide) (by decide);have m2:=qa (i:=11*(i:Int)) (j:=(i:Int)) ‹0› ‹0›;have ii:0<=11*(i:Int)*(i:Int):=Int.mul_nonneg ‹0› ‹0›;have ii2:11*(i:Int)*(i:Int)<=11*8*8:=Int.mul_le_mul ‹0› ‹0› ‹0› (by decide);have dd:=λz=>mn (i:=z) (show(0:Int)<24+11*(i:Int)*(i:Int)by omega) (show 24+11*(i:Int)*(i:Int)<10^200 by
     have:(10:Int)^200>10000:=by decide +kernel
     omega)
    have gn:=λz=>fY (i:=z) (show(0:Int)<(n:Int)by omega);generalize hs:b'/(24+11*(i:Int)*(i:Int))=s;by_cases hq:((i:Int)==b'/24%(n:Int))=true
    ·obtain⟨y,hy,hy0,e1⟩:=xA L ‹0› ((s+k')%26) ‹0› ‹0›;have ad:=jW w y ‹0› ‹0›;refine⟨_,_,rfl,⟨w++y,by rw[pT];omega,λ_=>?_,rfl⟩,?_⟩
     ·have eq:(i:Int)=b'/24%(n:Int):=(by simpa using hq);rw[<-hj]at eq;subst eq;rw[yj,RU (by rw[tZ];omega),tZ,hw,R0,Td,hy0,hLT,<-hs]
     simp! only[m1,m2,dd,hs,d24,gn,hq,g26,e1,ad]
    ·have hq':((i:Int)==b'/24%(n:Int))=false:=(by simpa using hq);obtain⟨y,hy,hy0,e1⟩:=xA L ‹0› (s%26) ‹0› ‹0›;have ad:=jW w y ‹0› ‹0›;refine⟨_,_,rfl,⟨w++y,by rw[pT];omega,λz=>?_,rfl⟩,?_⟩
     ·have ne:j0≠(i:Int):=λq=>hq (by rw[<-q,<-hj];simp);rw[yj,RW (by rw[tZ];omega)];exact hw2 ‹0›
     simp! only[m1,m2,dd,hs,d24,gn,hq',g26,e1,ad]
   ·exact⟨"",by decide +kernel,λz=>by omega,rfl⟩
   ·rintro ρ' ⟨w,hw,hw2,rfl⟩;rw[eG]at hw2;exact⟨w,hw2 ‹0›,by simp! only[]⟩
  obtain⟨w,hw,ew⟩:=key;refine⟨w,?_,λz=>absurd z h,λ_=>hw⟩;rw[<-hT];simp only[K0]at ew;simp! only[hL,g6,l6,est,ms,d6,g24,hk',d144,hb',g3,h',d3,g8,hn,ew]
theorem uF:∀{σ:List Bool}{a:List D},Sh σ a->∃q:List Key,a=q.map bm
 |_,_,.nil=>⟨[],rfl⟩
 |_,_,.int i h=>by
  obtain⟨q,e⟩:=uF h;exact⟨.inl i::q,by rw[RH,e];rfl⟩
 |_,_,.str x h=>by
  obtain⟨q,e⟩:=uF h;exact⟨.inr x::q,by rw[RH,e];rfl⟩
theorem qv:∀{p q:List Key},p.map bm=q.map bm->p=q:=λ{p q} h=>by
 have:=congrArg keysOf h
 rw[cC,cC]at this;exact Option.some.inj this
section
open Classical
variable(m:Nat)
noncomputable def PY(acc:gz)(r:List D):gz:=if r.take m∈acc then acc else acc++[r.take m]
noncomputable def fs(t:gz):gz:=t.foldl (PY m) []
noncomputable def gp(t:gz)(f:List D):gz:=(t.filter λr=>decide (r.take m=f)).map (List.drop m)
noncomputable def flat(t:gz):gz:=(fs m t).flatMap λf=>(gp m t f).map (f++·)
end
open Classical in
theorem tJ(al:dP)(q:List Key)(v:D):(jU al q v).map (·.1)=if q∈al.map (·.1)then al.map (·.1)else al.map (·.1)++[q]:=by
 have e:(al.any λp=>decide (p.1=q))=true↔q∈al.map (·.1):=by
  rw[List.any_eq_true,List.mem_map];simp only[decide_eq_true_eq]
 unfold jU;by_cases h:q∈al.map (·.1)
 ·rw[if_pos (e.mpr h),if_pos h,Tu];refine SJ λp _=>?_;show(if p.1=q then(p.1,v)else p).1=p.1;split<;>rfl
 ·rw[if_neg λz=>h (e.mp z),if_neg h,SK];rfl
theorem BJ{al:dP}{q:List Key}{v:D}{p:List Key×D}(h:p∈jU al q v):p∈al\/p=(q,v):=by
 unfold jU at h;split at h
 ·obtain⟨a,ha,e⟩:=List.mem_map.mp h;by_cases z:a.1=q
  ·rw[if_pos z]at e;exact .inr (by rw[<-e,z])
  ·rw[if_neg z]at e;exact .inl (by rw[<-e];exact ha)
 ·rcases List.mem_append.mp h with z|z
  ·exact .inl z
  ·exact .inr (List.mem_singleton.mp z)
theorem Gd{al:dP}(q:List Key)(v:D)(h:(al.map (·.1)).Nodup):((jU al q v).map (·.1)).Nodup:=by
 rw[tJ];split
 ·exact h
 ·rename_i z;exact List.nodup_append.mpr ⟨h,by simp,λa ha b hb e=>by
   rw[List.mem_singleton.mp hb]at e;rw[e]at ha;exact z ha⟩
theorem CJ(al:dP)(q:List Key)(v:D):(jU al q v).length<=al.length+1:=by
 have:=congrArg List.length (tJ al q v)
 rw[RJ]at this;rw[this];split<;>simp
theorem vD:∀{al:dP}{p:List Key×D},(al.map (·.1)).Nodup->p∈al->pI al p.1=some p.2
 |a::al,p,h,hp=>by
  obtain⟨h1,h2⟩:=List.nodup_cons.mp (by simpa using h:(a.1::al.map (·.1)).Nodup);unfold pI;by_cases e:a.1=p.1
  ·rw[Tv (by simpa using e)];rcases List.mem_cons.mp hp with z|z
   ·rw[z];rfl
   ·exact absurd (show a.1∈al.map (·.1)from by rw[e];exact List.mem_map.mpr ⟨p,z,rfl⟩) h1
  ·rw[Tx (by simpa using e)];rcases List.mem_cons.mp hp with z|z
   ·exact absurd (by rw[z]) e
   ·exact vD h2 z
theorem xQ(al:dP):D4 (encK al) (al.map (·.2))=some al:=by
 cases al with
 |nil=>rfl
 |cons p al=>exact qq (p::al)
theorem DX(al:dP):mH [jt al]=some (.lst (encK al)):=by
 show(D4 (encK al) (al.map (·.2))).bind _=_;rw[xQ];rfl
theorem Jk(al:dP)(q:List Key):xD (jt al) (.tup (q.map bm))=pI al q:=by
 show(D4 (encK al) (al.map (·.2))).bind _=_;rw[xQ];show(mO (.tup (q.map bm))).bind _=_;rw[vS];rfl
theorem GI{al:dP}{σ:List Bool}(nd:(al.map (·.1)).Nodup)(hs:∀p∈al,Sh σ (p.1.map bm))(h0:σ≠[])(hl:al.length<64):gK [.lst (encK al)]=some (.lst (kg dG (encK al)))/\vA dG (kg dG (encK al)):=by
 have hx:∀x∈encK al,∃k,x=.tup k/\Sh σ k:=λx hx=>by
  obtain⟨p,hp,rfl⟩:=List.mem_map.mp hx;exact⟨_,rfl,hs p hp⟩
 have pw:(encK al).Pairwise λx y=>dG x≠dG y:=by
  rw[Ts]
  have:=List.pairwise_map.mp nd
  exact this.imp λ{a b} ne e=>ne (qv e)
 have a:IL (encK al):=⟨by rw[RJ];exact hl,σ,h0,hx,pw⟩
 refine⟨?_,nY (σ:=σ) (λx h=>by obtain⟨k,e,s⟩:=hx x h;rw[e];exact s) pw⟩;show pp (encK al)=_;unfold pp;rw[if_pos a]
theorem yr:∀vs:List D,(∀v∈vs,∃r,v=.tup r)->∃t:gz,vs=t.map .tup
 |[],_=>⟨[],rfl⟩
 |v::vs,h=>by
  obtain⟨r,e⟩:=h v Ru;obtain⟨t,et⟩:=yr vs λv hv=>h v (Rv _ hv);exact⟨r::t,by rw[e,et];rfl⟩
end T4
namespace Tk88
open PySem PySem.Spec L2 TG TX TD
noncomputable def top(i:Nat):Vl:=PySem.Challenge.pw_twoglass_k88_chains_thinned.main.body.getD i (.Pass ⟨0,0,0,0⟩)
noncomputable abbrev iu:Vl:=inClass (top 58) 0
theorem mB:cR ["self","old","new"] ["self","old","new"] (aG iu):=‹2›
noncomputable abbrev jr:Vl:=inClass (top 60) 0
theorem mQ:cR ["self","name","kind"] ["self","name","kind"] (aG jr):=‹2›
noncomputable abbrev jJ:Vl:=inClass (top 28) 0
theorem oq:cR ["self","glass","step"] ["self","glass","step"] (aG jJ):=‹2›
noncomputable abbrev jP:Vl:=inClass (top 29) 0
theorem nZ:cR ["self","one","other","pair"] ["self","one","other","pair"] (aG jP):=‹2›
noncomputable abbrev jK:Vl:=inClass (top 27) 0
theorem oP:cR ["self","name"] ["self","name"] (aG jK):=‹2›
noncomputable def dQ:bN:=j3
noncomputable def cq:bN:=aD (cA (ae (f2 lU (af 1) (f1 (aC "name" ["Leaf"]) (af 0))) (ae (f2 lU (af 2) (f1 (aC "name" ["Leaf"]) (af 0))) ah)))
noncomputable def bB:bN:=aD (af 2)
noncomputable def hJ:bN:=aD (me (pF "int" (af 0)) (qf (pF "bool" (af 0))))
noncomputable def kh:bN:=aD (me (pF "tuple" (af 0)) (f2 gEq (fL cP (ae (af 0) ah)) (af 1)))
noncomputable def jY:bN:=aq (aT 2 (hX [none,some 0] (bR (af 1)) (gN 0) dq (gA (af 0) fZ (il (af 1))))) (aD (fL AA (ae (hX [none,some 2] (iA (ae (f2 rB (fL cP (ae (af 2) ah)) (fC (.int 1))) ah)) (gN 0) dq (f2 pK (f2 ao (af 1) (af 0)) (f2 ao (af 1) (f2 bS (af 0) (fC (.int 1)))))) ah)))
noncomputable def qj(cH cJ ce:bE):bN:=aq (eR (fB (f2 gEq (f2 ao (af 0) (fC (.int 0))) (fC (.str "number")))) (aD (me (fR (ai hJ 1 1) (ae (af 1) ah)) (mE D7 D7 (f2 ao (af 0) (fC (.int 1))) (af 1) (f2 ao (af 0) (fC (.int 2)))))) bq) (aq (eR (fB (f2 gEq (f2 ao (af 0) (fC (.int 0))) (fC (.str "word")))) (aD (me (pF "str" (af 1)) (f2 xx (af 1) (f2 ao (af 0) (fC (.int 1)))))) bq) (aD (me (fR cJ (ae (f2 ao (af 0) (fC (.int 1))) (ae (af 1) ah))) (xH (f2 Ko (fL cP (ae (af 1) ah)) (fC (.int 0))) (qf (f2 ao (af 0) (fC (.int 2))))))))
noncomputable def uL(cH cJ ce:bE):bN:=aq (eR (nH (aS (pF "tuple" (af 1)))) (aD (fC (.bl false))) bq) (aq (aT 2 (fR (ai mx 1 1) (ae (af 0) ah))) (aD (me (fL AA (ae (hX [none,some 2] (bR (af 1)) (gN 0) dq (fR ce (ae (af 1) (ae (af 0) ah)))) ah)) (fR (ai jY 2 3) (ae (fL cP (ae (f2 ao (af 0) (fC (.int 0))) ah)) (ae (af 1) ah))))))
noncomputable def qM(cH cJ ce:bE):bN:=aq (eR (nH (aS (fR (ai kh 2 2) (ae (af 1) (ae (fL cP (ae (af 0) ah)) ah))))) (aD (fC (.bl false))) bq) (aD (fL AA (ae (hX [none,none] (EX (ae (af 0) (ae (af 1) ah))) (gT 2 (oO [0,1])) dq (fR cH (ae (af 0) (ae (af 1) ah)))) ah)))
mutual
noncomputable def cH:Nat->bE
 |0=>λ_=>un
 |n+1=>ai (qj (cH n) (cJ n) (ce n)) 2 2
noncomputable def cJ:Nat->bE
 |0=>λ_=>un
 |n+1=>ai (uL (cH n) (cJ n) (ce n)) 2 3
noncomputable def ce:Nat->bE
 |0=>λ_=>un
 |n+1=>ai (qM (cH n) (cJ n) (ce n)) 2 2
end
theorem ip(n:Nat):cH (n+1)=ai (qj (cH n) (cJ n) (ce n)) 2 2:=by rw[cH]
theorem sM:∀n:Nat,Ar 2 (cH n)
 |0=>λ_ h=>absurd (by rw[cH]) h
 |n+1=>by rw[ip];exact dB
theorem mM(n:Nat):cJ (n+1)=ai (uL (cH n) (cJ n) (ce n)) 2 3:=by rw[cJ]
theorem rq:∀n:Nat,Ar 2 (cJ n)
 |0=>λ_ h=>absurd (by rw[cJ]) h
 |n+1=>by rw[mM];exact dB
theorem lZ(n:Nat):ce (n+1)=ai (qM (cH n) (cJ n) (ce n)) 2 2:=by rw[ce]
theorem pD:∀n:Nat,Ar 2 (ce n)
 |0=>λ_ h=>absurd (by rw[ce]) h
 |n+1=>by rw[lZ];exact dB
noncomputable def cB:bN:=aq (aT 3 (fR (ai cx 2 4) (ae (af 1) (ae (f1 (aC "name" ["Sieve"]) (af 0)) ah)))) (aD (fL cW (ae (hX [none,some 0,some 3] (bR (af 2)) (gN 0) (aS (fR (cH 15) (ae (f1 (aC "kind" ["Sieve"]) (af 1)) (ae (f2 ao (af 0) (af 2)) ah)))) (af 0)) ah)))
noncomputable def bg:bN:=aD (af 1)
noncomputable def aQ:bN:=aq (aT 2 (fR (ai cx 2 4) (ae (af 1) (ae (f1 (aC "old" ["Rename"]) (af 0)) ah)))) (aq (eR (fB (f2 xx (f1 (aC "new" ["Rename"]) (af 0)) (fR (ai eJ 1 1) (ae (af 1) ah)))) j3 bq) (aD (fR (ai cp 3 3) (ae (af 1) (ae (af 2) (ae (cA (ae (cA (ae (f1 (aC "new" ["Rename"]) (af 0)) (ae (fR (ai eM 2 2) (ae (af 1) (ae (af 2) ah))) ah))) ah)) ah))))))
noncomputable def eT:bN:=aq (aT 2 (fL cW (ae (hX [none,some 1] (bR (f2 ao (af 0) (fC (.int 1)))) (gN 0) (fB (f2 xx (af 0) (f2 ao (af 1) (fC (.int 1))))) (af 0)) ah))) (aD (zY (aS (af 2)) (cA (ae (fC (.str "word")) (ae (af 2) ah))) (fC .non)))
noncomputable def dM:bN:=aq (aT 2 (fL kz (ae (f2 ao (af 0) (fC (.int 1))) (ae (f2 ao (af 1) (fC (.int 1))) ah)))) (aq (aT 3 (fL lP (ae (f2 ao (af 0) (fC (.int 2))) (ae (f2 ao (af 1) (fC (.int 2))) ah)))) (aD (zY (fB (f2 D7 (af 2) (af 3))) (cA (ae (fC (.str "number")) (ae (af 2) (ae (af 3) ah)))) (fC .non))))
noncomputable def iG:bN:=aq (eR (fB (f2 tQ (f2 ao (af 0) (fC (.int 0))) (f2 ao (af 1) (fC (.int 0))))) (aD (fC .non)) bq) (aq (eR (fB (f2 gEq (f2 ao (af 0) (fC (.int 0))) (fC (.str "number")))) (aD (fR (ai dM 2 4) (ae (af 0) (ae (af 1) ah)))) bq) (aq (eR (fB (f2 gEq (f2 ao (af 0) (fC (.int 0))) (fC (.str "word")))) (aD (fR (ai eT 2 3) (ae (af 0) (ae (af 1) ah)))) bq) (aD (fC .non))))
noncomputable def aU:bN:=aq (aT 2 (fR (ai cx 2 4) (ae (af 1) (ae (f1 (aC "name" ["Sieve"]) (af 0)) ah)))) (aq (aT 3 (fR (ai eM 2 2) (ae (af 1) (ae (af 2) ah)))) (aq (eR (fB (f2 tQ (f2 ao (af 3) (fC (.int 0))) (f2 ao (f1 (aC "kind" ["Sieve"]) (af 0)) (fC (.int 0))))) j3 bq) (aq (aT 4 (fR (ai iG 2 2) (ae (af 3) (ae (f1 (aC "kind" ["Sieve"]) (af 0)) ah)))) (aq (eR (fB (u6 (af 4))) j3 bq) (aD (fR (ai cp 3 3) (ae (af 1) (ae (af 2) (ae (cA (ae (cA (ae (f1 (aC "name" ["Sieve"]) (af 0)) (ae (af 4) ah))) ah)) ah)))))))))
noncomputable def iq(aL aP:bE):bN:=aq (aT 3 (bH "seen" [("Leaf",(ai cq 3 3)),("Over",aL),("Both",aP)] (f1 (aC "glass" ["Over"]) (af 0)) (ae (af 1) (ae (af 2) ah)))) (aD (cA (ae (bH "view_form" [("Step",(ai bg 2 2)),("Rename",(ai aQ 2 3)),("Sieve",(ai aU 2 5))] (f1 (aC "step" ["Over"]) (af 0)) (ae (f2 ao (af 3) (fC (.int 0))) ah)) (ae (bH "got" [("Step",(ai bB 3 3)),("Rename",(ai bB 3 3)),("Sieve",(ai cB 3 4))] (f1 (aC "step" ["Over"]) (af 0)) (ae (f2 ao (af 3) (fC (.int 0))) (ae (f2 ao (af 3) (fC (.int 1))) ah))) ah))))
noncomputable def ko(aL aP:bE):bN:=aq (aT 3 (bH "seen" [("Leaf",(ai cq 3 3)),("Over",aL),("Both",aP)] (f1 (aC "one" ["Both"]) (af 0)) (ae (af 1) (ae (af 2) ah)))) (aq (aT 4 (bH "seen" [("Leaf",(ai cq 3 3)),("Over",aL),("Both",aP)] (f1 (aC "other" ["Both"]) (af 0)) (ae (af 1) (ae (af 2) ah)))) (aq (aT 5 xY) (aD (cA (ae (af 5) (ae (bH "got" [("Step",(ai bB 3 3)),("Rename",(ai bB 3 3)),("Sieve",(ai cB 3 4))] (f1 (aC "pair" ["Both"]) (af 0)) (ae (cA (ae (f2 ao (af 3) (fC (.int 0))) (ae (f2 ao (af 4) (fC (.int 0))) ah))) (ae (cA (ae (f2 ao (af 3) (fC (.int 1))) (ae (f2 ao (af 4) (fC (.int 1))) ah))) ah))) ah))))))
mutual
noncomputable def aL:Nat->bE
 |0=>λ_=>un
 |n+1=>ai (iq (aL n) (aP n)) 3 4
noncomputable def aP:Nat->bE
 |0=>λ_=>un
 |n+1=>ai (ko (aL n) (aP n)) 3 6
end
theorem fP(n:Nat):aL (n+1)=ai (iq (aL n) (aP n)) 3 4:=by rw[aL]
theorem j5:∀n:Nat,Ar 3 (aL n)
 |0=>λ_ h=>absurd (by rw[aL]) h
 |n+1=>by rw[fP];exact dB
theorem iU(n:Nat):aP (n+1)=ai (ko (aL n) (aP n)) 3 6:=by rw[aP]
theorem kA:∀n:Nat,Ar 3 (aP n)
 |0=>λ_ h=>absurd (by rw[aP]) h
 |n+1=>by rw[iU];exact dB
noncomputable def ax:bN:=aD (f2 ao (bH "seen" [("Glass",(ai dQ 3 3)),("Leaf",(ai cq 3 3)),("Over",(aL 15)),("Both",(aP 15))] (af 0) (ae (af 1) (ae (af 2) ah))) (fC (.int 1)))
noncomputable def d7:bN:=aq (lK 2 v6) (aq (kL (bR (af 1)) (gN 3) (aq (rY 2 (gA (af 3) fZ (il (af 0))) (af 3)) (dr [3] bq))) (oN 2 (aD (fL cW (ae (hX [none,some 2] (bR (fL gK (ae (fL mH (ae (af 2) ah)) ah))) (gN 0) dq (f2 xD (af 1) (af 0))) ah)))))
noncomputable def fe(aE aX aN:bE):bN:=aq (eR (fB (f2 gEq (f2 ao (af 0) (fC (.int 0))) (fC (.str "number")))) (aD (f2 bS (f2 ao (af 0) (fC (.int 1))) (f2 cm (f2 pJ (af 1) (fC (.int 7))) (f2 bS (f2 rB (f2 ao (af 0) (fC (.int 2))) (f2 ao (af 0) (fC (.int 1)))) (fC (.int 1)))))) bq) (aq (eR (fB (f2 gEq (f2 ao (af 0) (fC (.int 0))) (fC (.str "word")))) (aD (f2 ao (f2 ao (af 0) (fC (.int 1))) (f2 cm (af 1) (fL cP (ae (f2 ao (af 0) (fC (.int 1))) ah))))) bq) (aD (fR aN (ae (f2 ao (af 0) (fC (.int 1))) (ae (f2 dm (af 1) (fC (.int 3))) (ae (fL kz (ae (f2 cm (af 1) (fC (.int 3))) (ae (fL xW (ae (f2 ao (af 0) (fC (.int 2))) ah)) ah))) ah))))))
noncomputable def jB(aE aX aN:bE):bN:=aq (lK 2 (fh ah)) (aq (kL (bR (f2 bS (f2 ao (af 0) (fC (.int 0))) (f2 ao (af 0) (fC (.int 1))))) (gT 2 (oO [3,4])) (aq (aT 1 (fR (ai bK 1 1) (ae (af 1) ah))) (aq (uX 2 gq (ae (fR aE (ae (af 4) (ae (af 1) ah))) ah)) (dr [3,4] bq)))) (oN 2 (aD (fL cW (ae (af 2) ah)))))
noncomputable def iD(aE aX aN:bE):bN:=aq (lK 3 (fh ah)) (aq (kL (iA (ae (af 2) ah)) (gN 4) (aq (aT 1 (fR (ai bK 1 1) (ae (af 1) ah))) (aq (uX 3 gq (ae (fR aX (ae (af 0) (ae (f2 ao (fh (ae (af 1) (ae (f2 cm (af 1) (fC (.int 9))) ah))) (f2 cm (f2 dm (af 1) (fC (.int 9))) (fC (.int 2)))) ah))) ah)) (dr [4] bq)))) (oN 3 (aD (fR (ai d7 2 4) (ae (fL cP (ae (f2 ao (af 0) (fC (.int 0))) ah)) (ae (af 3) ah))))))
mutual
noncomputable def aE:Nat->bE
 |0=>λ_=>un
 |n+1=>ai (fe (aE n) (aX n) (aN n)) 2 2
noncomputable def aX:Nat->bE
 |0=>λ_=>un
 |n+1=>ai (jB (aE n) (aX n) (aN n)) 2 5
noncomputable def aN:Nat->bE
 |0=>λ_=>un
 |n+1=>ai (iD (aE n) (aX n) (aN n)) 3 5
end
theorem dF(n:Nat):aE (n+1)=ai (fe (aE n) (aX n) (aN n)) 2 2:=by rw[aE]
theorem jM:∀n:Nat,Ar 2 (aE n)
 |0=>λ_ h=>absurd (by rw[aE]) h
 |n+1=>by rw[dF];exact dB
theorem gC(n:Nat):aX (n+1)=ai (jB (aE n) (aX n) (aN n)) 2 5:=by rw[aX]
theorem mj:∀n:Nat,Ar 2 (aX n)
 |0=>λ_ h=>absurd (by rw[aX]) h
 |n+1=>by rw[gC];exact dB
theorem fT(n:Nat):aN (n+1)=ai (iD (aE n) (aX n) (aN n)) 3 5:=by rw[aN]
theorem ki:∀n:Nat,Ar 3 (aN n)
 |0=>λ_ h=>absurd (by rw[aN]) h
 |n+1=>by rw[fT];exact dB
noncomputable def bz:bN:=aq (eR (fB (f2 jx (f1 (aC "name" ["Leaf"]) (af 0)) (af 1))) j3 bq) (aD (f2 lU (af 1) (f1 (aC "name" ["Leaf"]) (af 0))))
noncomputable def cz:bN:=aD (cA (ae (f1 (aC "name" ["Leaf"]) (af 0)) ah))
noncomputable def jE(aJ aI:bE):bN:=aD (bH "names" [("Leaf",(ai cz 1 1)),("Over",aJ),("Both",aI)] (f1 (aC "glass" ["Over"]) (af 0)) ah)
noncomputable def ju(aJ aI:bE):bN:=aD (f2 bS (bH "names" [("Leaf",(ai cz 1 1)),("Over",aJ),("Both",aI)] (f1 (aC "one" ["Both"]) (af 0)) ah) (bH "names" [("Leaf",(ai cz 1 1)),("Over",aJ),("Both",aI)] (f1 (aC "other" ["Both"]) (af 0)) ah))
mutual
noncomputable def aJ:Nat->bE
 |0=>λ_=>un
 |n+1=>ai (jE (aJ n) (aI n)) 1 1
noncomputable def aI:Nat->bE
 |0=>λ_=>un
 |n+1=>ai (ju (aJ n) (aI n)) 1 1
end
theorem ik(n:Nat):aJ (n+1)=ai (jE (aJ n) (aI n)) 1 1:=by rw[aJ]
theorem jL:∀n:Nat,Ar 1 (aJ n)
 |0=>λ_ h=>absurd (by rw[aJ]) h
 |n+1=>by rw[ik];exact dB
theorem iC(n:Nat):aI (n+1)=ai (ju (aJ n) (aI n)) 1 1:=by rw[aI]
theorem jN:∀n:Nat,Ar 1 (aI n)
 |0=>λ_ h=>absurd (by rw[aI]) h
 |n+1=>by rw[iC];exact dB
noncomputable def iB(ay az:bE):bN:=aD (bH "view_form" [("Step",(ai bg 2 2)),("Rename",(ai aQ 2 3)),("Sieve",(ai aU 2 5))] (f1 (aC "step" ["Over"]) (af 0)) (ae (bH "form" [("Leaf",(ai bz 2 2)),("Over",ay),("Both",az)] (f1 (aC "glass" ["Over"]) (af 0)) (ae (af 1) ah)) ah))
noncomputable def ky(ay az:bE):bN:=aq (aT 2 (bH "form" [("Leaf",(ai bz 2 2)),("Over",ay),("Both",az)] (f1 (aC "one" ["Both"]) (af 0)) (ae (af 1) ah))) (aq (aT 3 (bH "form" [("Leaf",(ai bz 2 2)),("Over",ay),("Both",az)] (f1 (aC "other" ["Both"]) (af 0)) (ae (af 1) ah))) (aq (aT 4 (bH "names" [("Leaf",(ai cz 1 1)),("Over",(aJ 15)),("Both",(aI 15))] (f1 (aC "one" ["Both"]) (af 0)) ah)) (aq (eR (aS (fL FU (ae (hX [none,some 4] (bR (bH "names" [("Leaf",(ai cz 1 1)),("Over",(aJ 15)),("Both",(aI 15))] (f1 (aC "other" ["Both"]) (af 0)) ah)) (gN 0) dq (f2 xx (af 0) (af 1))) ah))) j3 bq) (aD xY))))
mutual
noncomputable def ay:Nat->bE
 |0=>λ_=>un
 |n+1=>ai (iB (ay n) (az n)) 2 2
noncomputable def az:Nat->bE
 |0=>λ_=>un
 |n+1=>ai (ky (ay n) (az n)) 2 5
end
theorem fw(n:Nat):ay (n+1)=ai (iB (ay n) (az n)) 2 2:=by rw[ay]
theorem jX:∀n:Nat,Ar 2 (ay n)
 |0=>λ_ h=>absurd (by rw[ay]) h
 |n+1=>by rw[fw];exact dB
theorem iP(n:Nat):az (n+1)=ai (ky (ay n) (az n)) 2 5:=by rw[az]
theorem j8:∀n:Nat,Ar 2 (az n)
 |0=>λ_ h=>absurd (by rw[az]) h
 |n+1=>by rw[iP];exact dB
noncomputable def gY(bA:bE):bN:=aq (eR (aS (f1 (bF ["Over"] ["Leaf","Both"]) (af 0))) (aD (f2 bS (fR bA (ae (f1 (aC "glass" ["Over"]) (af 0)) ah)) (fh (ae (f1 (aC "step" ["Over"]) (af 0)) ah)))) bq) (aq (eR (aS (f1 (bF ["Both"] ["Leaf","Over"]) (af 0))) (aD (f2 bS (f2 bS (fR bA (ae (f1 (aC "one" ["Both"]) (af 0)) ah)) (fR bA (ae (f1 (aC "other" ["Both"]) (af 0)) ah))) (fh (ae (f1 (aC "pair" ["Both"]) (af 0)) ah)))) bq) (aD (fh ah)))
noncomputable def bA:Nat->bE
 |0=>λ_=>un
 |n+1=>ai (gY (bA n)) 1 1
theorem eA(n:Nat):bA (n+1)=ai (gY (bA n)) 1 1:=by rw[bA]
theorem lO:∀n:Nat,Ar 1 (bA n)
 |0=>λ_ h=>absurd (by rw[bA]) h
 |n+1=>by rw[eA];exact dB
noncomputable def fK:bN:=aD (fL cP (ae (fR (bA 15) (ae (af 0) ah)) ah))
noncomputable def gh(bp:bE):bN:=aq (eR (nH (aS (f1 (bF ["Over"] ["Leaf","Both"]) (af 0)))) (aD (f1 (bF ["Leaf"] ["Over","Both"]) (af 0))) bq) (aq (aT 2 (f1 (aC "step" ["Over"]) (af 0))) (aq (eR (BK (jT (nH (aS (f1 (bF ["Rename"] ["Step","Sieve"]) (af 2)))) (nH (aS (f1 (bF ["Sieve"] ["Step","Rename"]) (af 2))))) (nH (aS (fR bp (ae (f1 (aC "glass" ["Over"]) (af 0)) (ae (af 1) ah)))))) (aD (fC (.bl false))) bq) (aq (aT 3 (bH "form" [("Leaf",(ai bz 2 2)),("Over",(ay 15)),("Both",(az 15))] (f1 (aC "glass" ["Over"]) (af 0)) (ae (af 1) ah))) (aq (eR (jT (aS (f1 (bF ["Sieve"] ["Step","Rename"]) (af 2))) (fB (f2 gEq (bH "view_form" [("Step",(ai bg 2 2)),("Rename",(ai aQ 2 3)),("Sieve",(ai aU 2 5))] (af 2) (ae (af 3) ah)) (af 3)))) (aD (fC (.bl false))) bq) (aq (eR (nH (aS (f1 (bF ["Over"] ["Leaf","Both"]) (f1 (aC "glass" ["Over"]) (af 0))))) (aD (fC (.bl true))) bq) (aq (aT 4 (f1 (aC "step" ["Over"]) (f1 (aC "glass" ["Over"]) (af 0)))) (aq (eR (jT (aS (f1 (bF ["Rename"] ["Step","Sieve"]) (af 2))) (aS (f1 (bF ["Rename"] ["Step","Sieve"]) (af 4)))) (aD (f2 tQ (f1 (aC "new" ["Rename"]) (af 4)) (f1 (aC "old" ["Rename"]) (af 2)))) bq) (aD (xH (qf (f1 (bF ["Sieve"] ["Step","Rename"]) (af 2))) (xH (qf (f1 (bF ["Sieve"] ["Step","Rename"]) (af 4))) (f2 tQ (f1 (aC "name" ["Leaf","Nest","Unnest","Part","Fuse","Sieve"]) (af 4)) (f1 (aC "name" ["Leaf","Nest","Unnest","Part","Fuse","Sieve"]) (af 2)))))))))))))
noncomputable def bp:Nat->bE
 |0=>λ_=>un
 |n+1=>ai (gh (bp n)) 2 5
theorem dR(n:Nat):bp (n+1)=ai (gh (bp n)) 2 5:=by rw[bp]
theorem kE:∀n:Nat,Ar 2 (bp n)
 |0=>λ_ h=>absurd (by rw[bp]) h
 |n+1=>by rw[dR];exact dB
noncomputable def fN:bN:=aD (zY (fB (f2 tQ (af 0) (af 1))) (fh (ae (fNew "Rename" ["old","new"] (ae (af 0) (ae (af 1) ah))) ah)) (fh ah))
noncomputable def aR:bN:=aD (fC (.bl true))
noncomputable def bV:bN:=aq (aT 2 (fR (ai eM 2 2) (ae (af 1) (ae (fR (ai cx 2 4) (ae (af 1) (ae (f1 (aC "name" ["Sieve"]) (af 0)) ah))) ah)))) (aD (f2 gEq (fR (ai iG 2 2) (ae (af 2) (ae (f1 (aC "kind" ["Sieve"]) (af 0)) ah))) (af 2)))
noncomputable def j6:bN:=aD (f2 gEq (fR (ai cx 2 4) (ae (af 0) (ae (f1 (aC "rest" ["Part","Fuse"]) (af 1)) ah))) (f2 bS (fR (ai cx 2 4) (ae (af 0) (ae (f1 (aC "quotient" ["Part","Fuse"]) (af 1)) ah))) (fC (.int 1))))
noncomputable def gO:bN:=aD (f2 gEq (cA (ae (f1 (aC "by" ["Part","Fuse"]) (af 0)) (ae (f1 (aC "quotient" ["Part","Fuse"]) (af 0)) (ae (f1 (aC "rest" ["Part","Fuse"]) (af 0)) ah)))) (cA (ae (f1 (aC "by" ["Part","Fuse"]) (af 1)) (ae (f1 (aC "quotient" ["Part","Fuse"]) (af 1)) (ae (f1 (aC "rest" ["Part","Fuse"]) (af 1)) ah)))))
noncomputable def bD:bN:=aq (eR (jT (aS (f1 (bF ["Rename"] ["Step","Sieve"]) (af 1))) (aS (f1 (bF ["Rename"] ["Step","Sieve"]) (af 2)))) (aD (zY (fB (f2 gEq (f1 (aC "new" ["Rename"]) (af 1)) (f1 (aC "old" ["Rename"]) (af 2)))) (fR (ai fN 2 2) (ae (f1 (aC "old" ["Rename"]) (af 1)) (ae (f1 (aC "new" ["Rename"]) (af 2)) ah))) (fC .non))) bq) (aq (eR (jT (aS (f1 (bF ["Sieve"] ["Step","Rename"]) (af 1))) (aS (f1 (bF ["Sieve"] ["Step","Rename"]) (af 2)))) (aD (zY (fB (f2 gEq (f1 (aC "name" ["Leaf","Nest","Unnest","Part","Fuse","Sieve"]) (af 1)) (f1 (aC "name" ["Leaf","Nest","Unnest","Part","Fuse","Sieve"]) (af 2)))) (fh (ae (fNew "Sieve" ["name","kind"] (ae (f1 (aC "name" ["Leaf","Nest","Unnest","Part","Fuse","Sieve"]) (af 1)) (ae (fR (ai iG 2 2) (ae (f1 (aC "kind" ["Sieve"]) (af 1)) (ae (f1 (aC "kind" ["Sieve"]) (af 2)) ah))) ah))) ah)) (fC .non))) bq) (aq (eR (jT (aS (f1 (bF ["Part"] ["Step","Rename","Sieve"]) (af 1))) (aS (f1 (bF ["Fuse"] ["Step","Rename","Sieve"]) (af 2)))) (aD (zY (aS (fR (ai gO 2 2) (ae (af 1) (ae (af 2) ah)))) (fR (ai fN 2 2) (ae (f1 (aC "name" ["Leaf","Nest","Unnest","Part","Fuse","Sieve"]) (af 1)) (ae (f1 (aC "name" ["Leaf","Nest","Unnest","Part","Fuse","Sieve"]) (af 2)) ah))) (fC .non))) bq) (aq (eR (jT (aS (f1 (bF ["Fuse"] ["Step","Rename","Sieve"]) (af 1))) (aS (f1 (bF ["Part"] ["Step","Rename","Sieve"]) (af 2)))) (aD (zY (jT (fB (f2 gEq (f1 (aC "name" ["Leaf","Nest","Unnest","Part","Fuse","Sieve"]) (af 1)) (f1 (aC "name" ["Leaf","Nest","Unnest","Part","Fuse","Sieve"]) (af 2)))) (jT (aS (fR (ai gO 2 2) (ae (af 1) (ae (af 2) ah)))) (aS (fR (ai j6 2 2) (ae (af 0) (ae (af 1) ah)))))) (fh ah) (fC .non))) bq) (aq (eR (jT (aS (f1 (bF ["Nest"] ["Step","Rename","Sieve"]) (af 1))) (aS (f1 (bF ["Unnest"] ["Step","Rename","Sieve"]) (af 2)))) (aD (fh ah)) bq) (aq (eR (jT (aS (f1 (bF ["Unnest"] ["Step","Rename","Sieve"]) (af 1))) (aS (f1 (bF ["Nest"] ["Step","Rename","Sieve"]) (af 2)))) (aD (zY (jT (aS (bH "exact" [("Step",(ai aR 2 2)),("Rename",(ai aR 2 2)),("Sieve",(ai bV 2 3))] (af 1) (ae (af 0) ah))) (fB (f2 gEq (f1 (aC "many" ["Nest"]) (af 2)) (fL cP (ae (f2 ao (af 0) (fC (.int 0))) ah))))) (fR (ai fN 2 2) (ae (f1 (aC "name" ["Leaf","Nest","Unnest","Part","Fuse","Sieve"]) (af 1)) (ae (f1 (aC "name" ["Leaf","Nest","Unnest","Part","Fuse","Sieve"]) (af 2)) ah))) (fC .non))) bq) (aD (fC .non)))))))
noncomputable def cO:bN:=aD (cA ah)
noncomputable def cI:bN:=aD (cA (ae (fC (.str "rename")) (ae (f1 (aC "old" ["Rename"]) (af 0)) (ae (f1 (aC "new" ["Rename"]) (af 0)) ah))))
noncomputable def bU:bN:=aq (eR (fB (f2 gEq (f2 ao (f1 (aC "kind" ["Sieve"]) (af 0)) (fC (.int 0))) (fC (.str "number")))) (aD (cA (ae (fC (.str "sieve")) (ae (f1 (aC "name" ["Sieve"]) (af 0)) (ae (fR (ai cV 1 1) (ae (f2 ao (f1 (aC "kind" ["Sieve"]) (af 0)) (fC (.int 1))) ah)) (ae (fR (ai cV 1 1) (ae (f2 ao (f1 (aC "kind" ["Sieve"]) (af 0)) (fC (.int 2))) ah)) ah)))))) bq) (aD (f2 bS (cA (ae (fC (.str "keep")) (ae (f1 (aC "name" ["Sieve"]) (af 0)) ah))) (fL cW (ae (hX [none] (bR (f2 ao (f1 (aC "kind" ["Sieve"]) (af 0)) (fC (.int 1)))) (gN 0) dq (fR (ai cV 1 1) (ae (af 0) ah))) ah))))
noncomputable def bL:bN:=aD (xH (f2 gEq (bH "words" [("Step",(ai cO 1 1)),("Rename",(ai cI 1 1)),("Sieve",(ai bU 1 1))] (af 1) ah) (cA ah)) (me (f1 (bF ["Sieve"] ["Step","Rename"]) (af 1)) (bH "exact" [("Step",(ai aR 2 2)),("Rename",(ai aR 2 2)),("Sieve",(ai bV 2 3))] (af 1) (ae (af 0) ah))))
noncomputable def de(aO:bE):bN:=aq (eR (aS (fR (ai bL 2 2) (ae (bH "form" [("Leaf",(ai bz 2 2)),("Over",(ay 15)),("Both",(az 15))] (af 1) (ae (af 0) ah)) (ae (af 2) ah)))) (aD (af 1)) bq) (aq (aT 3 (fC .non)) (aq (eR (aS (f1 (bF ["Over"] ["Leaf","Both"]) (af 1))) (aT 3 (fR (ai bD 3 3) (ae (bH "form" [("Leaf",(ai bz 2 2)),("Over",(ay 15)),("Both",(az 15))] (f1 (aC "glass" ["Over"]) (af 1)) (ae (af 0) ah)) (ae (f1 (aC "step" ["Over"]) (af 1)) (ae (af 2) ah))))) bq) (aq (eR (fB (u6 (af 3))) (aD (fNew "Over" ["glass","step"] (ae (af 1) (ae (af 2) ah)))) bq) (aD (zY (aS (af 3)) (fR aO (ae (af 0) (ae (f1 (aC "glass" ["Over"]) (af 1)) (ae (f2 ao (af 3) (fC (.int 0))) ah)))) (f1 (aC "glass" ["Over"]) (af 1)))))))
noncomputable def aO:Nat->bE
 |0=>λ_=>un
 |n+1=>ai (de (aO n)) 3 4
theorem ck(n:Nat):aO (n+1)=ai (de (aO n)) 3 4:=by rw[aO]
theorem j4:∀n:Nat,Ar 3 (aO n)
 |0=>λ_ h=>absurd (by rw[aO]) h
 |n+1=>by rw[ck];exact dB
noncomputable def qp(cT:bE):bN:=aq (eR (aS (f1 (bF ["Over"] ["Leaf","Both"]) (af 1))) (aD (fR (aO 15) (ae (af 0) (ae (fR cT (ae (af 0) (ae (f1 (aC "glass" ["Over"]) (af 1)) ah))) (ae (f1 (aC "step" ["Over"]) (af 1)) ah))))) bq) (aq (eR (aS (f1 (bF ["Both"] ["Leaf","Over"]) (af 1))) (aD (fNew "Both" ["one","other","pair"] (ae (fR cT (ae (af 0) (ae (f1 (aC "one" ["Both"]) (af 1)) ah))) (ae (fR cT (ae (af 0) (ae (f1 (aC "other" ["Both"]) (af 1)) ah))) (ae (f1 (aC "pair" ["Both"]) (af 1)) ah))))) bq) (aD (af 1)))
noncomputable def cT:Nat->bE
 |0=>λ_=>un
 |n+1=>ai (qp (cT n)) 2 2
theorem iw(n:Nat):cT (n+1)=ai (qp (cT n)) 2 2:=by rw[cT]
theorem sX:∀n:Nat,Ar 2 (cT n)
 |0=>λ_ h=>absurd (by rw[cT]) h
 |n+1=>by rw[iw];exact dB
noncomputable def gW:bN:=aq (yq (bH "form" [("Leaf",(ai bz 2 2)),("Over",(ay 15)),("Both",(az 15))] (af 1) (ae (af 0) ah))) (aD (fR (cT 15) (ae (af 0) (ae (af 1) ah))))
noncomputable def bM:bN:=aq (eR (fB (f2 gEq (f2 ao (af 0) (fC (.int 0))) (fC (.str "number")))) (aD (cA (ae (fC (.str "number")) (ae (fL kz (ae (f2 ao (af 0) (fC (.int 1))) (ae (f2 ao (af 1) (fC (.int 1))) ah))) (ae (fL lP (ae (f2 ao (af 0) (fC (.int 2))) (ae (f2 ao (af 1) (fC (.int 2))) ah))) ah))))) bq) (aD (cA (ae (fC (.str "word")) (ae (fL cW (ae (hX [none,some 1] (bR (f2 ao (af 0) (fC (.int 1)))) (gN 0) (fB (f2 xx (af 0) (f2 ao (af 1) (fC (.int 1))))) (af 0)) ah)) ah))))
noncomputable def aV:bN:=aq (eR (fB (f2 gEq (f2 ao (af 0) (fC (.int 0))) (fC (.str "number")))) (aq (aT 2 (f2 dm (f2 bS (f2 ao (af 0) (fC (.int 1))) (f2 ao (af 0) (fC (.int 2)))) (fC (.int 2)))) (aq (aT 3 (fh (ae (cA (ae (f2 ao (af 0) (fC (.int 1))) (ae (af 2) ah))) (ae (cA (ae (af 2) (ae (f2 bS (f2 ao (af 0) (fC (.int 2))) (fC (.int 7))) ah))) (ae (cA (ae (f2 rB (f2 ao (af 0) (fC (.int 1))) (fC (.int 5))) (ae (f2 bS (f2 ao (af 0) (fC (.int 2))) (fC (.int 5))) ah))) (ae (cA (ae (af 2) (ae (af 2) ah))) ah)))))) (aD (f2 bS (cA (ae (fC (.str "number")) ah)) (f2 ao (af 3) (f2 cm (af 1) (fC (.int 4)))))))) bq) (aq (eR (fB (f2 gEq (f2 cm (af 1) (fC (.int 3))) (fC (.int 0)))) (aD (cA (ae (fC (.str "word")) (ae (f2 ao (af 0) (fC (.int 1))) ah)))) bq) (aD (cA (ae (fC (.str "word")) (ae (fL cW (ae (hX [none,none,some 1] (eK (ae (f2 ao (af 0) (fC (.int 1))) ah)) (gT 2 (oO [0,1])) (BK (fB (f2 gEq (af 0) (fC (.int 0)))) (fB (f2 gEq (f2 tN (f2 Ao (af 2) (af 0)) (fC (.int 1))) (fC (.int 1))))) (af 1)) ah)) ah)))))
noncomputable def dh:bN:=aq (lK 0 (fL mU (ae (af 0) ah))) (aq (lK 3 (fh ah)) (aq (aT 4 (fC (.int 0))) (aq (aT 5 (gF [0] (f2 ao (f2 ao (af 0) (fC (.int 0))) (fC (.int 0))))) (aq (kL (bR (af 2)) (gN 6) (aq (eR (fB (f2 gEq (f2 cm (af 6) (fC (.int 3))) (fC (.int 0)))) (aq (aT 4 (gF [0] (f2 cm (f2 dm (af 6) (fC (.int 12))) (fL cP (ae (af 0) ah))))) (aT 5 (gF [0] (f2 ao (f2 ao (af 0) (af 4)) (fC (.int 0)))))) bq) (aq (wO (gF [0] (f2 ao (af 0) (af 4))) (gT 2 (oO [7,8]))) (aq (aT 9 (gE [0] (hX [none,none] (bR (af 0)) (gT 2 (oO [0,1])) dq (af 0)))) (aq (aT 10 (f2 ao (fh (ae (af 5) (ae (fR (ai bJ 2 7) (ae (af 1) (ae (f2 bS (fC (.int 6)) (f2 cm (f2 dm (af 6) (fC (.int 192))) (fC (.int 12)))) ah))) ah))) (f2 cm (f2 dm (af 6) (fC (.int 96))) (fC (.int 2))))) (aq (eR (fB (f2 gEq (f2 cm (f2 dm (af 6) (fC (.int 3))) (fC (.int 4))) (fC (.int 0)))) (uX 3 gq (ae (fC (.obj "Step" [] [])) ah)) (eR (jT (fB (f2 pK (f2 cm (f2 dm (af 6) (fC (.int 3))) (fC (.int 4))) (fC (.int 3)))) (fB (f2 my (af 10) (af 9)))) (aq (uX 3 gq (ae (fNew "Rename" ["old","new"] (ae (af 7) (ae (af 10) ah))) ah)) (lY 0 (af 4) (cA (ae (af 10) (ae (af 8) ah))))) (aq (uX 3 gq (ae (fNew "Sieve" ["name","kind"] (ae (af 7) (ae (fR (ai aV 2 4) (ae (af 8) (ae (f2 dm (af 6) (fC (.int 96))) ah))) ah))) ah)) (lY 0 (af 4) (gF [3] (cA (ae (af 7) (ae (fR (ai bM 2 2) (ae (af 8) (ae (f1 (aC "kind" ["Sieve"]) (f2 ao (af 3) (wM (fC (.int 1))))) ah))) ah)))))))) (dr [6,7,8,9,10] bq))))))) (oN 0 (oN 3 (aD (cA (ae (af 3) (ae (fL cW (ae (af 0) ah)) ah))))))))))
noncomputable def dS:bN:=aq (wO (fR (ai dh 3 11) (ae (f2 bS (f2 ao (af 0) (fC (.int 0))) (f2 ao (af 0) (fC (.int 1)))) (ae (af 2) (ae (af 3) ah)))) (gT 2 (oO [5,6]))) (aq (aT 7 (fNew "Leaf" ["name"] (ae (af 1) ah))) (dr [2,3] (aq (kL (bR (af 5)) (gN 8) (aq (aT 7 (fNew "Over" ["glass","step"] (ae (af 7) (ae (af 8) ah)))) (dr [8] bq))) (aq (aT 9 (fj [(af 1,af 0)])) (aq (aT 10 (fR (ai gW 2 2) (ae (af 9) (ae (af 7) ah)))) (aq (eR (BK (nH (aS (fR (bp 15) (ae (af 10) (ae (af 9) ah))))) (fB (f2 Ko (fR (ai fK 1 1) (ae (af 10) ah)) (fL cP (ae (af 5) ah))))) (aD (fC (.bl false))) bq) (aq (aT 11 (bH "form" [("Leaf",(ai bz 2 2)),("Over",(ay 15)),("Both",(az 15))] (af 10) (ae (af 9) ah))) (aq (eR (BK (fB (f2 tQ (f2 bS (f2 ao (af 11) (fC (.int 0))) (f2 ao (af 11) (fC (.int 1)))) (af 6))) (fB (f2 tQ (fL cP (ae (f2 ao (af 11) (fC (.int 0))) ah)) (fL cP (ae (f2 ao (af 0) (fC (.int 0))) ah))))) (aD (fC (.bl false))) bq) (aq (aT 12 (fj [(af 1,fR (aN 15) (ae (af 0) (ae (af 4) (ae (fC (.int 6)) ah))))])) (aD (f2 gEq (bH "got" [("Leaf",(ai ax 3 3)),("Over",(ai ax 3 3)),("Both",(ai ax 3 3))] (af 10) (ae (af 9) (ae (af 12) ah))) (bH "got" [("Leaf",(ai ax 3 3)),("Over",(ai ax 3 3)),("Both",(ai ax 3 3))] (af 7) (ae (af 9) (ae (af 12) ah))))))))))))))
noncomputable def dN:bN:=aq (aT 1 (fC (.str "abcdefghijklmnopqrstuvwxyz"))) (aq (aT 2 (f2 ao (af 1) (f2 cm (af 0) (fC (.int 26))))) (aq (aT 3 (f2 ao (af 1) (f2 cm (f2 dm (af 0) (fC (.int 26))) (fC (.int 26))))) (aq (lK 4 (fj [(f2 sC (af 2) (fC (.int 4)),fC (.bl true))])) (dr [1] (aq (kL (eK (ae (fh (ae (fC (.str "")) (ae (af 2) (ae (af 3) (ae (f2 bS (af 2) (af 3)) (ae (f2 bS (af 3) (af 2)) (ae (f2 sC (af 2) (fC (.int 8))) ah))))))) ah)) (gT 2 (oO [5,6])) (aq (eR (fB (f2 gEq (f2 tN (f2 Ao (f2 dm (af 0) (fC (.int 676))) (af 5)) (fC (.int 1))) (fC (.int 1)))) (rX 4 (af 6) (fC (.bl true))) bq) (dr [5,6] bq))) (oN 4 (aD (cA (ae (fC (.str "word")) (ae (fL cW (ae (fL gK (ae (fL qE (ae (af 4) ah)) ah)) ah)) ah))))))))))
noncomputable def dI:bN:=aq (aT 1 (f2 ao (fh (ae (fC (.int 0)) (ae (wM (fC (.int 12))) (ae (f2 rB (fC (.int 0)) (f2 jy (fC (.int 12)) (f2 cm (f2 pJ (af 0) (fC (.int 7))) (f2 pJ (fC (.int 10)) (fC (.int 40)))))) (ae (f2 jy (fC (.int 12)) (f2 cm (f2 pJ (af 0) (fC (.int 7))) (f2 pJ (fC (.int 10)) (fC (.int 40))))) ah))))) (f2 cm (af 0) (fC (.int 4))))) (aD (cA (ae (fC (.str "number")) (ae (af 1) (ae (f2 rB (f2 bS (af 1) (f2 jy (fC (.int 12)) (f2 ao (fh (ae (fC (.int 1)) (ae (fC (.int 2)) (ae (fC (.int 5)) (ae (f2 pJ (fC (.int 10)) (fC (.int 40))) ah))))) (f2 cm (f2 dm (af 0) (fC (.int 4))) (fC (.int 4)))))) (fC (.int 1))) ah)))))
noncomputable def bI:bN:=aq (eR (fB (f2 pK (f2 cm (af 0) (fC (.int 8))) (fC (.int 5)))) (aD (fR (ai dI 1 2) (ae (f2 dm (af 0) (fC (.int 8))) ah))) bq) (aq (eR (fB (f2 gEq (f2 cm (af 0) (fC (.int 8))) (fC (.int 5)))) (aD (f2 ao (fh (ae (cA (ae (fC (.str "number")) (ae (f2 cm (f2 dm (af 0) (fC (.int 8))) (fC (.int 9))) (ae (f2 cm (f2 dm (af 0) (fC (.int 8))) (fC (.int 9))) ah)))) (ae (cA (ae (fC (.str "word")) (ae (cA (ae (fC (.str "a")) ah)) ah))) ah))) (f2 cm (f2 dm (af 0) (fC (.int 72))) (fC (.int 2))))) bq) (aD (fR (ai dN 1 7) (ae (f2 dm (af 0) (fC (.int 8))) ah))))
noncomputable def cg:bN:=aq (lK 5 (fh ah)) (aq (kL (iA (ae (f2 bS (af 3) (af 4)) ah)) (gN 6) (aq (aT 0 (fR (ai bK 1 1) (ae (af 0) ah))) (aq (uX 5 gq (ae (cA (ae (fR (ai bJ 2 7) (ae (af 1) (ae (f2 bS (af 2) (af 6)) ah))) (ae (fR (ai bI 1 1) (ae (af 0) ah)) ah))) ah)) (dr [6] bq)))) (oN 5 (aD (cA (ae (fL cW (ae (gA (af 5) fZ (il (af 3))) ah)) (ae (fL cW (ae (gA (af 5) (il (af 3)) fZ) ah)) ah))))))
noncomputable def pf:bN:=aq (aT 1 (f2 cm (f2 jy (fR (ai cU 2 2) (ae (af 0) (ae (fC (.int 1)) ah))) (fC (.int 48271))) (fC (.int 2147483647)))) (aq (aT 2 (fR (ai bZ 2 3) (ae (af 0) (ae (fC (.int 0)) ah)))) (aq (aT 3 (fR (ai cg 5 7) (ae (fR (ai bK 1 1) (ae (af 2) ah)) (ae (af 1) (ae (fC (.int 0)) (ae (f2 bS (fC (.int 1)) (f2 cm (af 2) (fC (.int 3)))) (ae (f2 cm (f2 dm (af 2) (fC (.int 4))) (fC (.int 4))) ah))))))) (aq (aT 4 (fR (ai bJ 2 7) (ae (af 1) (ae (fC (.int 20)) ah)))) (aq (aT 5 (hX [none,some 0] (kT (ae (fC (.int 2)) (ae (fL lP (ae (fL kz (ae (fL cP (ae (af 0) ah)) (ae (fC (.int 8)) ah))) (ae (fC (.int 62)) ah))) ah))) (gN 0) dq (fR (ai bZ 2 3) (ae (af 1) (ae (af 0) ah))))) (dr [0,2] (aq (kL (mX (ae (fC (.int 0)) (ae (fL cP (ae (af 5) ah)) (ae (fC (.int 12)) ah)))) (gN 6) (aq (eR (nH (aS (fR (ai dS 5 13) (ae (af 3) (ae (af 4) (ae (af 1) (ae (gA (af 5) (il (af 6)) (il (f2 bS (af 6) (fC (.int 12))))) (ae (f2 ao (af 5) (af 6)) ah)))))))) (aD (fC (.bl false))) bq) (dr [6] bq))) (aD (fC (.bl true)))))))))
set_option hygiene false
local macro_rules|`(tactic|ktr_call $p $e)=>`(tactic|((with_reducible show $p);refine $e))
local macro_rules|`(tactic|walk_at "A")=>`(tactic|first|ktr_call (uC _ _ (aq _ _)) (y4 ?_ ?_)|ktr_call (uC _ _ (dr _ _)) (yZ _ ?_)|ktr_call (uC _ _ (oN _ _)) (Dp _ ?_)|ktr_call (uC _ _ bq) Cq|ktr_call (uC _ _ j3) Ae|refine BW ?_)
local macro_rules|`(tactic|walk_at "B")=>`(tactic|first|ktr_call (XS _ _ (aD _)) (Gc ?_)|ktr_call (XS _ _ (aT _ (hX _ _ _ _ _))) (Qa (by first|assumption|exact sB rfl) rfl (by first|exact iV rfl|exact gX rfl) ?_ ?_)|ktr_call (XS _ _ (aT _ (gE _ (hX _ _ _ _ _)))) (N8 _ (by first|assumption|exact sB rfl) rfl (by first|exact iV rfl|exact gX rfl) ?_ ?_)|ktr_call (XS _ _ (aT _ _)) (xs _ (by first|assumption|exact sB rfl) ?_)|ktr_call (XS _ _ (eR _ _ _)) (IE ?_ ?_ ?_)|ktr_call (XS _ _ bq) B3|ktr_call (XS _ _ bq) Ed|ktr_call (XS _ _ (kL _ _ _)) (Gm hp rfl ?_ ?_ ?_)|ktr_call (XS _ _ (lK _ (hX _ _ _ _ _))) (PP (by first|assumption|exact sB rfl) rfl (by first|exact iV rfl|exact gX rfl) ?_ ?_)|ktr_call (XS _ _ (lK _ _)) (EI (by first|assumption|exact sB rfl) rfl (by first|exact Or.inl rfl|exact Or.inr rfl) ?_)|ktr_call (XS _ _ (uX _ gq _)) (Iu PySem.F.slot_list_append PySem.F.type_list_append sI y3 (xv _) ?_)|ktr_call (XS _ _ j3) DF|ktr_call (XS _ _ (wO _ _)) (Fl ?_ ?_)|ktr_call (XS _ _ (lY _ _ _)) (BH (xv _) ?_ ?_)|ktr_call (XS _ _ (yq _)) (C1 ?_)|ktr_call (XS _ _ (rY _ _ _)) (BC hr.units (xv _) ?_ ?_)|ktr_call (XS _ _ (rX _ _ _)) (B8 hr.units (xv _) ?_ ?_))
local macro_rules|`(tactic|walk_at "C")=>`(tactic|first|ktr_call (XT _ _ (aS _)) (zK ?_)|ktr_call (XT _ _ (fB (f2 gEq _ _))) (iF (DN hr.units) cj ?_ ?_ (iH _))|ktr_call (XT _ _ (jT _ _)) (Pq ?_)|ktr_call (XT _ _ (nH _)) (Fz ?_)|ktr_call (XT _ _ (fB (f2 tQ _ _))) (iF (Cw hr.units) cj ?_ ?_ (iH _))|ktr_call (XT _ _ (BK _ _)) (Pq ?_)|ktr_call (XT _ _ (fB (f2 xx _ _))) (iF (BL hr.units) cj ?_ ?_ rfl)|ktr_call (XT _ _ (fB (f2 pK _ _))) (iF (Bb hr.units) cj ?_ ?_ (iH _))|ktr_call (XT _ _ (fB (u6 _))) (EJ ?_)|ktr_call (XT _ _ (fB (f2 D7 _ _))) (iF sP eQ ?_ ?_ (iH _))|ktr_call (XT _ _ (fB (f2 Ko _ _))) (iF Hh eQ ?_ ?_ (iH _))|ktr_call (XT _ _ (fB (f2 my _ _))) (iF (sL hr.units) cj ?_ ?_ rfl)|ktr_call (XT _ _ (fB (f2 jx _ _))) (iF (sS hr.units) cj ?_ ?_ rfl)|ktr_call (XT _ _ (fB (mE D7 D7 _ _ _))) (zf sP eQ sP eQ ?_ ?_ ?_))
local macro_rules|`(tactic|walk_at "D")=>`(tactic|first|ktr_call (XW _ _ (jT _ _)) (Gs ?_ ?_)|ktr_call (XW _ _ (BK _ _)) (Jc ?_ ?_)|refine A7 ?_|refine Fc ?_)
local macro_rules|`(tactic|walk_at "F")=>`(tactic|first|ktr_call (XI _ _ _ (bR _)) (ER ?_)|ktr_call (XI _ _ _ (iA _)) (we rfl (by walk_at "a") ?_)|ktr_call (XI _ _ _ (eK _)) (rH rfl (by walk_at "a") ?_)|ktr_call (XI _ _ _ (kT _)) (v9 rfl (by walk_at "a") ?_)|ktr_call (XI _ _ _ (mX _)) (wu rfl (by walk_at "a") ?_)|ktr_call (XI _ _ _ (EX _)) (Fu rfl (by walk_at "a") ?_))
local macro_rules|`(tactic|walk_at "L")=>`(tactic|first|ktr_call (XN _ _ (fh _)) (FK ?_)|ktr_call (XN _ _ (fL mU _)) (CU rfl (by walk_at "a") Va ?_)|ktr_call (XN _ _ v6) Ax|ktr_call (XN _ _ (hX _ _ _ _ _)) (QX rfl (by first|exact iV rfl|exact gX rfl) ?_ ?_)|ktr_call (XN _ _ (fj [_])) (zo ?_ ?_))
local macro_rules|`(tactic|walk_at "M")=>`(tactic|first|with_reducible refine Ec ?_|ktr_call (XE _ _ (af _)) (xw _)|ktr_call (XE _ _ (fC .non)) GX|ktr_call (XE _ _ (fC (.int _))) Ee|ktr_call (XE _ _ (f1 (aC _ _) _)) (Eu (by walk_at "a") ?_)|ktr_call (XE _ _ (f2 ao _ _)) (xi ?_ ?_)|ktr_call (XE _ _ (fR _ _)) (wL (by walk_at "a") (by first|exact dB|walk_at "a") hr ‹0› ?_)|ktr_call (XE _ _ (cA _)) (Fi ?_)|ktr_call (XE _ _ (f1 (bF _ _) _)) (Et (by walk_at "a") rfl (by walk_at "a") rfl ?_)|ktr_call (XE _ _ (f2 cm _ _)) (gJ JW Iw ?_ ?_)|ktr_call (XE _ _ (f2 gEq _ _)) (ir (DN hr.units) cj ?_ ?_ (iH _))|ktr_call (XE _ _ (bH _ _ _ (ae _ _))) (B2 (by walk_at "a") hr ‹0› ?_ ?_)|ktr_call (XE _ _ (bH _ _ _ ah)) (Av (by walk_at "a") hr ‹0› ?_)|ktr_call (XE _ _ (fC (.str _))) GD|ktr_call (XE _ _ (f2 bS _ _)) (gJ FV cj ?_ ?_)|ktr_call (XE _ _ (fh _)) (GB ?_)|ktr_call (XE _ _ (f2 dm _ _)) (gJ B4 J1 ?_ ?_)|ktr_call (XE _ _ (fL cP _)) (gP yV rfl (by walk_at "a") PySem.boot_len ?_)|ktr_call (XE _ _ (hX _ _ _ _ _)) (xl rfl (by first|exact iV rfl|exact gX rfl) ?_ ?_)|ktr_call (XE _ _ (fC (.bl _))) Jm|ktr_call (XE _ _ (fL cW _)) (fA vd rfl (by walk_at "a") Vb ?_)|ktr_call (XE _ _ (zY _ _ _)) (Io ?_ ?_ ?_)|ktr_call (XE _ _ (fNew _ _ _)) (Ea (by walk_at "a") hr ‹0› rfl ?_)|ktr_call (XE _ _ (f2 tQ _ _)) (ir (Cw hr.units) cj ?_ ?_ (iH _))|ktr_call (XE _ _ (me _ _)) (FR ?_ ?_)|ktr_call (XE _ _ (f2 pJ _ _)) (gJ J4 Ik ?_ ?_)|ktr_call (XE _ _ (f2 rB _ _)) (gJ IG JS ?_ ?_)|ktr_call (XE _ _ (f2 xx _ _)) (ir (BL hr.units) cj ?_ ?_ rfl)|ktr_call (XE _ _ (gA _ _ _)) (zC ?_ ?_ ?_)|ktr_call (XE _ _ (pF "int" _)) (qc Cd rfl (by walk_at "a") rfl (by walk_at "a") Vc ?_)|ktr_call (XE _ _ (pF "bool" _)) (qc y6 rfl (by walk_at "a") rfl (by walk_at "a") PyProof.Rows.boot_bool ?_)|ktr_call (XE _ _ (pF "str" _)) (qc BO rfl (by walk_at "a") rfl (by walk_at "a") Vd ?_)|ktr_call (XE _ _ (pF "tuple" _)) (qc wv rfl (by walk_at "a") rfl (by walk_at "a") Vb ?_)|ktr_call (XE _ _ (gF _ _)) (Be _ ?_)|ktr_call (XE _ _ (f2 jy _ _)) (gJ BF Cr ?_ ?_)|ktr_call (XE _ _ (qf _)) (Ej ?_)|ktr_call (XE _ _ (xH _ _)) (JU ?_ ?_)|ktr_call (XE _ _ (fL kz _)) (gP (wI rfl) rfl (by walk_at "a") PyProof.Rows.boot_max ?_)|ktr_call (XE _ _ (f2 pK _ _)) (ir (Bb hr.units) cj ?_ ?_ (iH _))|ktr_call (XE _ _ (f2 lU _ _)) (AX hr.units ?_ ?_ (fun _ _=>rfl))|ktr_call (XE _ _ (fj [_])) (An ?_ ?_)|ktr_call (XE _ _ (fj [_, _])) (y8 ?_ ?_ ?_ ?_)|ktr_call (XE _ _ (fj [_, _, _])) (zG ?_ ?_ ?_ ?_ ?_ ?_)|ktr_call (XE _ _ (fL lP _)) (gP (xq rfl) rfl (by walk_at "a") PyProof.Rows.boot_min ?_)|ktr_call (XE _ _ (fL AA _)) (gP (yT rfl) rfl (by walk_at "a") PyProof.Rows.boot_all ?_)|ktr_call (XE _ _ (f2 Ao _ _)) (gJ HN HE ?_ ?_)|ktr_call (XE _ _ (f2 tN _ _)) (gJ JF Jr ?_ ?_)|ktr_call (XE _ _ (f2 sC _ _)) (gJ EQ cj ?_ ?_)|ktr_call (XE _ _ (f2 Ko _ _)) (ir Hh eQ ?_ ?_ (iH _))|ktr_call (XE _ _ (u6 _)) (FL ?_)|ktr_call (XE _ _ (wM _)) (Fp ?_)|ktr_call (XE _ _ (fL gK _)) (gP uj rfl (by walk_at "a") uJ ?_)|ktr_call (XE _ _ xY) AR|ktr_call (XE _ _ (fC (.obj _ _ _))) (Cp (by walk_at "a") rfl)|ktr_call (XE _ _ (f2 D7 _ _)) (ir sP eQ ?_ ?_ (iH _))|ktr_call (XE _ _ (f2 my _ _)) (ir (sL hr.units) cj ?_ ?_ rfl)|ktr_call (XE _ _ (f2 jx _ _)) (ir (sS hr.units) cj ?_ ?_ rfl)|ktr_call (XE _ _ (mE D7 D7 _ _ _)) (z7 sP eQ sP eQ ?_ ?_ ?_)|ktr_call (XE _ _ (f2 xD _ _)) (Gi hr.units ?_ ?_ (fun _ _=>rfl))|ktr_call (XE _ _ (fL mU _)) (fA xC rfl (by walk_at "a") Va ?_)|ktr_call (XE _ _ (fL xW _)) (fA wg rfl (by walk_at "a") Vc ?_)|ktr_call (XE _ _ (fL FU _)) (gP (Af rfl) rfl (by walk_at "a") PyProof.Rows.boot_any ?_)|ktr_call (XE _ _ (fL qE _)) (fA (xG rfl) rfl (by walk_at "a") Va ?_)|ktr_call (XE _ _ (fL mH _)) (fA (wQ rfl) rfl (by walk_at "a") Va ?_)|ktr_call (XE _ _ (gE _ _)) (z9 _ ?_)|ktr_call (XE _ _ (fL DV _)) (fA zL rfl (by walk_at "a") Vd ?_))
local macro_rules|`(tactic|walk_at "d")=>`(tactic|((first|((with_reducible show XE _ _ _);walk_at "M")|((with_reducible show XA _ _ _);first|ktr_call (XA _ _ (ae _ _)) (Dr ?_ ?_)|ktr_call (XA _ _ ah) GO)|((with_reducible show XS _ _ _);walk_at "B")|((with_reducible show uC _ _ _);walk_at "A")|((with_reducible show XT _ _ _);walk_at "C")|((with_reducible show XW _ _ _);walk_at "D")|((with_reducible show XI _ _ _ _);walk_at "F")|((with_reducible show XG _ _ _);first|ktr_call (XG _ _ (gN _)) (A3 (by first|assumption|exact sB rfl) rfl (by first|exact Or.inl rfl|exact Or.inr rfl))|ktr_call (XG _ _ (gT _ _)) (Gk rfl ?_))|((with_reducible show JM _ _ _);first|ktr_call (JM _ _ (oO (_ :: _))) (zg ?_ ?_)|ktr_call (JM _ _ (oO [])) CA)|((with_reducible show XO _ _ _);first|ktr_call (XO _ _ fZ) DL|ktr_call (XO _ _ (il _)) (CI ?_))|((with_reducible show Ld _ _ _);first|ktr_call (Ld _ _ dq) CW|refine CV ?_)|((with_reducible show pG _ _ _ _ _ _ _ _ _);first|refine ⟨fun _ _ _ _ _ _=>⟨?_, ?_, ?_⟩⟩)|((with_reducible show XN _ _ _);walk_at "L"))<;>walk_at "d"))
local macro_rules | `(tactic| walk_at "a") => `(tactic| first | assumption | exact q.2 | exact q.1.2 | exact q.1.1.2 | exact q.1.1.1.2 | exact q.1.1.1.1.2 | exact q.1.1.1.1.1.2 | exact q.1.1.1.1.1.1.2 | exact q.1.1.1.1.1.1.1.2 | (replace q := q.1.1.1.1.1.1.1.1; walk_at "a") | exact q.1 | exact q.1.1 | exact q.1.1.1 | exact q.1.1.1.1 | exact q.1.1.1.1.1 | exact q.1.1.1.1.1.1 | exact q.1.1.1.1.1.1.1)
local macro_rules | `(tactic| walk_at "b") => `(tactic| (intro us hl _ _ _ _ _ _; first | (obtain ⟨a, rfl⟩ := KC hl; rfl) | (obtain ⟨a, b, rfl⟩ := IW hl; rfl) | (obtain ⟨a, b, c, rfl⟩ := CD hl; rfl) | (obtain ⟨a, b, c, d, e, rfl⟩ := OO hl; rfl)))
local macro_rules | `(tactic| walk_at "m") => `(tactic| ((· walk_at "a"); (· walk_at "b"); (· exact ‹2›); first | refine fun nd f => ⟨fun cdv A outer s H E hr hp => ?_⟩ | intro nd f A outer s H E hr hp))
local macro_rules | `(tactic| ktn_call $m $b:ident) => `(tactic| ((first | (apply C7 $m; walk_at "m") | (apply Ka $m; walk_at "m")); unfold $b; walk_at "d"))
local macro_rules | `(tactic| walk_at "t") => `(tactic| first | exact Ef | (refine Dq (MethAt.mono (by walk_at "a") (by first | decide | omega)) (by first | exact dB | walk_at "a") ?_; walk_at "t"))
section
variable{u:U}
noncomputable def Q0(u:U):Prop:=((((((((((((((((((((((((((((((((((((((((((((((((((((((((((((MC u (MC u (Zs u ["isinstance","int","bool","tuple","len","all","range","str","zip","enumerate","max","min","sorted","list","any"]) [("is_whole",top 12),("has_parts",top 13),("keys_rise",top 35),("kinds_of",top 14),("fits",top 32),("keeps",top 33),("is_row",top 34),("names_of",top 22),("place_of",top 23),("replaced",top 41),("in_key",top 40),("with_fields",top 42),("kind_at",top 39),("both_words",top 17),("both_numbers",top 16),("both",top 15),("_law_next",top 73),("_law_sorted",top 82),("_law_value",top 80),("_law_row",top 81),("_law_rows",top 83),("parts_of",top 30),("steps_of",top 70),("_law_free",top 87),("renamed",top 67),("is_behind",top 69),("same_parts",top 68),("instead",top 66),("written",top 47),("is_idle",top 65)]) [("laid_over",top 64),("thin",top 63),("thinned",top 62),("_law_in_both",top 84),("_law_sieve_kind",top 85),("_law_name",top 75),("_law_chain",top 86),("_law_right",top 88),("_law_cell_at",top 72),("_law_seed",top 74),("_law_words",top 77),("_law_twelves",top 76),("_law_leaf_kind",top 78),("_law_leaf_form",top 79)])/\cF u.K "name" ["Leaf"])/\cF u.K "name" ["Sieve"])/\cF u.K "kind" ["Sieve"])/\cF u.K "old" ["Rename"])/\cF u.K "new" ["Rename"])/\cF u.K "glass" ["Over"])/\cF u.K "step" ["Over"])/\cF u.K "one" ["Both"])/\cF u.K "other" ["Both"])/\cF u.K "pair" ["Both"])/\cF u.K "name" ["Leaf","Nest","Unnest","Part","Fuse","Sieve"])/\cF u.K "rest" ["Part","Fuse"])/\cF u.K "quotient" ["Part","Fuse"])/\cF u.K "by" ["Part","Fuse"])/\cF u.K "many" ["Nest"])/\gB u.P u.w u.K u.mg u.base 1 "Rename" ["self","old","new"] ["old","new"])/\gB u.P u.w u.K u.mg u.base 1 "Sieve" ["self","name","kind"] ["name","kind"])/\gB u.P u.w u.K u.mg u.base 1 "Over" ["self","glass","step"] ["glass","step"])/\gB u.P u.w u.K u.mg u.base 1 "Both" ["self","one","other","pair"] ["one","other","pair"])/\gB u.P u.w u.K u.mg u.base 1 "Leaf" ["self","name"] ["name"])/\DZ u.K u.mg "Step")/\eZ u.K u.mg "Over" ["Over"] ["Leaf","Both"])/\eZ u.K u.mg "Both" ["Both"] ["Leaf","Over"])/\eZ u.K u.mg "Leaf" ["Leaf"] ["Over","Both"])/\eZ u.K u.mg "Rename" ["Rename"] ["Step","Sieve"])/\eZ u.K u.mg "Sieve" ["Sieve"] ["Step","Rename"])/\eZ u.K u.mg "Part" ["Part"] ["Step","Rename","Sieve"])/\eZ u.K u.mg "Fuse" ["Fuse"] ["Step","Rename","Sieve"])/\eZ u.K u.mg "Nest" ["Nest"] ["Step","Rename","Sieve"])/\eZ u.K u.mg "Unnest" ["Unnest"] ["Step","Rename","Sieve"])/\Dm u "Glass" "seen" "Glass.seen" (inClass (top 26) 2))/\Dm u "Leaf" "seen" "Leaf.seen" (inClass (top 27) 3))/\Dm u "Rename" "got" "Step.got" (inClass (top 46) 2))/\Dm u "Step" "got" "Step.got" (inClass (top 46) 2))/\Dm u "Sieve" "got" "Sieve.got" (inClass (top 60) 3))/\Dm u "Step" "view_form" "Step.view_form" (inClass (top 46) 1))/\Dm u "Rename" "view_form" "Rename.view_form" (inClass (top 58) 2))/\Dm u "Sieve" "view_form" "Sieve.view_form" (inClass (top 60) 2))/\Dm u "Over" "seen" "Over.seen" (inClass (top 28) 3))/\Dm u "Both" "seen" "Both.seen" (inClass (top 29) 3))/\Dm u "Leaf" "got" "Glass.got" (inClass (top 26) 3))/\Dm u "Over" "got" "Glass.got" (inClass (top 26) 3))/\Dm u "Both" "got" "Glass.got" (inClass (top 26) 3))/\Dm u "Glass" "got" "Glass.got" (inClass (top 26) 3))/\Dm u "Leaf" "form" "Leaf.form" (inClass (top 27) 2))/\Dm u "Leaf" "names" "Leaf.names" (inClass (top 27) 1))/\Dm u "Over" "names" "Over.names" (inClass (top 28) 1))/\Dm u "Both" "names" "Both.names" (inClass (top 29) 1))/\Dm u "Over" "form" "Over.form" (inClass (top 28) 2))/\Dm u "Both" "form" "Both.form" (inClass (top 29) 2))/\Dm u "Rename" "exact" "Step.exact" (inClass (top 46) 4))/\Dm u "Step" "exact" "Step.exact" (inClass (top 46) 4))/\Dm u "Nest" "exact" "Step.exact" (inClass (top 46) 4))/\Dm u "Part" "exact" "Step.exact" (inClass (top 46) 4))/\Dm u "Fuse" "exact" "Step.exact" (inClass (top 46) 4))/\Dm u "Sieve" "exact" "Sieve.exact" (inClass (top 60) 5))/\Dm u "Step" "words" "Step.words" (inClass (top 46) 0))/\Dm u "Rename" "words" "Rename.words" (inClass (top 58) 1))/\Dm u "Sieve" "words" "Sieve.words" (inClass (top 60) 1))
noncomputable def Q1(u:U):Prop:=Q0 u/\Ma u 1 "Glass" "seen" ["self","forms","house"] (ai dQ 3 3)
theorem e1(q:Q0 u):Q1 u:=⟨q,(by ktn_call [] dQ)⟩
noncomputable def Q2(u:U):Prop:=Q1 u/\Ma u 1 "Leaf" "seen" ["self","forms","house"] (ai cq 3 3)
theorem e2(q:Q1 u):Q2 u:=⟨q,(by ktn_call [] cq)⟩
noncomputable def Q3(u:U):Prop:=(Q2 u/\Ma u 1 "Rename" "got" ["self","form","table"] (ai bB 3 3))/\Ma u 1 "Step" "got" ["self","form","table"] (ai bB 3 3)
theorem e3(q:Q2 u):Q3 u:=⟨⟨q,(by ktn_call [] bB)⟩,(by ktn_call [] bB)⟩
noncomputable def Q4(u:U):Prop:=Q3 u/\Ca u 1 "is_whole" ["value"] (ai hJ 1 1)
theorem e4(q:Q3 u):Q4 u:=⟨q,(by ktn_call [] hJ)⟩
noncomputable def Q5(u:U):Prop:=Q4 u/\Ca u 1 "has_parts" ["value","many"] (ai kh 2 2)
theorem e5(q:Q4 u):Q5 u:=⟨q,(by ktn_call [] kh)⟩
noncomputable def Q6(u:U):Prop:=Q5 u/\Ca u 1 "keys_rise" ["many","table"] (ai jY 2 3)
theorem e6(q:Q5 u):Q6 u:=⟨q,(by ktn_call ["keys"] jY)⟩
noncomputable def Q7(u:U):Prop:=Q6 u/\Ca u 1 "kinds_of" ["form"] (ai mx 1 1)
theorem e7(q:Q6 u):Q7 u:=⟨q,(by ktn_call [] mx)⟩
theorem mS(q:Q7 u):∀n:Nat,Ca u (1+n) "fits" ["kind","value"] (cH n)/\Ca u (1+n) "keeps" ["form","table"] (cJ n)/\Ca u (1+n) "is_row" ["kinds","row"] (ce n)
 |0=>by
  rw[cH];rw[cJ];rw[ce];exact⟨D8 (by walk_at "a") (by walk_at "b"),D8 (by walk_at "a") (by walk_at "b"),D8 (by walk_at "a") (by walk_at "b")⟩
 |n+1=>by
  have ih:=mS q n;have c0:=ih.1;have c1:=ih.2.1;have c2:=ih.2.2;have a0:=sM n;have a1:=rq n;have a2:=pD n;rw[ip];rw[mM];rw[lZ];refine⟨?_,?_,?_⟩
  ·apply C7 (k:=1+n) [];walk_at "m";unfold qj;walk_at "d"
  ·apply C7 (k:=1+n) ["kinds"];walk_at "m";unfold uL;walk_at "d"
  ·apply C7 (k:=1+n) [];walk_at "m";unfold qM;walk_at "d"
noncomputable def Q8(u:U):Prop:=(((((Q7 u/\Ca u (16) "fits" ["kind","value"] (cH 15))/\Ca u (16) "keeps" ["form","table"] (cJ 15))/\Ca u (16) "is_row" ["kinds","row"] (ce 15))/\Ar 2 (cH 15))/\Ar 2 (cJ 15))/\Ar 2 (ce 15)
theorem e8(q:Q7 u):Q8 u:=⟨⟨⟨⟨⟨⟨q,(mS q 15).1⟩,(mS q 15).2.1⟩,(mS q 15).2.2⟩,sM 15⟩,rq 15⟩,pD 15⟩
noncomputable def Q9(u:U):Prop:=Q8 u/\Ca u 1 "names_of" ["form"] (ai eJ 1 1)
theorem e9(q:Q8 u):Q9 u:=⟨q,(by ktn_call [] eJ)⟩
noncomputable def NU(u:U):Prop:=Q9 u/\Ca u 2 "place_of" ["form","name"] (ai cx 2 4)
theorem e10(q:Q9 u):NU u:=⟨q,(by ktn_call ["place","other"] cx)⟩
noncomputable def Nc(u:U):Prop:=NU u/\Ma u 17 "Sieve" "got" ["self","form","table"] (ai cB 3 4)
theorem Nb(q:NU u):Nc u:=⟨q,(by ktn_call ["place"] cB)⟩
noncomputable def MT(u:U):Prop:=Nc u/\Ma u 1 "Step" "view_form" ["self","form"] (ai bg 2 2)
theorem Qx(q:Nc u):MT u:=⟨q,(by ktn_call [] bg)⟩
noncomputable def NK(u:U):Prop:=MT u/\Ca u 1 "replaced" ["values","place","others"] (ai fX 3 3)
theorem Qg(q:MT u):NK u:=⟨q,(by ktn_call [] fX)⟩
noncomputable def OT(u:U):Prop:=NK u/\Ca u 1 "in_key" ["form","place"] (ai jV 2 2)
theorem QK(q:NK u):OT u:=⟨q,(by ktn_call [] jV)⟩
noncomputable def MX(u:U):Prop:=OT u/\Ca u 2 "with_fields" ["form","place","fields"] (ai cp 3 3)
theorem Qt(q:OT u):MX u:=⟨q,(by ktn_call [] cp)⟩
noncomputable def MS(u:U):Prop:=MX u/\Ca u 1 "kind_at" ["form","place"] (ai eM 2 2)
theorem Qw(q:MX u):MS u:=⟨q,(by ktn_call [] eM)⟩
noncomputable def Ox(u:U):Prop:=MS u/\Ma u 3 "Rename" "view_form" ["self","form"] (ai aQ 2 3)
theorem QO(q:MS u):Ox u:=⟨q,(by ktn_call ["place"] aQ)⟩
noncomputable def ND(u:U):Prop:=Ox u/\Ca u 1 "both_words" ["one","other"] (ai eT 2 3)
theorem Rb(q:Ox u):ND u:=⟨q,(by ktn_call ["words"] eT)⟩
noncomputable def NS(u:U):Prop:=ND u/\Ca u 1 "both_numbers" ["one","other"] (ai dM 2 4)
theorem Qs(q:ND u):NS u:=⟨q,(by ktn_call ["low","high"] dM)⟩
noncomputable def O7(u:U):Prop:=NS u/\Ca u 2 "both" ["one","other"] (ai iG 2 2)
theorem e20(q:NS u):O7 u:=⟨q,(by ktn_call [] iG)⟩
noncomputable def N6(u:U):Prop:=O7 u/\Ma u 3 "Sieve" "view_form" ["self","form"] (ai aU 2 5)
theorem P4(q:O7 u):N6 u:=⟨q,(by ktn_call ["place","kind","shown"] aU)⟩
noncomputable def O3(u:U):Prop:=N6 u/\Ta u 17 "got" ["self","form","table"] [("Step",(ai bB 3 3)),("Rename",(ai bB 3 3)),("Sieve",(ai cB 3 4))]
theorem QI(q:N6 u):O3 u:=⟨q,(by walk_at "t")⟩
noncomputable def Mh(u:U):Prop:=O3 u/\Ta u 3 "view_form" ["self","form"] [("Step",(ai bg 2 2)),("Rename",(ai aQ 2 3)),("Sieve",(ai aU 2 5))]
theorem QM(q:O3 u):Mh u:=⟨q,(by walk_at "t")⟩
theorem iI(q:Mh u):∀n:Nat,Ma u (17+n) "Over" "seen" ["self","forms","house"] (aL n)/\Ma u (17+n) "Both" "seen" ["self","forms","house"] (aP n)
 |0=>by
  rw[aL];rw[aP];exact⟨Ad (by walk_at "a") (by walk_at "b"),Ad (by walk_at "a") (by walk_at "b")⟩
 |n+1=>by
  have ih:=iI q n;have c0:=ih.1;have c1:=ih.2;have a0:=j5 n;have a1:=kA n;have t0:Ta u (17+n) "seen" ["self","forms","house"] [("Leaf",(ai cq 3 3)),("Over",aL n),("Both",aP n)]:=by walk_at "t"
  rw[fP];rw[iU];refine⟨?_,?_⟩
  ·apply Ka (k:=17+n) ["beneath"];walk_at "m";unfold iq;walk_at "d"
  ·apply Ka (k:=17+n) ["first","second","view_form"];walk_at "m";unfold ko;walk_at "d"
noncomputable def OC(u:U):Prop:=(((Mh u/\Ma u (32) "Over" "seen" ["self","forms","house"] (aL 15))/\Ma u (32) "Both" "seen" ["self","forms","house"] (aP 15))/\Ar 3 (aL 15))/\Ar 3 (aP 15)
theorem Rh(q:Mh u):OC u:=⟨⟨⟨⟨q,(iI q 15).1⟩,(iI q 15).2⟩,j5 15⟩,kA 15⟩
noncomputable def Oh(u:U):Prop:=OC u/\Ta u 32 "seen" ["self","forms","house"] [("Glass",(ai dQ 3 3)),("Leaf",(ai cq 3 3)),("Over",(aL 15)),("Both",(aP 15))]
theorem QA(q:OC u):Oh u:=⟨q,(by walk_at "t")⟩
noncomputable def Nh(u:U):Prop:=(((Oh u/\Ma u 33 "Leaf" "got" ["self","forms","house"] (ai ax 3 3))/\Ma u 33 "Over" "got" ["self","forms","house"] (ai ax 3 3))/\Ma u 33 "Both" "got" ["self","forms","house"] (ai ax 3 3))/\Ma u 33 "Glass" "got" ["self","forms","house"] (ai ax 3 3)
theorem Qz(q:Oh u):Nh u:=⟨⟨⟨⟨q,(by ktn_call [] ax)⟩,(by ktn_call [] ax)⟩,(by ktn_call [] ax)⟩,(by ktn_call [] ax)⟩
noncomputable def MZ(u:U):Prop:=Nh u/\Ca u 1 "_law_next" ["_law_x"] (ai bK 1 1)
theorem Ql(q:Nh u):MZ u:=⟨q,(by ktn_call [] bK)⟩
noncomputable def Mz(u:U):Prop:=MZ u/\Ca u 1 "_law_sorted" ["_law_many","_law_rows_here"] (ai d7 2 4)
theorem P5(q:MZ u):Mz u:=⟨q,(by ktn_call ["_law_found","_law_row_here"] d7)⟩
theorem eY(q:Mz u):∀n:Nat,Ca u (1+n) "_law_value" ["_law_kind","_law_x"] (aE n)/\Ca u (1+n) "_law_row" ["_law_form","_law_x"] (aX n)/\Ca u (1+n) "_law_rows" ["_law_form","_law_x","_law_many"] (aN n)
 |0=>by
  rw[aE];rw[aX];rw[aN];exact⟨D8 (by walk_at "a") (by walk_at "b"),D8 (by walk_at "a") (by walk_at "b"),D8 (by walk_at "a") (by walk_at "b")⟩
 |n+1=>by
  have ih:=eY q n;have c0:=ih.1;have c1:=ih.2.1;have c2:=ih.2.2;have a0:=jM n;have a1:=mj n;have a2:=ki n;rw[dF];rw[gC];rw[fT];refine⟨?_,?_,?_⟩
  ·apply C7 (k:=1+n) [];walk_at "m";unfold fe;walk_at "d"
  ·apply C7 (k:=1+n) ["_law_row_here","_law_name_here","_law_kind"];walk_at "m";unfold jB;walk_at "d"
  ·apply C7 (k:=1+n) ["_law_rows_here","_law_k"];walk_at "m";unfold iD;walk_at "d"
noncomputable def Oa(u:U):Prop:=(((((Mz u/\Ca u (16) "_law_value" ["_law_kind","_law_x"] (aE 15))/\Ca u (16) "_law_row" ["_law_form","_law_x"] (aX 15))/\Ca u (16) "_law_rows" ["_law_form","_law_x","_law_many"] (aN 15))/\Ar 2 (aE 15))/\Ar 2 (aX 15))/\Ar 3 (aN 15)
theorem QB(q:Mz u):Oa u:=⟨⟨⟨⟨⟨⟨q,(eY q 15).1⟩,(eY q 15).2.1⟩,(eY q 15).2.2⟩,jM 15⟩,mj 15⟩,ki 15⟩
noncomputable def OS(u:U):Prop:=Oa u/\Ma u 1 "Leaf" "form" ["self","forms"] (ai bz 2 2)
theorem QF(q:Oa u):OS u:=⟨q,(by ktn_call [] bz)⟩
noncomputable def Mv(u:U):Prop:=OS u/\Ma u 1 "Leaf" "names" ["self"] (ai cz 1 1)
theorem PX(q:OS u):Mv u:=⟨q,(by ktn_call [] cz)⟩
theorem hV(q:Mv u):∀n:Nat,Ma u (1+n) "Over" "names" ["self"] (aJ n)/\Ma u (1+n) "Both" "names" ["self"] (aI n)
 |0=>by
  rw[aJ];rw[aI];exact⟨Ad (by walk_at "a") (by walk_at "b"),Ad (by walk_at "a") (by walk_at "b")⟩
 |n+1=>by
  have ih:=hV q n;have c0:=ih.1;have c1:=ih.2;have a0:=jL n;have a1:=jN n;have t0:Ta u (1+n) "names" ["self"] [("Leaf",(ai cz 1 1)),("Over",aJ n),("Both",aI n)]:=by walk_at "t"
  rw[ik];rw[iC];refine⟨?_,?_⟩
  ·apply Ka (k:=1+n) [];walk_at "m";unfold jE;walk_at "d"
  ·apply Ka (k:=1+n) [];walk_at "m";unfold ju;walk_at "d"
noncomputable def Nr(u:U):Prop:=(((Mv u/\Ma u (16) "Over" "names" ["self"] (aJ 15))/\Ma u (16) "Both" "names" ["self"] (aI 15))/\Ar 1 (aJ 15))/\Ar 1 (aI 15)
theorem Qj(q:Mv u):Nr u:=⟨⟨⟨⟨q,(hV q 15).1⟩,(hV q 15).2⟩,jL 15⟩,jN 15⟩
noncomputable def MA(u:U):Prop:=Nr u/\Ta u 16 "names" ["self"] [("Leaf",(ai cz 1 1)),("Over",(aJ 15)),("Both",(aI 15))]
theorem Rl(q:Nr u):MA u:=⟨q,(by walk_at "t")⟩
theorem iJ(q:MA u):∀n:Nat,Ma u (16+n) "Over" "form" ["self","forms"] (ay n)/\Ma u (16+n) "Both" "form" ["self","forms"] (az n)
 |0=>by
  rw[ay];rw[az];exact⟨Ad (by walk_at "a") (by walk_at "b"),Ad (by walk_at "a") (by walk_at "b")⟩
 |n+1=>by
  have ih:=iJ q n;have c0:=ih.1;have c1:=ih.2;have a0:=jX n;have a1:=j8 n;have t0:Ta u (16+n) "form" ["self","forms"] [("Leaf",(ai bz 2 2)),("Over",ay n),("Both",az n)]:=by walk_at "t"
  rw[fw];rw[iP];refine⟨?_,?_⟩
  ·apply Ka (k:=16+n) [];walk_at "m";unfold iB;walk_at "d"
  ·apply Ka (k:=16+n) ["first","second","names"];walk_at "m";unfold ky;walk_at "d"
noncomputable def MK(u:U):Prop:=(((MA u/\Ma u (31) "Over" "form" ["self","forms"] (ay 15))/\Ma u (31) "Both" "form" ["self","forms"] (az 15))/\Ar 2 (ay 15))/\Ar 2 (az 15)
theorem QN(q:MA u):MK u:=⟨⟨⟨⟨q,(iJ q 15).1⟩,(iJ q 15).2⟩,jX 15⟩,j8 15⟩
theorem mN(q:MK u):∀n:Nat,Ca u (0+n) "parts_of" ["glass"] (bA n)
 |0=>by
  rw[bA];exact D8 (by walk_at "a") (by walk_at "b")
 |n+1=>by
  have ih:=mN q n;have c0:=ih;have a0:=lO n;rw[eA];apply C7 (k:=0+n) [];walk_at "m";unfold gY;walk_at "d"
noncomputable def MO(u:U):Prop:=(MK u/\Ca u (15) "parts_of" ["glass"] (bA 15))/\Ar 1 (bA 15)
theorem P6(q:MK u):MO u:=⟨⟨q,(mN q 15)⟩,lO 15⟩
noncomputable def Nn(u:U):Prop:=MO u/\Ca u 16 "steps_of" ["glass"] (ai fK 1 1)
theorem Qr(q:MO u):Nn u:=⟨q,(by ktn_call [] fK)⟩
noncomputable def ML(u:U):Prop:=Nn u/\Ta u 31 "form" ["self","forms"] [("Leaf",(ai bz 2 2)),("Over",(ay 15)),("Both",(az 15))]
theorem Rf(q:Nn u):ML u:=⟨q,(by walk_at "t")⟩
theorem lV(q:ML u):∀n:Nat,Ca u (31+n) "_law_free" ["_law_found","_law_forms"] (bp n)
 |0=>by
  rw[bp];exact D8 (by walk_at "a") (by walk_at "b")
 |n+1=>by
  have ih:=lV q n;have c0:=ih;have a0:=kE n;rw[dR];apply C7 (k:=31+n) ["_law_step","_law_form","_law_low"];walk_at "m";unfold gh;walk_at "d"
noncomputable def OH(u:U):Prop:=(ML u/\Ca u (46) "_law_free" ["_law_found","_law_forms"] (bp 15))/\Ar 2 (bp 15)
theorem Qi(q:ML u):OH u:=⟨⟨q,(lV q 15)⟩,kE 15⟩
noncomputable def MP(u:U):Prop:=OH u/\Ca u 3 "renamed" ["old","new"] (ai fN 2 2)
theorem P8(q:OH u):MP u:=⟨q,(by ktn_call [] fN)⟩
noncomputable def N9(u:U):Prop:=((((MP u/\Ma u 1 "Rename" "exact" ["self","form"] (ai aR 2 2))/\Ma u 1 "Step" "exact" ["self","form"] (ai aR 2 2))/\Ma u 1 "Nest" "exact" ["self","form"] (ai aR 2 2))/\Ma u 1 "Part" "exact" ["self","form"] (ai aR 2 2))/\Ma u 1 "Fuse" "exact" ["self","form"] (ai aR 2 2)
theorem Rg(q:MP u):N9 u:=⟨⟨⟨⟨⟨q,(by ktn_call [] aR)⟩,(by ktn_call [] aR)⟩,(by ktn_call [] aR)⟩,(by ktn_call [] aR)⟩,(by ktn_call [] aR)⟩
noncomputable def Oy(u:U):Prop:=N9 u/\Ma u 3 "Sieve" "exact" ["self","form"] (ai bV 2 3)
theorem QE(q:N9 u):Oy u:=⟨q,(by ktn_call ["kind"] bV)⟩
noncomputable def Nu(u:U):Prop:=Oy u/\Ca u 3 "is_behind" ["form","fuse"] (ai j6 2 2)
theorem QZ(q:Oy u):Nu u:=⟨q,(by ktn_call [] j6)⟩
noncomputable def Pg(u:U):Prop:=Nu u/\Ca u 1 "same_parts" ["one","other"] (ai gO 2 2)
theorem Qf(q:Nu u):Pg u:=⟨q,(by ktn_call [] gO)⟩
noncomputable def NF(u:U):Prop:=Pg u/\Ta u 3 "exact" ["self","form"] [("Step",(ai aR 2 2)),("Rename",(ai aR 2 2)),("Sieve",(ai bV 2 3))]
theorem Qo(q:Pg u):NF u:=⟨q,(by walk_at "t")⟩
noncomputable def Oc(u:U):Prop:=NF u/\Ca u 4 "instead" ["form","lower","upper"] (ai bD 3 3)
theorem PN(q:NF u):Oc u:=⟨q,(by ktn_call [] bD)⟩
noncomputable def M4(u:U):Prop:=Oc u/\Ma u 1 "Step" "words" ["self"] (ai cO 1 1)
theorem OG(q:Oc u):M4 u:=⟨q,(by ktn_call [] cO)⟩
noncomputable def Oz(u:U):Prop:=M4 u/\Ma u 1 "Rename" "words" ["self"] (ai cI 1 1)
theorem Qc(q:M4 u):Oz u:=⟨q,(by ktn_call [] cI)⟩
noncomputable def MV(u:U):Prop:=Oz u/\Ca u 1 "written" ["value"] (ai cV 1 1)
theorem QY(q:Oz u):MV u:=⟨q,(by ktn_call [] cV)⟩
noncomputable def Nz(u:U):Prop:=MV u/\Ma u 2 "Sieve" "words" ["self"] (ai bU 1 1)
theorem PR(q:MV u):Nz u:=⟨q,(by ktn_call [] bU)⟩
noncomputable def O5(u:U):Prop:=Nz u/\Ta u 2 "words" ["self"] [("Step",(ai cO 1 1)),("Rename",(ai cI 1 1)),("Sieve",(ai bU 1 1))]
theorem Qe(q:Nz u):O5 u:=⟨q,(by walk_at "t")⟩
noncomputable def MG(u:U):Prop:=O5 u/\Ca u 4 "is_idle" ["form","step"] (ai bL 2 2)
theorem P9(q:O5 u):MG u:=⟨q,(by ktn_call [] bL)⟩
theorem md(q:MG u):∀n:Nat,Ca u (31+n) "laid_over" ["forms","glass","step"] (aO n)
 |0=>by
  rw[aO];exact D8 (by walk_at "a") (by walk_at "b")
 |n+1=>by
  have ih:=md q n;have c0:=ih;have a0:=j4 n;rw[ck];apply C7 (k:=31+n) ["steps"];walk_at "m";unfold de;walk_at "d"
noncomputable def MF(u:U):Prop:=(MG u/\Ca u (46) "laid_over" ["forms","glass","step"] (aO 15))/\Ar 3 (aO 15)
theorem Qm(q:MG u):MF u:=⟨⟨q,(md q 15)⟩,j4 15⟩
theorem vo(q:MF u):∀n:Nat,Ca u (46+n) "thin" ["forms","glass"] (cT n)
 |0=>by
  rw[cT];exact D8 (by walk_at "a") (by walk_at "b")
 |n+1=>by
  have ih:=vo q n;have c0:=ih;have a0:=sX n;rw[iw];apply C7 (k:=46+n) [];walk_at "m";unfold qp;walk_at "d"
noncomputable def NP(u:U):Prop:=(MF u/\Ca u (61) "thin" ["forms","glass"] (cT 15))/\Ar 2 (cT 15)
theorem PQ(q:MF u):NP u:=⟨⟨q,(vo q 15)⟩,sX 15⟩
noncomputable def Ny(u:U):Prop:=NP u/\Ca u 62 "thinned" ["forms","glass"] (ai gW 2 2)
theorem QG(q:NP u):Ny u:=⟨q,(by ktn_call [] gW)⟩
noncomputable def NV(u:U):Prop:=Ny u/\Ca u 1 "_law_in_both" ["_law_one","_law_other"] (ai bM 2 2)
theorem QQ(q:Ny u):NV u:=⟨q,(by ktn_call [] bM)⟩
noncomputable def M7(u:U):Prop:=NV u/\Ca u 1 "_law_sieve_kind" ["_law_kind","_law_x"] (ai aV 2 4)
theorem QS(q:NV u):M7 u:=⟨q,(by ktn_call ["_law_half","_law_some"] aV)⟩
noncomputable def Nx(u:U):Prop:=M7 u/\Ca u 1 "_law_name" ["_law_base","_law_k"] (ai bJ 2 7)
theorem Qq(q:M7 u):Nx u:=⟨q,(by ktn_call ["_law_letters","_law_size","_law_name_here","_law_j","_law_step"] bJ)⟩
noncomputable def Ow(u:U):Prop:=Nx u/\Ca u 3 "_law_chain" ["_law_fields","_law_base","_law_seeds"] (ai dh 3 11)
theorem QU(q:Nx u):Ow u:=⟨q,(by ktn_call ["_law_steps","_law_at","_law_old","_law_x","_law_name_here","_law_kind","_law_names","_law_new"] dh)⟩
noncomputable def MY(u:U):Prop:=Ow u/\Ta u 33 "got" ["self","forms","house"] [("Leaf",(ai ax 3 3)),("Over",(ai ax 3 3)),("Both",(ai ax 3 3))]
theorem PV(q:Ow u):MY u:=⟨q,(by walk_at "t")⟩
noncomputable def O9(u:U):Prop:=MY u/\Ca u 63 "_law_right" ["_law_form","_law_name_here","_law_base","_law_seeds","_law_x"] (ai dS 5 13)
theorem OY(q:MY u):O9 u:=⟨q,(by ktn_call ["_law_steps","_law_fields","_law_glass","_law_step","_law_forms","_law_found","_law_told","_law_house"] dS)⟩
noncomputable def Oi(u:U):Prop:=O9 u/\Ca u 1 "_law_cell_at" ["_law_script","_law_k"] (ai cU 2 2)
theorem QP(q:O9 u):Oi u:=⟨q,(by ktn_call [] cU)⟩
noncomputable def N2(u:U):Prop:=Oi u/\Ca u 2 "_law_seed" ["_law_script","_law_k"] (ai bZ 2 3)
theorem Qu(q:Oi u):N2 u:=⟨q,(by ktn_call ["_law_x"] bZ)⟩
noncomputable def NM(u:U):Prop:=N2 u/\Ca u 1 "_law_words" ["_law_x"] (ai dN 1 7)
theorem Qv(q:N2 u):NM u:=⟨q,(by ktn_call ["_law_letters","_law_one","_law_other","_law_kept","_law_k","_law_word"] dN)⟩
noncomputable def N0(u:U):Prop:=NM u/\Ca u 1 "_law_twelves" ["_law_x"] (ai dI 1 2)
theorem Ra(q:NM u):N0 u:=⟨q,(by ktn_call ["_law_low"] dI)⟩
noncomputable def Ou(u:U):Prop:=N0 u/\Ca u 2 "_law_leaf_kind" ["_law_x"] (ai bI 1 1)
theorem M3(q:N0 u):Ou u:=⟨q,(by ktn_call [] bI)⟩
noncomputable def Ph(u:U):Prop:=Ou u/\Ca u 3 "_law_leaf_form" ["_law_x","_law_base","_law_start","_law_many","_law_more"] (ai cg 5 7)
theorem QV(q:Ou u):Ph u:=⟨q,(by ktn_call ["_law_fields","_law_k"] cg)⟩
theorem LN{f:Vj}{fd:VY}(F:t6 u.K "law" "law" (top 89) f fd)(q:Ph u):ig u.P u.w u.K u.mg u.base (nK u.P u.w) 64 f fd ["_law_script"] (yN u.K 1 (ai pf 1 7)):=by
 refine QT ["_law_base","_law_x","_law_form","_law_name_here","_law_cells","_law_k"] F ?_ ?_
 ·exact‹2›
 refine λnd=>⟨λcdv A outer s H E hr hp=>?_⟩
 unfold pf;walk_at "d"
set_option hygiene true
variable{P:Vo}{w:Vn}{K:Ug}{mg:cN}{base:Vq}
theorem vK{C f:Vj}{fd:VY}(h1:clsAt K "Rename" C)(hM:Mk K C f)(cl:mG K C)(na:∀g∈(["old","new"]:av),fD K C g)(F:t6 K "__init__" "Rename.__init__" iu f fd)(b:Binds K fd ["self","old","new"] [])(hmg:mg "Rename"=some (.ref C)):gB P w K mg base 1 "Rename" ["self","old","new"] ["old","new"]:=
 jc (k:=0) h1 hM cl na F b hmg mB rfl (by decide +kernel) (by decide) λcdv A outer s H E=>(gZ rfl (pv 0) (pv 1) rfl (iR rfl (pv 0) (pv 2) rfl))
theorem wF{C f:Vj}{fd:VY}(h1:clsAt K "Sieve" C)(hM:Mk K C f)(cl:mG K C)(na:∀g∈(["name","kind"]:av),fD K C g)(F:t6 K "__init__" "Sieve.__init__" jr f fd)(b:Binds K fd ["self","name","kind"] [])(hmg:mg "Sieve"=some (.ref C)):gB P w K mg base 1 "Sieve" ["self","name","kind"] ["name","kind"]:=
 jc (k:=0) h1 hM cl na F b hmg mQ rfl (by decide +kernel) (by decide) λcdv A outer s H E=>(gZ rfl (pv 0) (pv 1) rfl (iR rfl (pv 0) (pv 2) rfl))
theorem zh{C f:Vj}{fd:VY}(h1:clsAt K "Over" C)(hM:Mk K C f)(cl:mG K C)(na:∀g∈(["glass","step"]:av),fD K C g)(F:t6 K "__init__" "Over.__init__" jJ f fd)(b:Binds K fd ["self","glass","step"] [])(hmg:mg "Over"=some (.ref C)):gB P w K mg base 1 "Over" ["self","glass","step"] ["glass","step"]:=
 jc (k:=0) h1 hM cl na F b hmg oq rfl (by decide +kernel) (by decide) λcdv A outer s H E=>(gZ rfl (pv 0) (pv 1) rfl (iR rfl (pv 0) (pv 2) rfl))
theorem Aa{C f:Vj}{fd:VY}(h1:clsAt K "Both" C)(hM:Mk K C f)(cl:mG K C)(na:∀g∈(["one","other","pair"]:av),fD K C g)(F:t6 K "__init__" "Both.__init__" jP f fd)(b:Binds K fd ["self","one","other","pair"] [])(hmg:mg "Both"=some (.ref C)):gB P w K mg base 1 "Both" ["self","one","other","pair"] ["one","other","pair"]:=
 jc (k:=0) h1 hM cl na F b hmg nZ rfl (by decide +kernel) (by decide) λcdv A outer s H E=>(gZ rfl (pv 0) (pv 1) rfl (gZ rfl (pv 0) (pv 2) rfl (iR rfl (pv 0) (pv 3) rfl)))
theorem zN{C f:Vj}{fd:VY}(h1:clsAt K "Leaf" C)(hM:Mk K C f)(cl:mG K C)(na:∀g∈(["name"]:av),fD K C g)(F:t6 K "__init__" "Leaf.__init__" jK f fd)(b:Binds K fd ["self","name"] [])(hmg:mg "Leaf"=some (.ref C)):gB P w K mg base 1 "Leaf" ["self","name"] ["name"]:=
 jc (k:=0) h1 hM cl na F b hmg oP rfl (by decide +kernel) (by decide) λcdv A outer s H E=>(iR rfl (pv 0) (pv 1) rfl)
end
theorem all_mk{l:UH}{w:Vn}{K:Ug}{h:Vq}{mg:cN}{fa:Vj}(X:K.In h)(G:h.Ns Vs mg)(hfa:mg "law"=some (.ref fa)){f1 f2:Vj}
  (ac0:UI K Vs "Leaf"=some (some (.ref Cl0)))
  (ac1:UI K Vs "Sieve"=some (some (.ref Cl1)))
  (ac2:UI K Vs "Rename"=some (some (.ref Cl2)))
  (ac3:UI K Vs "Over"=some (some (.ref Cl3)))
  (ac4:UI K Vs "Both"=some (some (.ref Cl4)))
  (ac5:UI K Vs "Step"=some (some (.ref Cl5)))
  (ac6:UI K Vs "Glass"=some (some (.ref Cl6)))
  (ac7:UI K Vs "Nest"=some (some (.ref Cl7)))
  (ac8:UI K Vs "Unnest"=some (some (.ref Cl8)))
  (ac9:UI K Vs "Part"=some (some (.ref Cl9)))
  (ac10:UI K Vs "Fuse"=some (some (.ref Cl10)))
  (a0:Uk K (.ref Cl6) "seen"=some (some (.ref f0)))
  (i0:Uo K (.ref f0)=true)
  (l0:Lk K f0 "seen" "Glass.seen" (inClass (top 26) 2) oc0 od0 kV0 dc0 pm0 an0 cd0 ct0 sl0)
  (c0:UG K cd0 "Glass.seen"=true)
  (k0:UB K (.ref f0)=true)
  (a1:Uk K (.ref Cl0) "seen"=some (some (.ref f1)))
  (i1:Uo K (.ref f1)=true)
  (l1:Lk K f1 "seen" "Leaf.seen" (inClass (top 27) 3) oc1 od1 kV1 dc1 pm1 an1 cd1 ct1 sl1)
  (c1:UG K cd1 "Leaf.seen"=true)
  (k1:UB K (.ref f1)=true)
  (a2:Uk K (.ref Cl2) "got"=some (some (.ref f2)))
  (a2_5:Uk K (.ref Cl5) "got"=some (some (.ref f2)))
  (i2:Uo K (.ref f2)=true)
  (l2:Lk K f2 "got" "Step.got" (inClass (top 46) 2) oc2 od2 kV2 dc2 pm2 an2 cd2 ct2 sl2)
  (c2:UG K cd2 "Step.got"=true)
  (k2:UB K (.ref f2)=true)
  (a3:Uk K (.ref Cl1) "got"=some (some (.ref f3)))
  (i3:Uo K (.ref f3)=true)
  (l3:Lk K f3 "got" "Sieve.got" (inClass (top 60) 3) oc3 od3 kV3 dc3 pm3 an3 cd3 ct3 sl3)
  (c3:UG K cd3 "Sieve.got"=true)
  (k3:UB K (.ref f3)=true)
  (a4:Uk K (.ref Cl5) "view_form"=some (some (.ref f4)))
  (i4:Uo K (.ref f4)=true)
  (l4:Lk K f4 "view_form" "Step.view_form" (inClass (top 46) 1) oc4 od4 kV4 dc4 pm4 an4 cd4 ct4 sl4)
  (c4:UG K cd4 "Step.view_form"=true)
  (k4:UB K (.ref f4)=true)
  (a5:Uk K (.ref Cl2) "view_form"=some (some (.ref f5)))
  (i5:Uo K (.ref f5)=true)
  (l5:Lk K f5 "view_form" "Rename.view_form" (inClass (top 58) 2) oc5 od5 kV5 dc5 pm5 an5 cd5 ct5 sl5)
  (c5:UG K cd5 "Rename.view_form"=true)
  (k5:UB K (.ref f5)=true)
  (a6:Uk K (.ref Cl1) "view_form"=some (some (.ref f6)))
  (i6:Uo K (.ref f6)=true)
  (l6:Lk K f6 "view_form" "Sieve.view_form" (inClass (top 60) 2) oc6 od6 kV6 dc6 pm6 an6 cd6 ct6 sl6)
  (c6:UG K cd6 "Sieve.view_form"=true)
  (k6:UB K (.ref f6)=true)
  (a7:Uk K (.ref Cl3) "seen"=some (some (.ref f7)))
  (i7:Uo K (.ref f7)=true)
  (l7:Lk K f7 "seen" "Over.seen" (inClass (top 28) 3) oc7 od7 kV7 dc7 pm7 an7 cd7 ct7 sl7)
  (c7:UG K cd7 "Over.seen"=true)
  (k7:UB K (.ref f7)=true)
  (a8:Uk K (.ref Cl4) "seen"=some (some (.ref f8)))
  (i8:Uo K (.ref f8)=true)
  (l8:Lk K f8 "seen" "Both.seen" (inClass (top 29) 3) oc8 od8 kV8 dc8 pm8 an8 cd8 ct8 sl8)
  (c8:UG K cd8 "Both.seen"=true)
  (k8:UB K (.ref f8)=true)
  (a9:Uk K (.ref Cl0) "got"=some (some (.ref f9)))
  (a9_3:Uk K (.ref Cl3) "got"=some (some (.ref f9)))
  (a9_4:Uk K (.ref Cl4) "got"=some (some (.ref f9)))
  (a9_6:Uk K (.ref Cl6) "got"=some (some (.ref f9)))
  (i9:Uo K (.ref f9)=true)
  (l9:Lk K f9 "got" "Glass.got" (inClass (top 26) 3) oc9 od9 kV9 dc9 pm9 an9 cd9 ct9 sl9)
  (c9:UG K cd9 "Glass.got"=true)
  (k9:UB K (.ref f9)=true)
  (a10:Uk K (.ref Cl0) "form"=some (some (.ref f10)))
  (i10:Uo K (.ref f10)=true)
  (l10:Lk K f10 "form" "Leaf.form" (inClass (top 27) 2) oc10 od10 kV10 dc10 pm10 an10 cd10 ct10 sl10)
  (c10:UG K cd10 "Leaf.form"=true)
  (k10:UB K (.ref f10)=true)
  (a11:Uk K (.ref Cl0) "names"=some (some (.ref f11)))
  (i11:Uo K (.ref f11)=true)
  (l11:Lk K f11 "names" "Leaf.names" (inClass (top 27) 1) oc11 od11 kV11 dc11 pm11 an11 cd11 ct11 sl11)
  (c11:UG K cd11 "Leaf.names"=true)
  (k11:UB K (.ref f11)=true)
  (a12:Uk K (.ref Cl3) "names"=some (some (.ref f12)))
  (i12:Uo K (.ref f12)=true)
  (l12:Lk K f12 "names" "Over.names" (inClass (top 28) 1) oc12 od12 kV12 dc12 pm12 an12 cd12 ct12 sl12)
  (c12:UG K cd12 "Over.names"=true)
  (k12:UB K (.ref f12)=true)
  (a13:Uk K (.ref Cl4) "names"=some (some (.ref f13)))
  (i13:Uo K (.ref f13)=true)
  (l13:Lk K f13 "names" "Both.names" (inClass (top 29) 1) oc13 od13 kV13 dc13 pm13 an13 cd13 ct13 sl13)
  (c13:UG K cd13 "Both.names"=true)
  (k13:UB K (.ref f13)=true)
  (a14:Uk K (.ref Cl3) "form"=some (some (.ref f14)))
  (i14:Uo K (.ref f14)=true)
  (l14:Lk K f14 "form" "Over.form" (inClass (top 28) 2) oc14 od14 kV14 dc14 pm14 an14 cd14 ct14 sl14)
  (c14:UG K cd14 "Over.form"=true)
  (k14:UB K (.ref f14)=true)
  (a15:Uk K (.ref Cl4) "form"=some (some (.ref f15)))
  (i15:Uo K (.ref f15)=true)
  (l15:Lk K f15 "form" "Both.form" (inClass (top 29) 2) oc15 od15 kV15 dc15 pm15 an15 cd15 ct15 sl15)
  (c15:UG K cd15 "Both.form"=true)
  (k15:UB K (.ref f15)=true)
  (a16:Uk K (.ref Cl2) "exact"=some (some (.ref f16)))
  (a16_5:Uk K (.ref Cl5) "exact"=some (some (.ref f16)))
  (a16_7:Uk K (.ref Cl7) "exact"=some (some (.ref f16)))
  (a16_9:Uk K (.ref Cl9) "exact"=some (some (.ref f16)))
  (a16_10:Uk K (.ref Cl10) "exact"=some (some (.ref f16)))
  (i16:Uo K (.ref f16)=true)
  (l16:Lk K f16 "exact" "Step.exact" (inClass (top 46) 4) oc16 od16 kV16 dc16 pm16 an16 cd16 ct16 sl16)
  (c16:UG K cd16 "Step.exact"=true)
  (k16:UB K (.ref f16)=true)
  (a17:Uk K (.ref Cl1) "exact"=some (some (.ref f17)))
  (i17:Uo K (.ref f17)=true)
  (l17:Lk K f17 "exact" "Sieve.exact" (inClass (top 60) 5) oc17 od17 kV17 dc17 pm17 an17 cd17 ct17 sl17)
  (c17:UG K cd17 "Sieve.exact"=true)
  (k17:UB K (.ref f17)=true)
  (a18:Uk K (.ref Cl5) "words"=some (some (.ref f18)))
  (i18:Uo K (.ref f18)=true)
  (l18:Lk K f18 "words" "Step.words" (inClass (top 46) 0) oc18 od18 kV18 dc18 pm18 an18 cd18 ct18 sl18)
  (c18:UG K cd18 "Step.words"=true)
  (k18:UB K (.ref f18)=true)
  (a19:Uk K (.ref Cl2) "words"=some (some (.ref f19)))
  (i19:Uo K (.ref f19)=true)
  (l19:Lk K f19 "words" "Rename.words" (inClass (top 58) 1) oc19 od19 kV19 dc19 pm19 an19 cd19 ct19 sl19)
  (c19:UG K cd19 "Rename.words"=true)
  (k19:UB K (.ref f19)=true)
  (a20:Uk K (.ref Cl1) "words"=some (some (.ref f20)))
  (i20:Uo K (.ref f20)=true)
  (l20:Lk K f20 "words" "Sieve.words" (inClass (top 60) 1) oc20 od20 kV20 dc20 pm20 an20 cd20 ct20 sl20)
  (c20:UG K cd20 "Sieve.words"=true)
  (k20:UB K (.ref f20)=true)
  (a21:UI K Vs "law"=some (some (.ref f21)))
  (l21:Lk K f21 "law" "law" (top 89) oc21 od21 kV21 dc21 pm21 an21 cd21 ct21 sl21)
  (c21:UG K cd21 "law"=true)
  (k21:UB K (.ref f21)=true)
  (a22:Uk K (.ref Cl2) "__init__"=some (some (.ref f22)))
  (i22:Uo K (.ref f22)=true)
  (l22:Lk K f22 "__init__" "Rename.__init__" (inClass (top 58) 0) oc22 od22 kV22 dc22 pm22 an22 cd22 ct22 sl22)
  (c22:UG K cd22 "Rename.__init__"=true)
  (k22:UB K (.ref f22)=true)
  (a23:Uk K (.ref Cl1) "__init__"=some (some (.ref f23)))
  (i23:Uo K (.ref f23)=true)
  (l23:Lk K f23 "__init__" "Sieve.__init__" (inClass (top 60) 0) oc23 od23 kV23 dc23 pm23 an23 cd23 ct23 sl23)
  (c23:UG K cd23 "Sieve.__init__"=true)
  (k23:UB K (.ref f23)=true)
  (a24:Uk K (.ref Cl3) "__init__"=some (some (.ref f24)))
  (i24:Uo K (.ref f24)=true)
  (l24:Lk K f24 "__init__" "Over.__init__" (inClass (top 28) 0) oc24 od24 kV24 dc24 pm24 an24 cd24 ct24 sl24)
  (c24:UG K cd24 "Over.__init__"=true)
  (k24:UB K (.ref f24)=true)
  (a25:Uk K (.ref Cl4) "__init__"=some (some (.ref f25)))
  (i25:Uo K (.ref f25)=true)
  (l25:Lk K f25 "__init__" "Both.__init__" (inClass (top 29) 0) oc25 od25 kV25 dc25 pm25 an25 cd25 ct25 sl25)
  (c25:UG K cd25 "Both.__init__"=true)
  (k25:UB K (.ref f25)=true)
  (a26:Uk K (.ref Cl0) "__init__"=some (some (.ref f26)))
  (i26:Uo K (.ref f26)=true)
  (l26:Lk K f26 "__init__" "Leaf.__init__" (inClass (top 27) 0) oc26 od26 kV26 dc26 pm26 an26 cd26 ct26 sl26)
  (c26:UG K cd26 "Leaf.__init__"=true)
  (k26:UB K (.ref f26)=true)
  (p0:Ui K Cl0 Str.empty=true)
  (q0:Uj K Cl0=true)
  (r0:Uq K Cl0=true)
  (s0:Uk K (.ref Cl0) "__setattr__"=some (some (.builtin "object.__setattr__")))
  (n0_0:Uk K (.ref Cl0) "name"=some none)
  (m0:Ut K Cl0=true)
  (kp0:UB K (.ref Cl0)=true)
  (p1:Ui K Cl1 Str.empty=true)
  (q1:Uj K Cl1=true)
  (r1:Uq K Cl1=true)
  (s1:Uk K (.ref Cl1) "__setattr__"=some (some (.builtin "object.__setattr__")))
  (n1_0:Uk K (.ref Cl1) "name"=some none)
  (n1_1:Uk K (.ref Cl1) "kind"=some none)
  (m1:Ut K Cl1=true)
  (kp1:UB K (.ref Cl1)=true)
  (p2:Ui K Cl2 Str.empty=true)
  (q2:Uj K Cl2=true)
  (r2:Uq K Cl2=true)
  (s2:Uk K (.ref Cl2) "__setattr__"=some (some (.builtin "object.__setattr__")))
  (n2_0:Uk K (.ref Cl2) "old"=some none)
  (n2_1:Uk K (.ref Cl2) "new"=some none)
  (m2:Ut K Cl2=true)
  (kp2:UB K (.ref Cl2)=true)
  (p3:Ui K Cl3 Str.empty=true)
  (q3:Uj K Cl3=true)
  (r3:Uq K Cl3=true)
  (s3:Uk K (.ref Cl3) "__setattr__"=some (some (.builtin "object.__setattr__")))
  (n3_0:Uk K (.ref Cl3) "glass"=some none)
  (n3_1:Uk K (.ref Cl3) "step"=some none)
  (m3:Ut K Cl3=true)
  (kp3:UB K (.ref Cl3)=true)
  (p4:Ui K Cl4 Str.empty=true)
  (q4:Uj K Cl4=true)
  (r4:Uq K Cl4=true)
  (s4:Uk K (.ref Cl4) "__setattr__"=some (some (.builtin "object.__setattr__")))
  (n4_0:Uk K (.ref Cl4) "one"=some none)
  (n4_1:Uk K (.ref Cl4) "other"=some none)
  (n4_2:Uk K (.ref Cl4) "pair"=some none)
  (m4:Ut K Cl4=true)
  (kp4:UB K (.ref Cl4)=true)
  (p5:Ui K Cl5 Str.empty=true)
  (q5:Uj K Cl5=true)
  (r5:Uq K Cl5=true)
  (s5:Uk K (.ref Cl5) "__setattr__"=some (some (.builtin "object.__setattr__")))
  (o5:Uk K (.ref Cl5) "__init__"=some (some (.builtin "object.__init__")))
  (m5:Ut K Cl5=true)
  (kp5:UB K (.ref Cl5)=true)
  (p6:Ui K Cl6 Str.empty=true)
  (q6:Uj K Cl6=true)
  (r6:Uq K Cl6=true)
  (s6:Uk K (.ref Cl6) "__setattr__"=some (some (.builtin "object.__setattr__")))
  (p7:Ui K Cl7 Str.empty=true)
  (q7:Uj K Cl7=true)
  (r7:Uq K Cl7=true)
  (s7:Uk K (.ref Cl7) "__setattr__"=some (some (.builtin "object.__setattr__")))
  (n7_0:Uk K (.ref Cl7) "many"=some none)
  (n7_1:Uk K (.ref Cl7) "name"=some none)
  (p8:Ui K Cl8 Str.empty=true)
  (q8:Uj K Cl8=true)
  (r8:Uq K Cl8=true)
  (s8:Uk K (.ref Cl8) "__setattr__"=some (some (.builtin "object.__setattr__")))
  (n8_0:Uk K (.ref Cl8) "name"=some none)
  (p9:Ui K Cl9 Str.empty=true)
  (q9:Uj K Cl9=true)
  (r9:Uq K Cl9=true)
  (s9:Uk K (.ref Cl9) "__setattr__"=some (some (.builtin "object.__setattr__")))
  (n9_0:Uk K (.ref Cl9) "name"=some none)
  (n9_1:Uk K (.ref Cl9) "by"=some none)
  (n9_2:Uk K (.ref Cl9) "quotient"=some none)
  (n9_3:Uk K (.ref Cl9) "rest"=some none)
  (p10:Ui K Cl10 Str.empty=true)
  (q10:Uj K Cl10=true)
  (r10:Uq K Cl10=true)
  (s10:Uk K (.ref Cl10) "__setattr__"=some (some (.builtin "object.__setattr__")))
  (n10_0:Uk K (.ref Cl10) "quotient"=some none)
  (n10_1:Uk K (.ref Cl10) "rest"=some none)
  (n10_2:Uk K (.ref Cl10) "by"=some none)
  (n10_3:Uk K (.ref Cl10) "name"=some none)
  (vsg:UN K (.builtin "object.__class__") "__get__"=some (some (.builtin "getset_descriptor.__get__")))
  (vtk:UO K (.builtin "object.__class__")=some true)
  (vf0:Uk K (.ref Cl0) "__class__"=some (some (.builtin "object.__class__")))
  (vm0:UP K Cl0 (.type "object")=some true)
  (vf1:Uk K (.ref Cl1) "__class__"=some (some (.builtin "object.__class__")))
  (vm1:UP K Cl1 (.type "object")=some true)
  (vf2:Uk K (.ref Cl2) "__class__"=some (some (.builtin "object.__class__")))
  (vm2:UP K Cl2 (.type "object")=some true)
  (vf3:Uk K (.ref Cl3) "__class__"=some (some (.builtin "object.__class__")))
  (vm3:UP K Cl3 (.type "object")=some true)
  (vf4:Uk K (.ref Cl4) "__class__"=some (some (.builtin "object.__class__")))
  (vm4:UP K Cl4 (.type "object")=some true)
  (vf5:Uk K (.ref Cl5) "__class__"=some (some (.builtin "object.__class__")))
  (vm5:UP K Cl5 (.type "object")=some true)
  (vt3:Uu K (.ref Cl3)=some (.type "type"))
  (vi3:UL K (.ref Cl3) (.type "type")=some true)
  (yy3_3:UQ K (.ref Cl3) Cl3=true)
  (vs3_0:UM K (.ref Cl0) (.ref Cl3)=some false)
  (vn3_0:Cl0≠Cl3)
  (vs3_4:UM K (.ref Cl4) (.ref Cl3)=some false)
  (vn3_4:Cl4≠Cl3)
  (vt4:Uu K (.ref Cl4)=some (.type "type"))
  (vi4:UL K (.ref Cl4) (.type "type")=some true)
  (yy4_4:UQ K (.ref Cl4) Cl4=true)
  (vs4_0:UM K (.ref Cl0) (.ref Cl4)=some false)
  (vn4_0:Cl0≠Cl4)
  (vs4_3:UM K (.ref Cl3) (.ref Cl4)=some false)
  (vn4_3:Cl3≠Cl4)
  (vt0:Uu K (.ref Cl0)=some (.type "type"))
  (vi0:UL K (.ref Cl0) (.type "type")=some true)
  (yy0_0:UQ K (.ref Cl0) Cl0=true)
  (vs0_3:UM K (.ref Cl3) (.ref Cl0)=some false)
  (vn0_3:Cl3≠Cl0)
  (vs0_4:UM K (.ref Cl4) (.ref Cl0)=some false)
  (vn0_4:Cl4≠Cl0)
  (vt2:Uu K (.ref Cl2)=some (.type "type"))
  (vi2:UL K (.ref Cl2) (.type "type")=some true)
  (yy2_2:UQ K (.ref Cl2) Cl2=true)
  (vs2_5:UM K (.ref Cl5) (.ref Cl2)=some false)
  (vn2_5:Cl5≠Cl2)
  (vs2_1:UM K (.ref Cl1) (.ref Cl2)=some false)
  (vn2_1:Cl1≠Cl2)
  (vt1:Uu K (.ref Cl1)=some (.type "type"))
  (vi1:UL K (.ref Cl1) (.type "type")=some true)
  (yy1_1:UQ K (.ref Cl1) Cl1=true)
  (vs1_5:UM K (.ref Cl5) (.ref Cl1)=some false)
  (vn1_5:Cl5≠Cl1)
  (vs1_2:UM K (.ref Cl2) (.ref Cl1)=some false)
  (vn1_2:Cl2≠Cl1)
  (vt9:Uu K (.ref Cl9)=some (.type "type"))
  (vi9:UL K (.ref Cl9) (.type "type")=some true)
  (yy9_9:UQ K (.ref Cl9) Cl9=true)
  (vs9_5:UM K (.ref Cl5) (.ref Cl9)=some false)
  (vn9_5:Cl5≠Cl9)
  (vs9_2:UM K (.ref Cl2) (.ref Cl9)=some false)
  (vn9_2:Cl2≠Cl9)
  (vs9_1:UM K (.ref Cl1) (.ref Cl9)=some false)
  (vn9_1:Cl1≠Cl9)
  (vt10:Uu K (.ref Cl10)=some (.type "type"))
  (vi10:UL K (.ref Cl10) (.type "type")=some true)
  (yy10_10:UQ K (.ref Cl10) Cl10=true)
  (vs10_5:UM K (.ref Cl5) (.ref Cl10)=some false)
  (vn10_5:Cl5≠Cl10)
  (vs10_2:UM K (.ref Cl2) (.ref Cl10)=some false)
  (vn10_2:Cl2≠Cl10)
  (vs10_1:UM K (.ref Cl1) (.ref Cl10)=some false)
  (vn10_1:Cl1≠Cl10)
  (vt7:Uu K (.ref Cl7)=some (.type "type"))
  (vi7:UL K (.ref Cl7) (.type "type")=some true)
  (yy7_7:UQ K (.ref Cl7) Cl7=true)
  (vs7_5:UM K (.ref Cl5) (.ref Cl7)=some false)
  (vn7_5:Cl5≠Cl7)
  (vs7_2:UM K (.ref Cl2) (.ref Cl7)=some false)
  (vn7_2:Cl2≠Cl7)
  (vs7_1:UM K (.ref Cl1) (.ref Cl7)=some false)
  (vn7_1:Cl1≠Cl7)
  (vt8:Uu K (.ref Cl8)=some (.type "type"))
  (vi8:UL K (.ref Cl8) (.type "type")=some true)
  (yy8_8:UQ K (.ref Cl8) Cl8=true)
  (vs8_5:UM K (.ref Cl5) (.ref Cl8)=some false)
  (vn8_5:Cl5≠Cl8)
  (vs8_2:UM K (.ref Cl2) (.ref Cl8)=some false)
  (vn8_2:Cl2≠Cl8)
  (vs8_1:UM K (.ref Cl1) (.ref Cl8)=some false)
  (vn8_1:Cl1≠Cl8)
  (dd0:KDs K [("is_whole",top 12),("has_parts",top 13),("keys_rise",top 35),("kinds_of",top 14),("fits",top 32),("keeps",top 33),("is_row",top 34),("names_of",top 22),("place_of",top 23),("replaced",top 41),("in_key",top 40),("with_fields",top 42),("kind_at",top 39),("both_words",top 17),("both_numbers",top 16),("both",top 15),("_law_next",top 73),("_law_sorted",top 82),("_law_value",top 80),("_law_row",top 81),("_law_rows",top 83),("parts_of",top 30),("steps_of",top 70),("_law_free",top 87),("renamed",top 67),("is_behind",top 69),("same_parts",top 68),("instead",top 66),("written",top 47),("is_idle",top 65)])
  (dd1:KDs K [("laid_over",top 64),("thin",top 63),("thinned",top 62),("_law_in_both",top 84),("_law_sieve_kind",top 85),("_law_name",top 75),("_law_chain",top 86),("_law_right",top 88),("_law_cell_at",top 72),("_law_seed",top 74),("_law_words",top 77),("_law_twelves",top 76),("_law_leaf_kind",top 78),("_law_leaf_form",top 79)])
  (zz:KZs K ["isinstance","int","bool","tuple","len","all","range","str","zip","enumerate","max","min","sorted","list","any"]):
  ∃fd:VY,(∀(s:Vm)(v:Vh),VZ s fd ⟨[v],[]⟩ [("_law_script",v)])/\∀base:Vq,K.In base->base.Ns Vs mg->ig l.prog w K mg base (nK l.prog w) 64 fa fd ["_law_script"] (yN K 1 (ai pf 1 7)):=by
 have e:=hfa.symm.trans (UV X G a21);cases e;have F0:=b7 (st:=(inClass (top 26) 2)) l0 c0 k0;have F1:=b7 (st:=(inClass (top 27) 3)) l1 c1 k1;have F2:=b7 (st:=(inClass (top 46) 2)) l2 c2 k2;have F3:=b7 (st:=(inClass (top 60) 3)) l3 c3 k3;have F4:=b7 (st:=(inClass (top 46) 1)) l4 c4 k4;have F5:=b7 (st:=(inClass (top 58) 2)) l5 c5 k5;have F6:=b7 (st:=(inClass (top 60) 2)) l6 c6 k6;have F7:=b7 (st:=(inClass (top 28) 3)) l7 c7 k7;have F8:=b7 (st:=(inClass (top 29) 3)) l8 c8 k8;have F9:=b7 (st:=(inClass (top 26) 3)) l9 c9 k9;have F10:=b7 (st:=(inClass (top 27) 2)) l10 c10 k10;have F11:=b7 (st:=(inClass (top 27) 1)) l11 c11 k11;have F12:=b7 (st:=(inClass (top 28) 1)) l12 c12 k12;have F13:=b7 (st:=(inClass (top 29) 1)) l13 c13 k13;have F14:=b7 (st:=(inClass (top 28) 2)) l14 c14 k14;have F15:=b7 (st:=(inClass (top 29) 2)) l15 c15 k15;have F16:=b7 (st:=(inClass (top 46) 4)) l16 c16 k16;have F17:=b7 (st:=(inClass (top 60) 5)) l17 c17 k17;have F18:=b7 (st:=(inClass (top 46) 0)) l18 c18 k18;have F19:=b7 (st:=(inClass (top 58) 1)) l19 c19 k19;have F20:=b7 (st:=(inClass (top 60) 1)) l20 c20 k20;have F21:=b7 (st:=(top 89)) l21 c21 k21;have F22:=b7 (st:=(inClass (top 58) 0)) l22 c22 k22;have b22:=F22.binds (ps:=["self","old","new"]) λ_ _ _ _ _ _ us hl=>by obtain⟨u0,u1,u2,rfl⟩:=CD hl;rfl
 have F23:=b7 (st:=(inClass (top 60) 0)) l23 c23 k23;have b23:=F23.binds (ps:=["self","name","kind"]) λ_ _ _ _ _ _ us hl=>by obtain⟨u0,u1,u2,rfl⟩:=CD hl;rfl
 have F24:=b7 (st:=(inClass (top 28) 0)) l24 c24 k24;have b24:=F24.binds (ps:=["self","glass","step"]) λ_ _ _ _ _ _ us hl=>by obtain⟨u0,u1,u2,rfl⟩:=CD hl;rfl
 have F25:=b7 (st:=(inClass (top 29) 0)) l25 c25 k25;have b25:=F25.binds (ps:=["self","one","other","pair"]) λ_ _ _ _ _ _ us hl=>by obtain⟨u0,u1,u2,u3,rfl⟩:=KI hl;rfl
 have F26:=b7 (st:=(inClass (top 27) 0)) l26 c26 k26;have b26:=F26.binds (ps:=["self","name"]) λ_ _ _ _ _ _ us hl=>by obtain⟨u0,u1,rfl⟩:=IW hl;rfl
 have cl0:mG K Cl0:=⟨p0,q0,r0,s0⟩
 have cl1:mG K Cl1:=⟨p1,q1,r1,s1⟩
 have cl2:mG K Cl2:=⟨p2,q2,r2,s2⟩
 have cl3:mG K Cl3:=⟨p3,q3,r3,s3⟩
 have cl4:mG K Cl4:=⟨p4,q4,r4,s4⟩
 have cl5:mG K Cl5:=⟨p5,q5,r5,s5⟩
 have cl6:mG K Cl6:=⟨p6,q6,r6,s6⟩
 have cl7:mG K Cl7:=⟨p7,q7,r7,s7⟩
 have cl8:mG K Cl8:=⟨p8,q8,r8,s8⟩
 have cl9:mG K Cl9:=⟨p9,q9,r9,s9⟩
 have cl10:mG K Cl10:=⟨p10,q10,r10,s10⟩
 have uG:cF K "name" ["Leaf"]:=by
  intro c hc C hC;simp only[SY,TU,or_false]at hc;rcases hc with rfl
  ·cases aj hC ac0;exact⟨cl0,n0_0⟩
 have rM:cF K "name" ["Sieve"]:=by
  intro c hc C hC;simp only[SY,TU,or_false]at hc;rcases hc with rfl
  ·cases aj hC ac1;exact⟨cl1,n1_0⟩
 have rL:cF K "kind" ["Sieve"]:=by
  intro c hc C hC;simp only[SY,TU,or_false]at hc;rcases hc with rfl
  ·cases aj hC ac1;exact⟨cl1,n1_1⟩
 have rN:cF K "old" ["Rename"]:=by
  intro c hc C hC;simp only[SY,TU,or_false]at hc;rcases hc with rfl
  ·cases aj hC ac2;exact⟨cl2,n2_0⟩
 have rF:cF K "new" ["Rename"]:=by
  intro c hc C hC;simp only[SY,TU,or_false]at hc;rcases hc with rfl
  ·cases aj hC ac2;exact⟨cl2,n2_1⟩
 have rE:cF K "glass" ["Over"]:=by
  intro c hc C hC;simp only[SY,TU,or_false]at hc;rcases hc with rfl
  ·cases aj hC ac3;exact⟨cl3,n3_0⟩
 have ux:cF K "step" ["Over"]:=by
  intro c hc C hC;simp only[SY,TU,or_false]at hc;rcases hc with rfl
  ·cases aj hC ac3;exact⟨cl3,n3_1⟩
 have vj:cF K "one" ["Both"]:=by
  intro c hc C hC;simp only[SY,TU,or_false]at hc;rcases hc with rfl
  ·cases aj hC ac4;exact⟨cl4,n4_0⟩
 have rS:cF K "other" ["Both"]:=by
  intro c hc C hC;simp only[SY,TU,or_false]at hc;rcases hc with rfl
  ·cases aj hC ac4;exact⟨cl4,n4_1⟩
 have uv:cF K "pair" ["Both"]:=by
  intro c hc C hC;simp only[SY,TU,or_false]at hc;rcases hc with rfl
  ·cases aj hC ac4;exact⟨cl4,n4_2⟩
 have dD:cF K "name" ["Leaf","Nest","Unnest","Part","Fuse","Sieve"]:=by
  intro c hc C hC;simp only[SY,TU,or_false]at hc;rcases hc with rfl|rfl|rfl|rfl|rfl|rfl
  ·cases aj hC ac0;exact⟨cl0,n0_0⟩
  ·cases aj hC ac7;exact⟨cl7,n7_1⟩
  ·cases aj hC ac8;exact⟨cl8,n8_0⟩
  ·cases aj hC ac9;exact⟨cl9,n9_0⟩
  ·cases aj hC ac10;exact⟨cl10,n10_3⟩
  ·cases aj hC ac1;exact⟨cl1,n1_0⟩
 have nJ:cF K "rest" ["Part","Fuse"]:=by
  intro c hc C hC;simp only[SY,TU,or_false]at hc;rcases hc with rfl|rfl
  ·cases aj hC ac9;exact⟨cl9,n9_3⟩
  ·cases aj hC ac10;exact⟨cl10,n10_1⟩
 have jR:cF K "quotient" ["Part","Fuse"]:=by
  intro c hc C hC;simp only[SY,TU,or_false]at hc;rcases hc with rfl|rfl
  ·cases aj hC ac9;exact⟨cl9,n9_2⟩
  ·cases aj hC ac10;exact⟨cl10,n10_0⟩
 have pL:cF K "by" ["Part","Fuse"]:=by
  intro c hc C hC;simp only[SY,TU,or_false]at hc;rcases hc with rfl|rfl
  ·cases aj hC ac9;exact⟨cl9,n9_1⟩
  ·cases aj hC ac10;exact⟨cl10,n10_2⟩
 have uO:cF K "many" ["Nest"]:=by
  intro c hc C hC;simp only[SY,TU,or_false]at hc;rcases hc with rfl
  ·cases aj hC ac7;exact⟨cl7,n7_0⟩
 refine⟨UE "law" "law" (jH (top 89)) (eB (top 89)) (aG (top 89)) .none kV21 dc21 pm21 an21 cd21 ct21,λs v=>.of_eq rfl,λbase _ _=>?_⟩;have Y_Over:eZ K mg "Over" ["Over"] ["Leaf","Both"]:=by
  refine⟨_,UV X G ac3,λc hc D hD=>?_,λc hc D hD=>?_⟩<;>simp only[SY,TU,or_false]at hc
  ·rcases hc with rfl;cases aj hD ac3;exact yy3_3
  ·rcases hc with rfl|rfl
   ·cases aj hD ac0;exact⟨cl0,⟨vn3_0,(by obtain⟨cd,hc,_⟩:=Us cl3.hd;rw[hc];rfl),vt3,vi3,vs3_0,vf0,vsg,vtk,vm0⟩⟩
   ·cases aj hD ac4;exact⟨cl4,⟨vn3_4,(by obtain⟨cd,hc,_⟩:=Us cl3.hd;rw[hc];rfl),vt3,vi3,vs3_4,vf4,vsg,vtk,vm4⟩⟩
 have Y_Both:eZ K mg "Both" ["Both"] ["Leaf","Over"]:=by
  refine⟨_,UV X G ac4,λc hc D hD=>?_,λc hc D hD=>?_⟩<;>simp only[SY,TU,or_false]at hc
  ·rcases hc with rfl;cases aj hD ac4;exact yy4_4
  ·rcases hc with rfl|rfl
   ·cases aj hD ac0;exact⟨cl0,⟨vn4_0,(by obtain⟨cd,hc,_⟩:=Us cl4.hd;rw[hc];rfl),vt4,vi4,vs4_0,vf0,vsg,vtk,vm0⟩⟩
   ·cases aj hD ac3;exact⟨cl3,⟨vn4_3,(by obtain⟨cd,hc,_⟩:=Us cl4.hd;rw[hc];rfl),vt4,vi4,vs4_3,vf3,vsg,vtk,vm3⟩⟩
 have Y_Leaf:eZ K mg "Leaf" ["Leaf"] ["Over","Both"]:=by
  refine⟨_,UV X G ac0,λc hc D hD=>?_,λc hc D hD=>?_⟩<;>simp only[SY,TU,or_false]at hc
  ·rcases hc with rfl;cases aj hD ac0;exact yy0_0
  ·rcases hc with rfl|rfl
   ·cases aj hD ac3;exact⟨cl3,⟨vn0_3,(by obtain⟨cd,hc,_⟩:=Us cl0.hd;rw[hc];rfl),vt0,vi0,vs0_3,vf3,vsg,vtk,vm3⟩⟩
   ·cases aj hD ac4;exact⟨cl4,⟨vn0_4,(by obtain⟨cd,hc,_⟩:=Us cl0.hd;rw[hc];rfl),vt0,vi0,vs0_4,vf4,vsg,vtk,vm4⟩⟩
 have Y_Rename:eZ K mg "Rename" ["Rename"] ["Step","Sieve"]:=by
  refine⟨_,UV X G ac2,λc hc D hD=>?_,λc hc D hD=>?_⟩<;>simp only[SY,TU,or_false]at hc
  ·rcases hc with rfl;cases aj hD ac2;exact yy2_2
  ·rcases hc with rfl|rfl
   ·cases aj hD ac5;exact⟨cl5,⟨vn2_5,(by obtain⟨cd,hc,_⟩:=Us cl2.hd;rw[hc];rfl),vt2,vi2,vs2_5,vf5,vsg,vtk,vm5⟩⟩
   ·cases aj hD ac1;exact⟨cl1,⟨vn2_1,(by obtain⟨cd,hc,_⟩:=Us cl2.hd;rw[hc];rfl),vt2,vi2,vs2_1,vf1,vsg,vtk,vm1⟩⟩
 have Y_Sieve:eZ K mg "Sieve" ["Sieve"] ["Step","Rename"]:=by
  refine⟨_,UV X G ac1,λc hc D hD=>?_,λc hc D hD=>?_⟩<;>simp only[SY,TU,or_false]at hc
  ·rcases hc with rfl;cases aj hD ac1;exact yy1_1
  ·rcases hc with rfl|rfl
   ·cases aj hD ac5;exact⟨cl5,⟨vn1_5,(by obtain⟨cd,hc,_⟩:=Us cl1.hd;rw[hc];rfl),vt1,vi1,vs1_5,vf5,vsg,vtk,vm5⟩⟩
   ·cases aj hD ac2;exact⟨cl2,⟨vn1_2,(by obtain⟨cd,hc,_⟩:=Us cl1.hd;rw[hc];rfl),vt1,vi1,vs1_2,vf2,vsg,vtk,vm2⟩⟩
 have Y_Part:eZ K mg "Part" ["Part"] ["Step","Rename","Sieve"]:=by
  refine⟨_,UV X G ac9,λc hc D hD=>?_,λc hc D hD=>?_⟩<;>simp only[SY,TU,or_false]at hc
  ·rcases hc with rfl;cases aj hD ac9;exact yy9_9
  ·rcases hc with rfl|rfl|rfl
   ·cases aj hD ac5;exact⟨cl5,⟨vn9_5,(by obtain⟨cd,hc,_⟩:=Us cl9.hd;rw[hc];rfl),vt9,vi9,vs9_5,vf5,vsg,vtk,vm5⟩⟩
   ·cases aj hD ac2;exact⟨cl2,⟨vn9_2,(by obtain⟨cd,hc,_⟩:=Us cl9.hd;rw[hc];rfl),vt9,vi9,vs9_2,vf2,vsg,vtk,vm2⟩⟩
   ·cases aj hD ac1;exact⟨cl1,⟨vn9_1,(by obtain⟨cd,hc,_⟩:=Us cl9.hd;rw[hc];rfl),vt9,vi9,vs9_1,vf1,vsg,vtk,vm1⟩⟩
 have Y_Fuse:eZ K mg "Fuse" ["Fuse"] ["Step","Rename","Sieve"]:=by
  refine⟨_,UV X G ac10,λc hc D hD=>?_,λc hc D hD=>?_⟩<;>simp only[SY,TU,or_false]at hc
  ·rcases hc with rfl;cases aj hD ac10;exact yy10_10
  ·rcases hc with rfl|rfl|rfl
   ·cases aj hD ac5;exact⟨cl5,⟨vn10_5,(by obtain⟨cd,hc,_⟩:=Us cl10.hd;rw[hc];rfl),vt10,vi10,vs10_5,vf5,vsg,vtk,vm5⟩⟩
   ·cases aj hD ac2;exact⟨cl2,⟨vn10_2,(by obtain⟨cd,hc,_⟩:=Us cl10.hd;rw[hc];rfl),vt10,vi10,vs10_2,vf2,vsg,vtk,vm2⟩⟩
   ·cases aj hD ac1;exact⟨cl1,⟨vn10_1,(by obtain⟨cd,hc,_⟩:=Us cl10.hd;rw[hc];rfl),vt10,vi10,vs10_1,vf1,vsg,vtk,vm1⟩⟩
 have Y_Nest:eZ K mg "Nest" ["Nest"] ["Step","Rename","Sieve"]:=by
  refine⟨_,UV X G ac7,λc hc D hD=>?_,λc hc D hD=>?_⟩<;>simp only[SY,TU,or_false]at hc
  ·rcases hc with rfl;cases aj hD ac7;exact yy7_7
  ·rcases hc with rfl|rfl|rfl
   ·cases aj hD ac5;exact⟨cl5,⟨vn7_5,(by obtain⟨cd,hc,_⟩:=Us cl7.hd;rw[hc];rfl),vt7,vi7,vs7_5,vf5,vsg,vtk,vm5⟩⟩
   ·cases aj hD ac2;exact⟨cl2,⟨vn7_2,(by obtain⟨cd,hc,_⟩:=Us cl7.hd;rw[hc];rfl),vt7,vi7,vs7_2,vf2,vsg,vtk,vm2⟩⟩
   ·cases aj hD ac1;exact⟨cl1,⟨vn7_1,(by obtain⟨cd,hc,_⟩:=Us cl7.hd;rw[hc];rfl),vt7,vi7,vs7_1,vf1,vsg,vtk,vm1⟩⟩
 have Y_Unnest:eZ K mg "Unnest" ["Unnest"] ["Step","Rename","Sieve"]:=by
  refine⟨_,UV X G ac8,λc hc D hD=>?_,λc hc D hD=>?_⟩<;>simp only[SY,TU,or_false]at hc
  ·rcases hc with rfl;cases aj hD ac8;exact yy8_8
  ·rcases hc with rfl|rfl|rfl
   ·cases aj hD ac5;exact⟨cl5,⟨vn8_5,(by obtain⟨cd,hc,_⟩:=Us cl8.hd;rw[hc];rfl),vt8,vi8,vs8_5,vf5,vsg,vtk,vm5⟩⟩
   ·cases aj hD ac2;exact⟨cl2,⟨vn8_2,(by obtain⟨cd,hc,_⟩:=Us cl8.hd;rw[hc];rfl),vt8,vi8,vs8_2,vf2,vsg,vtk,vm2⟩⟩
   ·cases aj hD ac1;exact⟨cl1,⟨vn8_1,(by obtain⟨cd,hc,_⟩:=Us cl8.hd;rw[hc];rfl),vt8,vi8,vs8_1,vf1,vsg,vtk,vm1⟩⟩
 have N_Step:DZ K mg "Step":=⟨_,ac5,⟨m5,o5,kp5⟩,UV X G ac5⟩
 have Dt:=vK (P:=l.prog) (w:=w) (base:=base) ac2 ⟨m2,a22,i22,kp2⟩ cl2 (by intro g hg;simp only[SY,TU,or_false]at hg;rcases hg with rfl|rfl<;>first|exact n2_0|exact n2_1) F22 b22 (UV X G ac2);have G1:=wF (P:=l.prog) (w:=w) (base:=base) ac1 ⟨m1,a23,i23,kp1⟩ cl1 (by intro g hg;simp only[SY,TU,or_false]at hg;rcases hg with rfl|rfl<;>first|exact n1_0|exact n1_1) F23 b23 (UV X G ac1);have Ib:=zh (P:=l.prog) (w:=w) (base:=base) ac3 ⟨m3,a24,i24,kp3⟩ cl3 (by intro g hg;simp only[SY,TU,or_false]at hg;rcases hg with rfl|rfl<;>first|exact n3_0|exact n3_1) F24 b24 (UV X G ac3);have Jv:=Aa (P:=l.prog) (w:=w) (base:=base) ac4 ⟨m4,a25,i25,kp4⟩ cl4 (by intro g hg;simp only[SY,TU,or_false]at hg;rcases hg with rfl|rfl|rfl<;>first|exact n4_0|exact n4_1|exact n4_2) F25 b25 (UV X G ac4);have IY:=zN (P:=l.prog) (w:=w) (base:=base) ac0 ⟨m0,a26,i26,kp0⟩ cl0 (by intro g hg;simp only[SY,TU,or_false]at hg;rcases hg with rfl;exact n0_0) F26 b26 (UV X G ac0)
 let u:U:=⟨l.prog,w,K,mg,base,(0:Nat),(0:Nat)⟩
 have q0:Q0 u:=⟨⟨⟨⟨⟨⟨⟨⟨⟨⟨⟨⟨⟨⟨⟨⟨⟨⟨⟨⟨⟨⟨⟨⟨⟨⟨⟨⟨⟨⟨⟨⟨⟨⟨⟨⟨⟨⟨⟨⟨⟨⟨⟨⟨⟨⟨⟨⟨⟨⟨⟨⟨⟨⟨⟨⟨⟨⟨⟨(MC.of X G (MC.of X G (Zs.of X G zz) dd0) dd1),uG⟩,rM⟩,rL⟩,rN⟩,rF⟩,rE⟩,ux⟩,vj⟩,rS⟩,uv⟩,dD⟩,nJ⟩,jR⟩,pL⟩,uO⟩,Dt⟩,G1⟩,Ib⟩,Jv⟩,IY⟩,N_Step⟩,Y_Over⟩,Y_Both⟩,Y_Leaf⟩,Y_Rename⟩,Y_Sieve⟩,Y_Part⟩,Y_Fuse⟩,Y_Nest⟩,Y_Unnest⟩,⟨_,_,_,ac6,cl6,⟨a0,i0,k0⟩,F0⟩⟩,⟨_,_,_,ac0,cl0,⟨a1,i1,k1⟩,F1⟩⟩,⟨_,_,_,ac2,cl2,⟨a2,i2,k2⟩,F2⟩⟩,⟨_,_,_,ac5,cl5,⟨a2_5,i2,k2⟩,F2⟩⟩,⟨_,_,_,ac1,cl1,⟨a3,i3,k3⟩,F3⟩⟩,⟨_,_,_,ac5,cl5,⟨a4,i4,k4⟩,F4⟩⟩,⟨_,_,_,ac2,cl2,⟨a5,i5,k5⟩,F5⟩⟩,⟨_,_,_,ac1,cl1,⟨a6,i6,k6⟩,F6⟩⟩,⟨_,_,_,ac3,cl3,⟨a7,i7,k7⟩,F7⟩⟩,⟨_,_,_,ac4,cl4,⟨a8,i8,k8⟩,F8⟩⟩,⟨_,_,_,ac0,cl0,⟨a9,i9,k9⟩,F9⟩⟩,⟨_,_,_,ac3,cl3,⟨a9_3,i9,k9⟩,F9⟩⟩,⟨_,_,_,ac4,cl4,⟨a9_4,i9,k9⟩,F9⟩⟩,⟨_,_,_,ac6,cl6,⟨a9_6,i9,k9⟩,F9⟩⟩,⟨_,_,_,ac0,cl0,⟨a10,i10,k10⟩,F10⟩⟩,⟨_,_,_,ac0,cl0,⟨a11,i11,k11⟩,F11⟩⟩,⟨_,_,_,ac3,cl3,⟨a12,i12,k12⟩,F12⟩⟩,⟨_,_,_,ac4,cl4,⟨a13,i13,k13⟩,F13⟩⟩,⟨_,_,_,ac3,cl3,⟨a14,i14,k14⟩,F14⟩⟩,⟨_,_,_,ac4,cl4,⟨a15,i15,k15⟩,F15⟩⟩,⟨_,_,_,ac2,cl2,⟨a16,i16,k16⟩,F16⟩⟩,⟨_,_,_,ac5,cl5,⟨a16_5,i16,k16⟩,F16⟩⟩,⟨_,_,_,ac7,cl7,⟨a16_7,i16,k16⟩,F16⟩⟩,⟨_,_,_,ac9,cl9,⟨a16_9,i16,k16⟩,F16⟩⟩,⟨_,_,_,ac10,cl10,⟨a16_10,i16,k16⟩,F16⟩⟩,⟨_,_,_,ac1,cl1,⟨a17,i17,k17⟩,F17⟩⟩,⟨_,_,_,ac5,cl5,⟨a18,i18,k18⟩,F18⟩⟩,⟨_,_,_,ac2,cl2,⟨a19,i19,k19⟩,F19⟩⟩,⟨_,_,_,ac1,cl1,⟨a20,i20,k20⟩,F20⟩⟩
 exact LN (u:=u) F21 (QV (M3 (Ra (Qv (Qu (QP (OY (PV (QU (Qq (QS (QQ (QG (PQ (Qm (P9 (Qe (PR (QY (Qc (OG (PN (Qo (Qf (QZ (QE (Rg (P8 (Qi (Rf (Qr (P6 (QN (Rl (Qj (PX (QF (QB (P5 (Ql (Qz (QA (Rh (QM (QI (P4 (e20 (Qs (Rb (QO (Qw (Qt (QK (Qg (Qx (Nb (e10 (e9 (e8 (e7 (e6 (e5 (e4 (e3 (e2 (e1 q0))))))))))))))))))))))))))))))))))))))))))))))))))))))))))))))))))
theorem walk{l:UH}{q:Vo}{loose:av}{XP:(cN)->Vq->Prop}{YP:Vn->Vq->Prop}{d:DefRec}{K:Params->Ug}(hn:l.most=some 63)(hdf:d.params.defaults=[])
  (hY:∀(w:Vn)(h:Vq),YP w h->(K w.params).In h)
  (F:∀ (w:Vn) (mg:cN) (fa:Vj) (h:Vq),(K w.params).In h->h.Ns Vs mg->mg d.name=some (.ref fa) ->
   ∃fd:VY,(∀(s:Vm)(u:Vh),VZ s fd ⟨[u],[]⟩ [("_law_script",u)])/\∀base:Vq,(K w.params).In base->base.Ns Vs mg->ig l.prog w (K w.params) mg base (nK l.prog w) 64 fa fd ["_law_script"] (yN (K w.params) 1 (ai pf 1 7)))
  (math:∀ns:List Int,ns.length<=63->ai pf 1 7 [.lst (ns.map .int)]=.ok (.bl true)):PySem.W.WalkO q loose XP YP l.row.toRowW d [] (λf vs=>PySem.call f vs):=
 L2.Mu (n:=63) (k:=64) (x:="_law_script") (CX:=λw=>nK l.prog w) (sp:=λw=>yN (K w.params) 1 (ai pf 1 7)) hn (by decide) hdf ⟨rfl,by decide,by decide⟩ hY F
  (λw H a ns hl _ hS=>⟨[],[.lst (ns.map .int)],rfl,⟨trivial,λa h=>nomatch h⟩,by rw[Ga];exact aK.mpr ⟨.ref a,[],rfl,b8.mpr ⟨a,_,rfl,hS,tH ns⟩,cf.mpr rfl⟩,by rw[math ns hl];exact λv H' _ d=>jG.mp d⟩) λ_ _ _ _ _ z=>by obtain⟨_,_,_,_,_,_,_,_,_,_,_,_,_,_,z⟩:=z;exact z
end Tk88
namespace Tk88
open PySem PySem.Spec L2 TG TD T4
local macro_rules|`(‹$x›)=>do if x.raw.isOfKind `num then Lean.Macro.throwUnsupported else `(some (S.val $x))
local macro_rules
 |`(tactic| simp! only[$xs,*])=>`(tactic| simp only[df,sv,qg,tP,jQ,eE,ge_0,yM,nU,AC,oG,lu,o0,nM,zv,yP,zq,zT,AB,nW,o6,tI,iW,kM,nX,lG,tG,nR,oI,lC,nN,jm,nT,iT,iY,gS,gQ,n0,kP,gR,lH,iN,lD,lg,iy,kR,iQ,oY,lJ,jf,iE,kS,kW,zr,tK,zc,Aq,zZ,nQ,kX,ot,lI,lB,zB,yX,TJ,TK,RH,R7,Sl,SH,K0,env0,List.replicate,Te,RN,S7,Nat.reduceAdd,Nat.reduceSub,RG,Sa,n9,n5,sJ,oU,nV,oH,gV,oh,si,rW,rT,oK,iO,js,je,jq,iL,iX,gH,h7,sy,sN,sf,sG,iS,jk,fS,fW,oy,gU,fG,fE,fH,mF,mD,fM,fI,jp,iZ,lm,ly,jh,lh,oE,oZ,kN,kU,gN,if_true,if_false,Tj,TL,Si,$xs,*])
theorem gm(j:Int)(h:0<j:=by decide):∀i:Int,cm (.int i) (.int j)=some (.int (i%j)):=λi=>fY (i:=i) h
theorem gd(j:Int)(h:0<j:=by decide)(h':j<10^200:=by decide):∀i:Int,dm (.int i) (.int j)=some (.int (i/j)):=λi=>mn (i:=i) h h'
theorem mi(a c:Bool):(if a=true then(.ok true:R Bool)else .ok c)=.ok (a||c):=by cases a<;>rfl
theorem Jb(a c:Bool):(if a=true then(.ok c:R Bool)else .ok false)=.ok (a&&c):=by cases a<;>rfl
theorem A1(f:FX)(k:Ks)(ρ:ak):yq f k ρ=o8 (f ρ) k ρ λ_=>k.nx ρ:=nr rfl
theorem oW:(("number":Str)==("number":Str))=true:=by decide +kernel
noncomputable abbrev num(lo hi:Int):D:=.tup [.str "number",.int lo,.int hi]
noncomputable abbrev L:=List (Str×D)
theorem o9:(("word":Str)==("number":Str))=false:=by decide +kernel
structure Fk(K R:L):Prop where
 k1:1<=K.length
 kl:K.length<=7
 rl:R.length<=7
 nd:((K++R).map (·.1)).Nodup
section
variable{K R:L}
theorem Fk.len(F:Fk K R):(K++R).length<=15:=by have:=F.kl;have:=F.rl;rw[RZ];omega
theorem Fk.e:K.map fld++R.map fld=(K++R).map fld:=by rw[SK]
theorem Fk.at(F:Fk K R){i:Nat}{x:Str}{k:D}(hi:(K++R)[i]?=some (x,k)):ai cx 2 4 [fm K R,.str x]=.ok (.int i):=wm (K.map fld) (R.map fld) (K++R) (by have:=F.len;omega) Fk.e F.nd i x k hi
theorem Fk.kd(F:Fk K R){i:Nat}{x:Str}{k:D}(hi:(K++R)[i]?=some (x,k)):ai eM 2 2 [fm K R,.int i]=.ok k:=AF (K.map fld) (R.map fld) (K++R) (by have:=F.len;omega) Fk.e i x k hi
theorem Fk.nms(F:Fk K R):ai eJ 1 1 [fm K R]=.ok (.tup ((K++R).map λp=>.str p.1)):=rp (K.map fld) (R.map fld) (K++R) (by have:=F.len;omega) Fk.e
theorem Dz(ps:L)(x:Str):xx (.str x) (.tup (ps.map λp=>.str p.1))=some (.bl ((ps.map (·.1)).contains x)):=by
 have:=pQ x (ps.map (·.1))
 rwa [Tu]at this
noncomputable def rk(K:L)(i:Nat)(os:L):L:=if i<K.length then K.take i++os++K.drop (i+1)else K
noncomputable def rr(K R:L)(i:Nat)(os:L):L:=if i<K.length then R else R.take (i-K.length)++os++R.drop (i-K.length+1)
theorem L8(i:Nat)(os:L)(h:i<(K++R).length):rk K i os++rr K R i os=(K++R).take i++os++(K++R).drop (i+1):=by
 unfold rk rr;by_cases z:i<K.length
 ·rw[if_pos z,if_pos z,List.take_append_of_le_length ‹0›,List.drop_append_of_le_length ‹0›];simp only[SV]
 ·rw[if_neg z,if_neg z];have t1:(K++R).take i=K++R.take (i-K.length):=by rw[List.take_append,TF (l:=K) ‹0›]
  have t2:(K++R).drop (i+1)=R.drop (i-K.length+1):=by rw[List.drop_append,TH (as:=K) ‹0›,SH,show i+1-K.length=i-K.length+1 by omega]
  rw[t1,t2];simp only[SV]
theorem Ln(i:Nat)(p:Str×D)(h:i<(K++R).length):rk K i [p]++rr K R i [p]=(K++R).set i p:=by
 rw[L8 i [p] h,List.set_eq_take_append_cons_drop,if_pos h,SV];rfl
theorem JE(i:Nat)(p:Str×D):(rk K i [p]).length=K.length:=by
 unfold rk;split
 ·rename_i z;rw[RZ,RZ,RQ,R1,R6];omega
 ·rfl
theorem ya(F:Fk K R)(i:Nat)(os:L)(ho:os.length<=10):ai cp 3 3 [fm K R,.int i,.tup (os.map fld)]=.ok (fm (rk K i os) (rr K R i os)):=by
 have h:=F.len;rw[RZ]at h;have w:=zO (K.map fld) (R.map fld) (os.map fld) i (by rw[RJ,RJ,RJ];omega);rw[w,RJ];unfold fm rk rr;by_cases z:i<K.length
 ·rw[if_pos z,if_pos z,if_pos z,SK,SK,TV,TY]
 ·rw[if_neg z,if_neg z,if_neg z,SK,SK,TV,TY]
theorem yO{xs:av}(h:xs.Nodup){i:Nat}{n:Str}(hn:∀j,j≠i->xs[j]?≠some n):(xs.set i n).Nodup:=by
 refine List.pairwise_iff_getElem.mpr λa b ha hb hab=>?_;rw[R4]at ha hb;rw[List.getElem_set,List.getElem_set];have w:=List.pairwise_iff_getElem.mp h a b ha hb hab;split
 ·split
  ·omega
  ·exact λz=>hn b ‹0› (by rw[Sz hb,z])
 ·split
  ·exact λz=>hn a ‹0› (by rw[Sz ha,<-z])
  ·exact w
end
theorem dy(m:Str)(tbl:List (Str×(bE)))(c:Str)(fs:av)(vs:List D)(g:bE)(fo:FX)(fas:aW)(ρ:ak)(h:fo ρ=.ok (.obj c fs vs))(l:tbl.lookup c=some g)(hm:fs.contains m=false):bH m tbl fo fas ρ=(fas ρ).bind λas=>g (.obj c fs vs::as):=by
 unfold bH;rw[h,df];simp only[l,hm];rfl
noncomputable abbrev oR(o n:Str):D:=.obj "Rename" ["old","new"] [.str o,.str n]
noncomputable abbrev oV(a:Str)(k:D):D:=.obj "Sieve" ["name","kind"] [.str a,k]
noncomputable abbrev oS:D:=.obj "Step" [] []
noncomputable abbrev leaf(t:Str):D:=.obj "Leaf" ["name"] [.str t]
noncomputable abbrev over(g s:D):D:=.obj "Over" ["glass","step"] [g,s]
noncomputable abbrev Nt:List (Str×(bE)):=[("Step",(ai bg 2 2)),("Rename",(ai aQ 2 3)),("Sieve",(ai aU 2 5))]
noncomputable abbrev JY(ro rb:bE):List (Str×(bE)):=[("Leaf",(ai bz 2 2)),("Over",ro),("Both",rb)]
noncomputable def So(s:D)(g:bE):Prop:=∃c fs vs,s=.obj c fs vs/\Nt.lookup c=some g/\fs.contains ("view_form":Str)=false
noncomputable def Go(n:Nat)(s:D)(g:bE):Prop:=∃c fs vs,s=.obj c fs vs/\(JY (ay n) (az n)).lookup c=some g/\fs.contains ("form":Str)=false
theorem OW(o n:Str):So (oR o n) (ai aQ 2 3):=⟨_,_,_,rfl,by kernel_rfl,by decide +kernel⟩
theorem M1(a:Str)(k:D):So (oV a k) (ai aU 2 5):=⟨_,_,_,rfl,by kernel_rfl,by decide +kernel⟩
theorem M2:So oS (ai bg 2 2):=⟨_,_,_,rfl,by kernel_rfl,by decide +kernel⟩
theorem MQ(n:Nat)(t:Str):Go n (leaf t) (ai bz 2 2):=⟨_,_,_,rfl,by kernel_rfl,by decide +kernel⟩
theorem OM(n:Nat)(g s:D):Go n (over g s) (ay n):=⟨_,_,_,rfl,by kernel_rfl,by decide +kernel⟩
theorem Go.meth{n:Nat}{g:D}{gf:bE}(h:Go n g gf)(fo:FX)(fas:aW)(ρ:ak)(e:fo ρ=.ok g):bH "form" (JY (ay n) (az n)) fo fas ρ=(fas ρ).bind λas=>gf (g::as):=by
 obtain⟨c,fs,vs,rfl,l,hm⟩:=h;exact dy "form" _ c fs vs gf fo fas ρ e l hm
theorem So.meth{s:D}{g:bE}(h:So s g)(fo:FX)(fas:aW)(ρ:ak)(e:fo ρ=.ok s):bH "view_form" Nt fo fas ρ=(fas ρ).bind λas=>g (s::as):=by
 obtain⟨c,fs,vs,rfl,l,hm⟩:=h;exact dy "view_form" _ c fs vs g fo fas ρ e l hm
theorem Hw(r:R D)(ρ:ak):o8 r {nx:=λ_=>.ok D.non} ρ .ok=r:=by
 cases r with
 |ok d=>rfl
 |error x=>cases x<;>rfl
noncomputable def Fm(n:Nat)(g fs:D)(r:R D):Prop:=∃gf,Go n g gf/\gf [g,fs]=r
theorem dL(g s:D):aC "glass" ["Over"] (over g s)=some g:=by rfl
theorem ga(g s:D):aC "step" ["Over"] (over g s)=some s:=by rfl
section
variable{n:Nat}{g fs s:D}{gv:bE}
theorem EC{r:R D}(h:Fm n g fs r)(hs:So s gv):Fm (n+1) (over g s) fs (r.bind λf=>gv [s,f]):=by
 obtain⟨gf,hg,e⟩:=h;refine⟨_,OM _ _ _,?_⟩;have m1:=hs.meth (f1 (aC "step" ["Over"]) (af 0)) (ae (bH "form" (JY (ay n) (az n)) (f1 (aC "glass" ["Over"]) (af 0)) (ae (af 1) ah)) ah) [‹over g s›,‹fs›] (by simp! only[ga]);have m2:=hg.meth (f1 (aC "glass" ["Over"]) (af 0)) (ae (af 1) ah) [‹over g s›,‹fs›] (by simp! only[dL]);rw[fw,bG];unfold iB;cases r with
 |ok f=>simp! only[m1,m2,e,Hw]
 |error x=>simp! only[m1,m2,e,Hw]
theorem EG{f:D}(h:Fm n g fs (.ok f))(hs:So s gv):Fm (n+1) (over g s) fs (gv [s,f]):=EC h hs
end
theorem BV(o x:Str):aC "old" ["Rename"] (oR o x)=some (.str o):=by rfl
theorem CQ(o x:Str):aC "new" ["Rename"] (oR o x)=some (.str x):=by rfl
theorem By(a:Str)(k:D):aC "name" ["Sieve"] (oV a k)=some (.str a):=by rfl
theorem u9(a:Str)(k:D):aC "kind" ["Sieve"] (oV a k)=some k:=by rfl
theorem whole(m:Int):ai hJ 1 1 [.int m]=.ok (.bl true):=by
 have t1:wo "int" (.int m)=some (.bl true):=rfl;have t2:wo "bool" (.int m)=some (.bl false):=rfl;rw[dC];unfold hJ;simp! only[t1,t2];rfl
theorem yK(t:Str):aC "name" ["Leaf"] (leaf t)=some (.str t):=by rfl
theorem xX{xs:List D}(h:xs≠[])(p:pl (.tup xs)=true):gEq (.tup xs) (.tup [])=some (.bl false):=by
 have e:gEq (.tup xs) (.tup [])=if(pl (.tup xs)&&pl (.tup []))&&(bY 8 (.tup xs)||bY 8 (.tup []))then some (.bl (pyEq (.tup xs) (.tup [])))else none:=rfl
 have p2:pl (.tup [])=true:=rfl;have d2:bY 8 (.tup [])=true:=rfl;have q:pyEq (.tup xs) (.tup [])=false:=by
  rw[pyEq];cases xs with
  |nil=>exact absurd rfl h
  |cons _ _=>unfold cy;rfl
 rw[e,p,p2,d2,Bool.or_true,q];rfl
theorem wr(i:Int)(h:i.natAbs<10^70):∃x:Str,ai cV 1 1 [.int i]=.ok (.str x):=by
 obtain⟨x,ex⟩:=str_int i h;have t:wo "str" (.int i)=some (.bl false):=rfl;refine⟨x,?_⟩;rw[dC];unfold cV;simp! only[t,ex]
noncomputable abbrev Jj:List (Str×(bE)):=[("Step",(ai cO 1 1)),("Rename",(ai cI 1 1)),("Sieve",(ai bU 1 1))]
noncomputable abbrev Md:List (Str×(bE)):=[("Step",(ai aR 2 2)),("Rename",(ai aR 2 2)),("Sieve",(ai bV 2 3))]
theorem PZ(a b c d:D):qV [a,b,c,d]=some (.tup [a,b,c,d]):=nr rfl
noncomputable def Wd(s:D):Prop:=∃(c:Str)(fs:av)(vs:List D)(gw:bE)(xs:av),s=.obj c fs vs/\Jj.lookup c=some gw/\fs.contains ("words":Str)=false/\gw [s]=.ok (.tup (xs.map .str))/\xs≠[]
theorem Wd.meth{s:D}(h:Wd s):∃xs:av,xs≠[]/\∀(fo:FX)(ρ:ak),fo ρ=.ok s->bH "words" Jj fo ah ρ=.ok (.tup (xs.map .str)):=by
 obtain⟨c,fs,vs,gw,xs,rfl,l,hm,e,hx⟩:=h;refine⟨xs,hx,λfo ρ h=>?_⟩;rw[dy "words" Jj c fs vs gw fo ah ρ h l hm];simp! only[e]
theorem uk(xs:av):pl (.tup (xs.map .str))=true:=by
 rw[cK];exact ur _ (λ_=>rfl) xs
theorem Gq{s:D}(w:Wd s)(j:bF ["Sieve"] ["Step","Rename"] s=some (.bl false))(f:D):ai bL 2 2 [f,s]=.ok (.bl false):=by
 obtain⟨xs,hx,m⟩:=w.meth;have m:=m (af 1) [‹f›,‹s›] rfl;have q:=xX (xs:=xs.map D.str) (by simpa using hx) (uk xs);rw[bG];unfold bL;simp! only[m,MI,q,j];rfl
theorem OQ(a b:Str):Wd (oR a b):=by
 refine⟨_,_,_,ai cI 1 1,["rename",a,b],rfl,by kernel_rfl,by decide +kernel,?_,by simp⟩;rw[dC];unfold cI;simp! only[BV,CQ,Lb]
theorem Ng(a:Str)(lo hi:Int)(h:lo.natAbs<10^70)(h':hi.natAbs<10^70):Wd (oV a (num lo hi)):=by
 obtain⟨y,ey⟩:=wr lo h;obtain⟨z,ez⟩:=wr hi h';refine⟨_,_,_,ai bU 1 1,["sieve",a,y,z],rfl,by kernel_rfl,by decide +kernel,?_,by simp⟩;rw[dC];unfold bU;simp! only[u9,By,oW,ey,ez,PZ]
noncomputable def bi(ws:av):D:=.tup [.str "word",.tup (ws.map .str)]
theorem J9(w:Str)(h:w.length<=100):∃x:Str,ai cV 1 1 [.str w]=.ok (.str x):=by
 have t:wo "str" (.str w)=some (.bl true):=rfl;have l1:(".":Str).length<=1000:=by decide +kernel
 have ex:=jW "." w l1 ‹0›;refine⟨"."++w,?_⟩;rw[dC];unfold cV;simp! only[t,ex]
inductive Kd
 |kn (lo hi:Int)
 |kw (ws:av)
noncomputable def Kd.d:Kd->D
 |.kn a b=>num a b
 |.kw ws=>bi ws
noncomputable def Kd.n:Kd->Bool
 |.kn _ _=>true
 |.kw _=>false
noncomputable def Kd.ib:Kd->Kd->Kd
 |.kn a b,.kn c d=>.kn (max a c) (min b d)
 |.kw a,.kw b=>.kw (a.filter λw=>b.contains w)
 |k,_=>k
noncomputable def Kd.ok:Kd->Prop
 |.kn a b=>a<=b/\a.natAbs<10^65/\b.natAbs<10^65
 |.kw ws=>ws≠[]/\ws.length<=50/\∀w∈ws,w.length<=100
theorem Kd.assoc{k a b:Kd}(h:k.n=a.n)(h':a.n=b.n):(k.ib a).ib b=k.ib (a.ib b):=by
 cases k<;>cases a<;>cases b<;>first|exact Bool.noConfusion h|exact Bool.noConfusion h'|skip
 ·show Kd.kn _ _=Kd.kn _ _;congr 1<;>omega
 ·show Kd.kw _=Kd.kw _;rw[TZ];congr 1;refine T1 λw _=>?_;rw[T2,R3,T3,T3,T3,List.mem_filter,T3];exact⟨λz=>⟨z.2,z.1⟩,λz=>⟨z.2,z.1⟩⟩
theorem Kd.ib_n{k a:Kd}(h:k.n=a.n):(k.ib a).n=k.n:=by
 cases k<;>cases a<;>first|rfl|exact Bool.noConfusion h
theorem Kd.ib_ok{k a b:Kd}(h:k.n=a.n)(h':a.n=b.n)(oa:a.ok)(ob:b.ok)(e:((k.ib a).ib b).ok):(a.ib b).ok:=by
 rw[Kd.assoc h h']at e;cases k<;>cases a<;>cases b<;>first|exact Bool.noConfusion h|exact Bool.noConfusion h'|skip
 ·obtain⟨a1,a2,a3⟩:=oa;obtain⟨b1,b2,b3⟩:=ob;obtain⟨e1,_,_⟩:=e;exact⟨by omega,by omega,by omega⟩
 ·obtain⟨a1,a2,a3⟩:=oa;obtain⟨e1,_,_⟩:=e;refine⟨λz=>e1 ?_,Rq (T5 ..) a2,λw hw=>a3 w (List.mem_filter.mp hw).1⟩;rw[z];exact List.filter_eq_nil_iff.mpr λw _ q=>by cases q
theorem Hs(ws vs:av)(ρ:ak):xj [none,‹bi vs›] (gN 0) (fB (f2 xx (af 0) (f2 ao (af 1) (fC (.int 1))))) (af 0) (ws.map .str)=.ok ((ws.filter λw=>vs.contains w).map .str):=by
 refine pV (λw:Str=>.str w) (λw=>vs.contains w) (λw=>.str w) ws λw hw=>⟨[‹.str w›,‹bi vs›],rfl,?_,λ_=>rfl⟩
 have i1:ao (bi vs) (.int 1)=some (.tup (vs.map .str)):=h7 _ _ _;simp! only[i1,pQ]
theorem Kx(ws vs:av)(hl:ws.length<=1000)(x:Option S):hX [none,some 1] (bR (f2 ao (af 0) (fC (.int 1)))) (gN 0) (fB (f2 xx (af 0) (f2 ao (af 1) (fC (.int 1))))) (af 0) [‹bi ws›,‹bi vs›,x]=.ok (.lst ((ws.filter λw=>vs.contains w).map .str)):=by
 have i1:ao (bi ws) (.int 1)=some (.tup (ws.map .str)):=h7 _ _ _;refine gI (ds:=ws.map .str) (by simp! only[i1]) (by rw[RJ];omega) (Hs ws vs [])
theorem Ie(ws vs:av)(hl:ws.length<=1000):hX [none,some 1] (bR (f2 ao (af 0) (fC (.int 1)))) (gN 0) (fB (f2 xx (af 0) (f2 ao (af 1) (fC (.int 1))))) (af 0) [‹bi ws›,‹bi vs›]=.ok (.lst ((ws.filter λw=>vs.contains w).map .str)):=by
 have i1:ao (bi ws) (.int 1)=some (.tup (ws.map .str)):=h7 _ _ _;refine gI (ds:=ws.map .str) (by simp! only[i1]) (by rw[RJ];omega) (Hs ws vs [])
theorem Px(a c:Int):kz [.int a,.int c]=some (.int (max a c)):=by
 rw[mF];congr 2;by_cases z:c>a
 ·rw[if_pos z];omega
 ·rw[if_neg z];omega
theorem PF(a c:Int):lP [.int a,.int c]=some (.int (min a c)):=by
 rw[mD];congr 2;by_cases z:c<a
 ·rw[if_pos z];omega
 ·rw[if_neg z];omega
theorem ww:(("word":Str)==("word":Str))=true:=by decide +kernel
theorem ut{a b:Kd}(h:a.n=b.n)(oa:a.ok)(o:(a.ib b).ok):ai iG 2 2 [a.d,b.d]=.ok (a.ib b).d:=by
 cases a<;>cases b<;>first|exact Bool.noConfusion h|skip
 ·rename_i a b c d;have o:max a c<=min b d:=o.1;have a1:=Px a c;have a2:=PF b d;have bn:ai dM 2 4 [num a b,num c d]=.ok (num (max a c) (min b d)):=by
   rw[bG];unfold dM;simp! only[a1,a2,decide_eq_true o,Lb]
  show ai iG 2 2 [num a b,num c d]=.ok (num (max a c) (min b d));rw[bG];unfold iG;simp! only[oW,bn]
 ·rename_i a b;have o:(a.filter λw=>b.contains w)≠[]:=o.1;have la:a.length<=1000:=by have:=oa.2.1;omega
  have lc:=Kx a b la none;have tr:((a.filter λw=>b.contains w).map D.str).isEmpty=false:=by
   cases z:(a.filter λw=>b.contains w)with
   |nil=>exact absurd z o
   |cons _ _=>rfl
  have bw:ai eT 2 3 [bi a,bi b]=.ok (bi (a.filter λw=>b.contains w)):=by
   rw[bG];unfold eT;have e:bi (a.filter λw=>b.contains w)=.tup [.str "word",.tup ((a.filter λw=>b.contains w).map .str)]:=rfl;rw[e];generalize bi a=ka at *;generalize bi b=kb at *;simp! only[lc,tr,uo]
  have j0:∀ws,ao (bi ws) (.int 0)=some (.str "word"):=λws=>gH _ _;show ai iG 2 2 [bi a,bi b]=.ok (bi (a.filter λw=>b.contains w));rw[bG];unfold iG;have ja:=j0 a;have jb:=j0 b;generalize bi (a.filter λw=>b.contains w)=kc at *;generalize bi a=ka at *;generalize bi b=kb at *;simp! only[ja,jb,ww,o9,bw]
theorem Jl{a b:Kd}(h:a.n=b.n)(oa:a.ok):ai bM 2 2 [a.d,b.d]=.ok (a.ib b).d:=by
 cases a<;>cases b<;>first|exact Bool.noConfusion h|skip
 ·rename_i a b c d;show ai bM 2 2 [num a b,num c d]=.ok (num (max a c) (min b d));have a1:=Px a c;have a2:=PF b d;rw[bG];unfold bM;simp! only[oW,a1,a2,Lb]
 ·rename_i a b;have la:a.length<=1000:=by have:=oa.2.1;omega
  have lc:=Ie a b la;have j0:∀ws,ao (bi ws) (.int 0)=some (.str "word"):=λws=>gH _ _;have e:(Kd.ib (.kw a) (.kw b)).d=.tup [.str "word",.tup ((a.filter λw=>b.contains w).map .str)]:=rfl;rw[e];show ai bM 2 2 [bi a,bi b]=_;rw[bG];unfold bM;have ja:=j0 a;generalize bi a=ka at *;generalize bi b=kb at *;simp! only[ja,o9,lc,uo]
theorem xP:∀a b:av,cy (a.map .str) (b.map .str)=true↔a=b
 |[],[]=>by simp[cy]
 |[],_::_=>by simp[cy]
 |_::_,[]=>by simp[cy]
 |x::a,y::b=>by
  rw[RH,RH,cy,R3,xP a b,pyEq,List.cons.injEq];simp
theorem Kd.eq_iff{a b:Kd}(h:a.n=b.n):pyEq a.d b.d=true↔a=b:=by
 cases a<;>cases b<;>first|exact Bool.noConfusion h|skip
 ·show pyEq (num _ _) (num _ _)=true↔_;simp only[pyEq,cy,BEq.rfl,Bool.true_and,SD,R3,Kd.kn.injEq,beq_iff_eq]
 ·rename_i a b;show pyEq (.tup [.str "word",.tup (a.map .str)]) (.tup [.str "word",.tup (b.map .str)])=true↔_;rw[pyEq,cy,cy,cy,pyEq,pyEq,Kd.kw.injEq,SD,ww,Bool.true_and,xP]
theorem Kd.pl(k:Kd):pl k.d=true:=by
 cases k with
 |kn a b=>rfl
 |kw ws=>
  show(TG.pl (.str "word")&&(TG.pl (.tup (ws.map .str))&&true))=true;rw[uk];rfl
theorem Kd.dep(k:Kd):bY 8 k.d=true:=by
 cases k with
 |kn a b=>rfl
 |kw ws=>
  show(true&&((ws.map D.str).all (bY 6)&&true))=true;have q:((ws.map D.str).all (bY 6))=true:=by
   rw[Sy];exact List.all_eq_true.mpr λ_ _=>rfl
  rw[q];rfl
theorem Kd.gEq(a b:Kd):gEq a.d b.d=some (.bl (pyEq a.d b.d)):=by
 have e:TG.gEq a.d b.d=if(TG.pl a.d&&TG.pl b.d)&&(bY 8 a.d||bY 8 b.d)then some (.bl (pyEq a.d b.d))else none:=rfl
 rw[e,a.pl,b.pl,a.dep];rfl
theorem Kd.idx(k:Kd):TG.ao k.d (.int 0)=some (.str (if k.n then"number"else"word")):=by cases k<;>exact gH _ _
theorem KR(a:Str)(k:Kd)(h:k.ok):Wd (oV a k.d):=by
 cases k with
 |kn lo hi=>
  have s:(10:Nat)^65<10^70:=by decide +kernel
  exact Ng a lo hi (by have:=h.2.1;omega) (by have:=h.2.2;omega)
 |kw ws=>
  obtain⟨h1,h2,h3⟩:=h;obtain⟨f,hf⟩:∃f:Str->Str,∀w∈ws,ai cV 1 1 [.str w]=.ok (.str (f w)):=by
   refine⟨λw=>if z:w.length<=100 then(J9 w z).choose else"",λw hw=>?_⟩;have q:=h3 w hw;show _=Except.ok (D.str (if z:w.length<=100 then(J9 w z).choose else""));rw[dif_pos q];exact(J9 w q).choose_spec
  have i0:TG.ao (bi ws) (.int 0)=some (.str "word"):=gH _ _;have i1:TG.ao (bi ws) (.int 1)=some (.tup (ws.map .str)):=h7 _ _ _;have lc:hX [none] (bR (f2 TG.ao (TG.f1 (aC "kind" ["Sieve"]) (af 0)) (fC (.int 1)))) (gN 0) dq (fR (ai cV 1 1) (ae (af 0) ah)) [‹oV a (bi ws)›]=.ok (.lst (ws.map λw=>.str (f w))):=by
   refine gI (ds:=ws.map .str) ?_ (by rw[RJ];omega) ?_
   ·generalize bi ws=kk at *;simp! only[u9,i1]
   ·refine pU (λw:Str=>D.str w) _ ws λw hw=>⟨_,rfl,rfl,?_⟩
    have e:=hf w hw;simp! only[e]
  have ad:=hU [.str "keep",.str a] (ws.map λw=>.str (f w)) (by rw[RJ];show 2+ws.length<=100000;omega);refine⟨_,_,_,ai bU 1 1,"keep"::a::ws.map f,rfl,by kernel_rfl,by decide +kernel,?_,by simp⟩;have e:D.tup ((("keep":Str)::a::ws.map f).map .str)=.tup (.str "keep"::.str a::ws.map λw=>.str (f w)):=by rw[RH,RH,Tu];rfl
  rw[e];show ai bU 1 1 [oV a (bi ws)]=_;rw[dC];unfold bU;generalize bi ws=kk at *;simp! only[u9,By,i0,o9,lc,uo,ad]
section
variable{K R:L}
theorem Gh{x:Str}(h:x∉(K++R).map (·.1)):((K++R).map (·.1)).contains x=false:=by
 cases z:((K++R).map (·.1)).contains x with
 |false=>rfl
 |true=>exact absurd (List.contains_iff_mem.mp z) h
theorem Iy(F:Fk K R){i:Nat}{o x:Str}{k:D}(hi:(K++R)[i]?=some (o,k))(hx:x∉(K++R).map (·.1)):ai aQ 2 3 [oR o x,fm K R]=.ok (fm (rk K i [(x,k)]) (rr K R i [(x,k)])):=by
 have p:=F.at hi;have c:=Gh hx;have w:=ya F i [(x,k)] (by simp);have w:ai cp 3 3 [fm K R,.int i,.tup [.tup [.str x,k]]]=.ok (fm (rk K i [(x,k)]) (rr K R i [(x,k)])):=w;have kd:=F.kd hi;have nms:=F.nms;rw[bG];unfold aQ;generalize fm (rk K i [(x,k)]) (rr K R i [(x,k)])=ff at *;generalize fm K R=f0 at *;simp! only[BV,CQ,p,nms,Dz,c,kd,uo,Mp,w]
theorem HD(F:Fk K R){i:Nat}{x:Str}{k c:Kd}(hi:(K++R)[i]?=some (x,k.d))(h:k.n=c.n)(ok:k.ok)(oi:(k.ib c).ok):ai aU 2 5 [oV x c.d,fm K R]=.ok (fm (rk K i [(x,(k.ib c).d)]) (rr K R i [(x,(k.ib c).d)])):=by
 have p:=F.at hi;have w:=ya F i [(x,(k.ib c).d)] (by simp);have w:ai cp 3 3 [fm K R,.int i,.tup [.tup [.str x,(k.ib c).d]]]=.ok (fm (rk K i [(x,(k.ib c).d)]) (rr K R i [(x,(k.ib c).d)])):=w;have kd:=F.kd hi;have bo:=ut h ok oi;have nn:isNon (k.ib c).d=false:=by cases k.ib c<;>rfl
 have f1':=u9 x c.d;have f2':=By x c.d;have g1:=k.idx;have g2:=c.idx;rw[<-h]at g2;have ss:((if k.n=true then("number":Str)else"word")==(if k.n=true then("number":Str)else"word"))=true:=by simp
 rw[bG];unfold aU;generalize fm (rk K i [(x,(k.ib c).d)]) (rr K R i [(x,(k.ib c).d)])=ff at *;generalize fm K R=f0 at *;generalize (k.ib c).d=kc at *;generalize k.d=kk at *;generalize (if k.n=true then("number":Str)else"word")=so at *;generalize oV x c.d=ov at *;generalize c.d=cc at *;simp! only[f1',f2',p,kd,g1,g2,ss,bo,nn,uo,Mp,w]
theorem En(F:Fk K R){i:Nat}{x:Str}{k c:Kd}(hi:(K++R)[i]?=some (x,k.d))(h:k.n=c.n)(ok:k.ok)(oc:c.ok)(oi:(k.ib c).ok):ai bL 2 2 [fm K R,oV x c.d]=.ok (.bl (pyEq (k.ib c).d k.d)):=by
 obtain⟨xs,hx,m⟩:=(KR x c oc).meth;have p:=F.at hi;have kd:=F.kd hi;have bo:=ut h ok oi;have ge:=Kd.gEq (k.ib c) k;have f1':=u9 x c.d;have f2':=By x c.d;have ex:ai bV 2 3 [oV x c.d,fm K R]=.ok (.bl (pyEq (k.ib c).d k.d)):=by
  rw[bG];unfold bV;generalize pyEq (k.ib c).d k.d=bb at *;generalize fm K R=f0 at *;generalize (k.ib c).d=kc at *;generalize k.d=kk at *;generalize oV x c.d=ov at *;generalize c.d=cc at *;simp! only[f1',f2',p,kd,bo,ge]
 have m1:=m (af 1) [‹fm K R›,‹oV x c.d›] rfl;have m2:bH "exact" Md (af 1) (ae (af 0) ah) [‹fm K R›,‹oV x c.d›]=((ae (af 0) ah) [‹fm K R›,‹oV x c.d›]).bind λas=>ai bV 2 3 (oV x c.d::as):=dy "exact" Md "Sieve" ["name","kind"] [.str x,c.d] (ai bV 2 3) (af 1) (ae (af 0) ah) [‹fm K R›,‹oV x c.d›] rfl (by kernel_rfl) (by decide +kernel);have q:=xX (xs:=xs.map D.str) (by simpa using hx) (uk xs);have j:∀kk,bF ["Sieve"] ["Step","Rename"] (oV x kk)=some (.bl true):=λkk=>by kernel_rfl
 have j:=j c.d;rw[bG];unfold bL;generalize pyEq (k.ib c).d k.d=bb at *;generalize fm K R=f0 at *;generalize oV x c.d=ov at *;simp! only[m1,MI,q,j,m2,ex];rfl
end
noncomputable abbrev ic(t:Str)(f:D):D:=mC [(.inr t,f)]
theorem Dc(t:Str)(f:D):ng [(.str t,f)]=some (ic t f):=by
 unfold ng;have e:kB [(.str t,f)]=some [(.inr t,f)]:=rfl;rw[e];rfl
theorem yc(fs:List (FX×FX))(ρ:ak):fj fs ρ=(wA (zQ fs ρ)).bind λps=>rO (ng ps):=rfl
theorem yF(ρ:ak):zQ [] ρ=.ok []:=rfl
theorem uQ(fk fv:FX)(r:List (FX×FX))(ρ:ak):zQ ((fk,fv)::r) ρ=(fk ρ).bind λk=>(fv ρ).bind λv=>(zQ r ρ).bind λps=>.ok ((k,v)::ps):=rfl
theorem Hq{α:Type}(a:α):wA (.ok a:R α)=.ok a:=rfl
theorem gg(t:Str)(f:D):Hj (ic t f) (.str t)=some (some f):=by
 unfold Hj;show((kJ (eU [((.inr t:Key),f)]) ([((.inr t:Key),f)].map (·.2))).bind λal=>(keyOf (.str t)).map λq=>og al q)=_;rw[oB];show some (og [((.inr t:Key),f)] (.inr t))=_;unfold og;rw[R8,decide_eq_true (rfl:(Sum.inr t:Key)=Sum.inr t)];rfl
theorem E8(m:Nat)(t:Str)(f:D):Fm m (leaf t) (ic t f) (.ok f):=by
 refine⟨_,MQ _ _,?_⟩;have g:=gg t f;have g1:jx (.str t) (ic t f)=some (.bl false):=by unfold jx;rw[g];rfl
 have g2:lU (ic t f) (.str t)=some f:=by unfold lU;rw[g];rfl
 rw[bG];unfold bz;generalize ic t f=fs at *;simp! only[yK,g1,g2]
section
variable{g fs:D}
theorem GN{f d:D}(h:Fm 15 g fs (.ok f))(t:cT 15 [fs,g]=.ok d):ai gW 2 2 [fs,g]=.ok d:=by
 obtain⟨gf,hg,e⟩:=h;have m:=hg.meth (af 1) (ae (af 0) ah) [‹fs›,‹g›] rfl;rw[bG];unfold gW;simp! only[m,e,A1,t]
theorem zk(m:Nat)(t:Str):cT (m+1) [fs,leaf t]=.ok (leaf t):=by
 have j1:bF ["Over"] ["Leaf","Both"] (leaf t)=some (.bl false):=by kernel_rfl
 have j2:bF ["Both"] ["Leaf","Over"] (leaf t)=some (.bl false):=by kernel_rfl
 rw[iw,bG];unfold qp;simp! only[j1,j2]
theorem yY{m:Nat}{s g' d:D}(h:cT m [fs,g]=.ok g')(hl:aO 15 [fs,g',s]=.ok d):cT (m+1) [fs,over g s]=.ok d:=by
 have j1:bF ["Over"] ["Leaf","Both"] (over g s)=some (.bl true):=by kernel_rfl
 rw[iw,bG];unfold qp;simp! only[j1,dL,ga,h,hl]
end
theorem Om:∀(fas:aW)(ρ:ak),fNew "Over" ["glass","step"] fas ρ=(fas ρ).bind λas=>if as.length=2 then .ok (.obj "Over" ["glass","step"] as)else un:=λ_ _=>rfl
theorem PL:∀(fas:aW)(ρ:ak),fNew "Leaf" ["name"] fas ρ=(fas ρ).bind λas=>if as.length=1 then .ok (.obj "Leaf" ["name"] as)else un:=λ_ _=>rfl
theorem JG:bF ["Rename"] ["Step","Sieve"] (oS)=some (.bl false):=by kernel_rfl
theorem FZ(o n:Str):bF ["Rename"] ["Step","Sieve"] (oR o n)=some (.bl true):=by kernel_rfl
theorem EE(a:Str)(k:D):bF ["Rename"] ["Step","Sieve"] (oV a k)=some (.bl false):=by kernel_rfl
theorem Jn:bF ["Sieve"] ["Step","Rename"] (oS)=some (.bl false):=by kernel_rfl
theorem D3(o n:Str):bF ["Sieve"] ["Step","Rename"] (oR o n)=some (.bl false):=by kernel_rfl
theorem GU(a:Str)(k:D):bF ["Sieve"] ["Step","Rename"] (oV a k)=some (.bl true):=by kernel_rfl
theorem Kn(o n:Str):bF ["Part"] ["Step","Rename","Sieve"] (oR o n)=some (.bl false):=by kernel_rfl
theorem Kg(a:Str)(k:D):bF ["Part"] ["Step","Rename","Sieve"] (oV a k)=some (.bl false):=by kernel_rfl
theorem Ki(o n:Str):bF ["Fuse"] ["Step","Rename","Sieve"] (oR o n)=some (.bl false):=by kernel_rfl
theorem Kj(a:Str)(k:D):bF ["Fuse"] ["Step","Rename","Sieve"] (oV a k)=some (.bl false):=by kernel_rfl
theorem Ke(o n:Str):bF ["Nest"] ["Step","Rename","Sieve"] (oR o n)=some (.bl false):=by kernel_rfl
theorem Kf(a:Str)(k:D):bF ["Nest"] ["Step","Rename","Sieve"] (oV a k)=some (.bl false):=by kernel_rfl
theorem Km(o n:Str):bF ["Unnest"] ["Step","Rename","Sieve"] (oR o n)=some (.bl false):=by kernel_rfl
theorem Kc(a:Str)(k:D):bF ["Unnest"] ["Step","Rename","Sieve"] (oV a k)=some (.bl false):=by kernel_rfl
theorem El(a:Str)(k:D):aC "name" ["Leaf","Nest","Unnest","Part","Fuse","Sieve"] (oV a k)=some (.str a):=by rfl
theorem Ce{fs f s:D}{t:Str}(m':Nat)(h:Fm 15 (leaf t) fs (.ok f))(hi:ai bL 2 2 [f,s]=.ok (.bl false)):aO (m'+1) [fs,leaf t,s]=.ok (over (leaf t) s):=by
 obtain⟨gf,hg,e⟩:=h;have m:=hg.meth (af 1) (ae (af 0) ah) [‹fs›,‹leaf t›,‹s›,none] rfl;have j1:bF ["Over"] ["Leaf","Both"] (leaf t)=some (.bl false):=by kernel_rfl
 have nn:isNon D.non=true:=rfl;rw[ck,cX];unfold de;simp! only[m,e,hi,j1,nn,Om]
theorem A2{fs f s g:D}(m':Nat)(h:Fm 15 g fs (.ok f))(hi:ai bL 2 2 [f,s]=.ok (.bl true)):aO (m'+1) [fs,g,s]=.ok g:=by
 obtain⟨gf,hg,e⟩:=h;have m:=hg.meth (af 1) (ae (af 0) ah) [‹fs›,‹g›,‹s›,none] rfl;rw[ck,cX];unfold de;simp! only[m,e,hi]
theorem JR(o n:Str):ai fN 2 2 [.str o,.str n]=.ok (.lst (if o=n then[]else[oR o n])):=by
 have nw:∀(fas:aW)(ρ:ak),fNew "Rename" ["old","new"] fas ρ=(fas ρ).bind λas=>if as.length=2 then .ok (.obj "Rename" ["old","new"] as)else un:=λ_ _=>rfl
 rw[bG];unfold fN;by_cases h:o=n
 ·have z:(o==n)=true:=by simpa using h
  rw[if_pos h];simp! only[z,Pn]
 ·have z:(o==n)=false:=by simpa using h
  rw[if_neg h];simp! only[z,nw,M0]
section
variable{fs f f1' g s0 s1 s2 r:D}
theorem jO(g s:D):bF ["Over"] ["Leaf","Both"] (over g s)=some (.bl true):=by kernel_rfl
theorem DY(m':Nat)(h0:Fm 15 g fs (.ok f))(h1:Fm 15 (over g s0) fs (.ok f1'))(hi:ai bL 2 2 [f1',s1]=.ok (.bl false))(hs:ai bD 3 3 [f,s0,s1]=.ok .non):aO (m'+1) [fs,over g s0,s1]=.ok (over (over g s0) s1):=by
 obtain⟨gf,hg,e⟩:=h0;obtain⟨gf',hg',e'⟩:=h1;have m:=hg'.meth (af 1) (ae (af 0) ah) [‹fs›,‹over g s0›,‹s1›,none] rfl;have m0:=hg.meth (TG.f1 (aC "glass" ["Over"]) (af 1)) (ae (af 0) ah) [‹fs›,‹over g s0›,‹s1›,‹.non›] (by simp! only[dL]);have nn:isNon D.non=true:=rfl;rw[ck,cX];unfold de;simp! only[m,e',hi,jO,m0,e,ga,hs,nn,Om]
theorem Gr(m':Nat)(h0:Fm 15 g fs (.ok f))(h1:Fm 15 (over g s0) fs (.ok f1'))(hi:ai bL 2 2 [f1',s1]=.ok (.bl false))(hs:ai bD 3 3 [f,s0,s1]=.ok (.lst [])):aO (m'+1) [fs,over g s0,s1]=.ok g:=by
 obtain⟨gf,hg,e⟩:=h0;obtain⟨gf',hg',e'⟩:=h1;have m:=hg'.meth (af 1) (ae (af 0) ah) [‹fs›,‹over g s0›,‹s1›,none] rfl;have m0:=hg.meth (TG.f1 (aC "glass" ["Over"]) (af 1)) (ae (af 0) ah) [‹fs›,‹over g s0›,‹s1›,‹.non›] (by simp! only[dL]);have nn:isNon (.lst [])=false:=rfl;rw[ck,cX];unfold de;simp! only[m,e',hi,jO,m0,e,ga,hs,nn,dL,List.isEmpty_nil,Tj]
theorem yk(m':Nat)(h0:Fm 15 g fs (.ok f))(h1:Fm 15 (over g s0) fs (.ok f1'))(hi:ai bL 2 2 [f1',s1]=.ok (.bl false))(hs:ai bD 3 3 [f,s0,s1]=.ok (.lst [s2]))(hr:aO m' [fs,g,s2]=.ok r):aO (m'+1) [fs,over g s0,s1]=.ok r:=by
 obtain⟨gf,hg,e⟩:=h0;obtain⟨gf',hg',e'⟩:=h1;have m:=hg'.meth (af 1) (ae (af 0) ah) [‹fs›,‹over g s0›,‹s1›,none] rfl;have m0:=hg.meth (TG.f1 (aC "glass" ["Over"]) (af 1)) (ae (af 0) ah) [‹fs›,‹over g s0›,‹s1›,‹.non›] (by simp! only[dL]);have nn:isNon (.lst [s2])=false:=rfl;have em:[s2].isEmpty=false:=rfl;rw[ck,cX];unfold de;simp! only[m,e',hi,jO,m0,e,ga,hs,nn,dL,em,TL,hr]
end
theorem Bs(f:D):ai bL 2 2 [f,oS]=.ok (.bl true):=by
 have w:ai cO 1 1 [oS]=.ok (.tup []):=by
  rw[dC];unfold cO;simp! only[MI]
 have m:=dy "words" Jj "Step" [] [] (ai cO 1 1) (af 1) ah [‹f›,‹oS›] rfl (by kernel_rfl) (by decide +kernel);have q:gEq (.tup []) (.tup [])=some (.bl true):=rfl;rw[bG];unfold bL;simp! only[m,w,MI,q]
theorem Jg(f:D)(o n n':Str):ai bD 3 3 [f,oR o n,oR n n']=.ok (.lst (if o=n' then[]else[oR o n'])):=by
 have r:=JR o n';rw[cX];unfold bD;generalize (if o=n' then[]else[oR o n'])=xs at *;simp! only[JG,FZ,EE,Jn,D3,GU,Kn,Kg,Ki,Kj,Ke,Kf,Km,Kc,BV,CQ,BEq.rfl,r]
theorem Fo(f:D)(o n o' n':Str)(h:n≠o'):ai bD 3 3 [f,oR o n,oR o' n']=.ok .non:=by
 have z:(n==o')=false:=by simpa using h
 rw[cX];unfold bD;simp! only[JG,FZ,EE,Jn,D3,GU,Kn,Kg,Ki,Kj,Ke,Kf,Km,Kc,BV,CQ,z]
theorem HH(f:D)(x:Str){a b:Kd}(h:a.n=b.n)(oa:a.ok)(o:(a.ib b).ok):ai bD 3 3 [f,oV x a.d,oV x b.d]=.ok (.lst [oV x (a.ib b).d]):=by
 have bo:=ut h oa o;have nw:∀(fas:aW)(ρ:ak),fNew "Sieve" ["name","kind"] fas ρ=(fas ρ).bind λas=>if as.length=2 then .ok (.obj "Sieve" ["name","kind"] as)else un:=λ_ _=>rfl
 rw[cX];unfold bD;generalize (a.ib b).d=kc at *;generalize a.d=ka at *;generalize b.d=kb at *;simp! only[JG,FZ,EE,Jn,D3,GU,Kn,Kg,Ki,Kj,Ke,Kf,Km,Kc,El,BEq.rfl,u9,bo,nw,M0]
theorem Ez(f:D)(a b:Str)(k k':D)(h:a≠b):ai bD 3 3 [f,oV a k,oV b k']=.ok .non:=by
 have z:(a==b)=false:=by simpa using h
 rw[cX];unfold bD;simp! only[JG,FZ,EE,Jn,D3,GU,Kn,Kg,Ki,Kj,Ke,Kf,Km,Kc,El,z]
theorem Jd(f:D)(o n:Str)(b:Str)(k':D):ai bD 3 3 [f,oR o n,oV b k']=.ok .non:=by
 rw[cX];unfold bD;simp! only[JG,FZ,EE,Jn,D3,GU,Kn,Kg,Ki,Kj,Ke,Kf,Km,Kc]
theorem IX(f:D)(o n:Str)(b:Str)(k':D):ai bD 3 3 [f,oV b k',oR o n]=.ok .non:=by
 rw[cX];unfold bD;simp! only[JG,FZ,EE,Jn,D3,GU,Kn,Kg,Ki,Kj,Ke,Kf,Km,Kc]
noncomputable abbrev QL:=List (Str×Kd)
noncomputable abbrev tD(p:Str×Kd):Str×D:=(p.1,p.2.d)
noncomputable def fq(km:Nat)(Q:QL):D:=fm ((Q.take km).map tD) ((Q.drop km).map tD)
noncomputable def Kd.sm:Kd->Prop
 |.kn a b=>a<=b/\a.natAbs<10^60/\b.natAbs<10^60
 |.kw ws=>ws≠[]/\ws.length<=50/\∀w∈ws,w.length<=100
theorem Kd.sm.ok'{k:Kd}(h:k.sm):k.ok:=by
 cases k with
 |kn a b=>
  have s:(10:Nat)^60<10^65:=by decide +kernel
  exact⟨h.1,Sd h.2.1 s,Sd h.2.2 s⟩
 |kw ws=>exact h
theorem Kd.sm_ib{k c:Kd}(h:k.n=c.n)(hk:k.sm)(o:(k.ib c).ok):(k.ib c).sm:=by
 cases k<;>cases c<;>first|exact Bool.noConfusion h|skip
 ·obtain⟨a1,a2,a3⟩:=hk;have o1:=o.1;exact⟨o1,by omega,by omega⟩
 ·exact o
structure Wf(km:Nat)(Q:QL):Prop where
 k1:1<=km
 k2:km<=4
 l1:km<=Q.length
 l2:Q.length<=7
 nd:(Q.map (·.1)).Nodup
 sm:∀p∈Q,p.2.sm
section
variable{km:Nat}{Q Q':QL}
theorem qe(km:Nat)(Q:QL):(Q.take km).map tD++(Q.drop km).map tD=Q.map tD:=by rw[<-SK,T6]
theorem Wf.fk(h:Wf km Q):Fk ((Q.take km).map tD) ((Q.drop km).map tD):=by
 have a:=h.k1;have b:=h.l1;have c:=h.k2;have d:=h.l2;refine⟨by rw[RJ,RQ];omega,by rw[RJ,RQ];omega,by rw[RJ,R1];omega,?_⟩;rw[qe,Tu];exact h.nd
theorem Wf.at(h:Wf km Q){i:Nat}{p:Str×Kd}(hi:Q[i]?=some p):((Q.take km).map tD++(Q.drop km).map tD)[i]?=some (tD p):=by
 rw[qe,RX,hi];rfl
theorem Ds(h:Wf km Q){i:Nat}(hi:i<Q.length)(p:Str×Kd):fm (rk ((Q.take km).map tD) i [tD p]) (rr ((Q.take km).map tD) ((Q.drop km).map tD) i [tD p])=fq km (Q.set i p):=by
 have b:=h.l1;have li:i<((Q.take km).map tD++(Q.drop km).map tD).length:=by rw[qe,RJ];exact hi
 have e:=Ln i (tD p) li;have l:=JE (K:=(Q.take km).map tD) i (tD p);have lk:((Q.take km).map tD).length=km:=by rw[RJ,RQ];omega
 rw[qe,<-T7]at e;have e1:rk ((Q.take km).map tD) i [tD p]=((Q.set i p).take km).map tD:=by
  have q:((Q.set i p).take km).map tD=((Q.set i p).map tD).take km:=TV;rw[q,<-e];exact(List.take_left' (l.trans lk)).symm
 have e2:rr ((Q.take km).map tD) ((Q.drop km).map tD) i [tD p]=((Q.set i p).drop km).map tD:=by
  have q:((Q.set i p).drop km).map tD=((Q.set i p).map tD).drop km:=TY;rw[q,<-e];exact(List.drop_left' (l.trans lk)).symm
 rw[e1,e2];rfl
theorem Wf.uniq(h:Wf km Q){i j:Nat}{x:Str}{k k':Kd}(hi:Q[i]?=some (x,k))(hj:Q[j]?=some (x,k')):i=j:=by
 have li:=(List.getElem?_eq_some_iff.mp hi).1;have lj:=(List.getElem?_eq_some_iff.mp hj).1;have ei:=(List.getElem?_eq_some_iff.mp hi).2;have ej:=(List.getElem?_eq_some_iff.mp hj).2;rcases Nat.lt_trichotomy i j with z|z|z
 ·exact absurd (by rw[TN,TN,ei,ej]) (List.pairwise_iff_getElem.mp h.nd i j (by rw[RJ];exact li) (by rw[RJ];exact lj) z)
 ·exact z
 ·exact absurd (by rw[TN,TN,ei,ej]) (List.pairwise_iff_getElem.mp h.nd j i (by rw[RJ];exact lj) (by rw[RJ];exact li) z)
theorem Wf.set(h:Wf km Q){i:Nat}{p p':Str×Kd}(hi:Q[i]?=some p)(hn:p'.1=p.1\/p'.1∉Q.map (·.1))(hs:p'.2.sm):Wf km (Q.set i p'):=by
 refine⟨h.k1,h.k2,by rw[R4];exact h.l1,by rw[R4];exact h.l2,?_,?_⟩
 ·rw[T7];refine yO h.nd λj ij z=>?_;rcases hn with e|e
  ·rw[RX]at z;cases hj:Q[j]? with
   |none=>rw[hj]at z;cases z
   |some q=>
    rw[hj]at z;have z:q.1=p'.1:=Option.some.inj z;exact ij (h.uniq (x:=p.1) (k:=q.2) (k':=p.2) (by rw[hj,<-e,<-z]) (by rw[hi]))
  ·exact e (RY z)
 ·intro q hq;rcases List.mem_or_eq_of_mem_set hq with z|z
  ·exact h.sm q z
  ·rw[z];exact hs
end
inductive As
 |s
 |r (o n:Str)
 |v (x:Str) (c:Kd)
noncomputable def As.d:As->D
 |.s=>oS
 |.r o n=>oR o n
 |.v x c=>oV x c.d
noncomputable def fit:Kd->D->Bool
 |.kn a b,.int v=>decide (a<=v)&&decide (v<=b)
 |.kw ws,.str w=>ws.contains w
 |_,_=>false
inductive Ap:QL->As->QL->(List D->Bool)->Prop
 |s (Q):Ap Q .s Q λ_=>true
 |r Q (i:Nat) (o n:Str) (k:Kd) (hi:Q[i]?=some (o,k)) (hn:n∉Q.map (·.1)):Ap Q (.r o n) (Q.set i (n,k)) λ_=>true
 |v Q (i:Nat) (x:Str) (k c:Kd) (hi:Q[i]?=some (x,k)) (h:k.n=c.n) (oc:c.ok) (o:(k.ib c).ok):Ap Q (.v x c) (Q.set i (x,k.ib c)) λw=>fit c (w.getD i .non)
inductive Rn(Q0:QL):List As->QL->(List D->Bool)->Prop
 |nil:Rn Q0 [] Q0 λ_=>true
 |cons {ss Q P a Q' p} (h:Rn Q0 ss Q P) (h':Ap Q a Q' p):Rn Q0 (a::ss) Q' λw=>P w&&p w
section
variable{km:Nat}{Q Q' Q0:QL}{a:As}{p P:List D->Bool}{ss:List As}
theorem Ap.wf(h:Ap Q a Q' p)(w:Wf km Q):Wf km Q':=by
 cases h with
 |s=>exact w
 |r i o n k hi hn=>exact w.set hi (.inr hn) (show k.sm from w.sm (o,k) (RY hi))
 |v i x k c hi h oc o=>exact w.set hi (.inl rfl) (Kd.sm_ib h (w.sm (x,k) (RY hi)) o)
theorem Rn.wf(h:Rn Q0 ss Q P)(w:Wf km Q0):Wf km Q:=by
 induction h with
 |nil=>exact w
 |cons _ h' ih=>exact h'.wf ih
noncomputable def Pz:As->(bE)
 |.s=>ai bg 2 2
 |.r _ _=>ai aQ 2 3
 |.v _ _=>ai aU 2 5
theorem HV(a:As):So a.d (Pz a):=by
 cases a with
 |s=>exact M2
 |r o n=>exact OW o n
 |v x c=>exact M1 x c.d
theorem gG{i:Nat}{q:Str×Kd}(h:Q[i]?=some q):i<Q.length:=(List.getElem?_eq_some_iff.mp h).1
theorem Ap.vf(h:Ap Q a Q' p)(w:Wf km Q):Pz a [a.d,fq km Q]=.ok (fq km Q'):=by
 cases h with
 |s=>
  show ai bg 2 2 [oS,fq km Q]=_;rw[bG];unfold bg;generalize fq km Q=ff;simp! only[]
 |r i o n k hi hn=>
  have e:=Iy w.fk (w.at hi) (x:=n) (by rw[qe,Tu];exact hn);have e2:=Ds w (gG hi) (n,k);have e2:fm (rk ((Q.take km).map tD) i [(n,k.d)]) (rr ((Q.take km).map tD) ((Q.drop km).map tD) i [(n,k.d)])=fq km (Q.set i (n,k)):=e2;rw[e2]at e;exact e
 |v i x k c hi h oc o=>
  have e:=HD w.fk (w.at hi) h (w.sm _ (RY hi)).ok' o;have e2:=Ds w (gG hi) (x,k.ib c);have e2:fm (rk ((Q.take km).map tD) i [(x,(k.ib c).d)]) (rr ((Q.take km).map tD) ((Q.drop km).map tD) i [(x,(k.ib c).d)])=fq km (Q.set i (x,k.ib c)):=e2;rw[e2]at e;exact e
noncomputable def gl(t:Str):List As->D
 |[]=>leaf t
 |a::ss=>over (gl t ss) a.d
theorem Rn.fm(h:Rn Q0 ss Q P)(w:Wf km Q0)(t:Str):∀m,ss.length<=m->Fm m (gl t ss) (ic t (fq km Q0)) (.ok (fq km Q)):=by
 induction h with
 |nil=>exact λm _=>E8 m t _
 |@cons ss Q P a Q' p h h' ih=>
  intro m hm;cases m with
  |zero=>simp at hm
  |succ m=>
   have:=EG (ih m (by simpa using hm)) (HV a)
   rw[h'.vf (h.wf w)]at this;exact this
theorem qC(o n:Str)(f:D):ai bL 2 2 [f,oR o n]=.ok (.bl false):=Gq (OQ _ _) (D3 _ _) f
theorem set_same{i:Nat}{q:Str×Kd}(h:Q[i]?=some q):Q.set i q=Q:=by
 have:=(List.getElem?_eq_some_iff.mp h).2
 rw[<-this];exact List.set_getElem_self ..
noncomputable def Ok(Q:QL)(w:List D):Prop:=∀i q,Q[i]?=some q->fit q.2 (w.getD i .non)=true
theorem ue{k c:Kd}(h:k.n=c.n)(v:D):fit (k.ib c) v=(fit k v&&fit c v):=by
 cases k<;>cases c<;>first|exact Bool.noConfusion h|skip
 ·cases v<;>first|rfl|skip
  rename_i a b c d v;show(decide (max a c<=v)&&decide (v<=min b d))=((decide (a<=v)&&decide (v<=b))&&(decide (c<=v)&&decide (v<=d)))
  rw[T2];simp only[R3,decide_eq_true_eq];omega
 ·cases v<;>first|rfl|skip
  rename_i a b v;show(a.filter λw=>b.contains w).contains v=(a.contains v&&b.contains v)
  rw[T2,R3,T3,List.mem_filter,T3,T3]
theorem Ap.ok(h:Ap Q a Q' p){w:List D}(ow:Ok Q w)(hp:p w=true):Ok Q' w:=by
 intro j q hj;cases h with
 |s=>exact ow j q hj
 |r i o n k hi hn=>
  by_cases e:j=i
  ·rw[e,Ry (gG hi)]at hj;cases hj;rw[e];exact(show fit k _=true from ow i (o,k) hi)
  ·rw[Rz (Ne.symm e)]at hj;exact ow j q hj
 |v i x k c hi h oc o=>
  by_cases e:j=i
  ·rw[e,Ry (gG hi)]at hj;cases hj;rw[e];show fit (k.ib c) _=true;rw[ue h,ow i _ hi];exact hp
  ·rw[Rz (Ne.symm e)]at hj;exact ow j q hj
theorem Rn.ok(h:Rn Q0 ss Q P){w:List D}(ow:Ok Q0 w)(hp:P w=true):Ok Q w:=by
 induction h with
 |nil=>exact ow
 |cons _ h' ih=>
  obtain⟨h1,h2⟩:=Bool.and_eq_true_iff.mp hp;exact h'.ok (ih h1) h2
noncomputable def Pr:As->List As->Prop
 |.r o _,.r _ n::_=>n≠o
 |.v x _,.v y _::_=>y≠x
 |_,_=>True
inductive Fr(Q0:QL):List As->Prop
 |nil:Fr Q0 []
 |cons {ts:List As} {Q1 Q2:QL} {P1 p1:List D->Bool} {b:As} (h:Fr Q0 ts) (hr:Rn Q0 ts Q1 P1) (h':Ap Q1 b Q2 p1) (ns:b≠.s) (hq:Q2≠Q1) (hc:Pr b ts):Fr Q0 (b::ts)
end
section
variable{km:Nat}{Q Q' Q0:QL}{a:As}{p P:List D->Bool}{ss:List As}{t:Str}
noncomputable def Lay(km:Nat)(Q0:QL)(t:Str)(ss:List As)(P:List D->Bool)(a:As)(Q':QL)(p:List D->Bool)(m:Nat):Prop:=
 ∃(ts:List As)(P':List D->Bool),aO m [ic t (fq km Q0),gl t ss,a.d]=.ok (gl t ts)/\Rn Q0 ts Q' P'/\Fr Q0 ts/\ts.length<=ss.length+1/\∀w,Ok Q0 w->P' w=(P w&&p w)
theorem xU(w:Wf km Q0)(m:Nat)(h15:ss.length<=14)(hr:Rn Q0 ss Q P)(hf:Fr Q0 ss)(hi:ai bL 2 2 [fq km Q,a.d]=.ok (.bl true))(hq:Q'=Q)(hp:∀w,Ok Q w->p w=true):Lay km Q0 t ss P a Q' p (m+1):=by
 refine⟨ss,P,A2 m (hr.fm w t 15 ‹0›) hi,by rw[hq];exact hr,hf,by omega,λz oz=>?_⟩;cases e:P z with
 |false=>rfl
 |true=>rw[hp z (hr.ok oz e)];rfl
theorem sA(w:Wf km Q0)(m:Nat)(h15:ss.length<=13)(hr:Rn Q0 ss Q P)(hf:Fr Q0 ss)(ha:Ap Q a Q' p)(hi:ai bL 2 2 [fq km Q,a.d]=.ok (.bl false))(ns:a≠.s)(hq:Q'≠Q)(hc:Pr a ss)(hn:∀b tt Qb Pb pb,ss=b::tt->Rn Q0 tt Qb Pb->Ap Qb b Q pb->ai bD 3 3 [fq km Qb,b.d,a.d]=.ok .non):Lay km Q0 t ss P a Q' p (m+1):=by
 have R':Rn Q0 (a::ss) Q' (λz=>P z&&p z):=.cons hr ha;refine⟨a::ss,_,?_,R',.cons hf hr ha ns hq hc,by simp,λ_ _=>rfl⟩;cases hr with
 |nil=>exact Ce m (Rn.fm .nil w t 15 ‹0›) hi
 |cons hb hab=>
  have hr2:=Rn.cons hb hab;simp at h15;exact DY m (hb.fm w t 15 ‹0›) (hr2.fm w t 15 (by simp;omega)) hi (hn _ _ _ _ _ rfl hb hab)
theorem ui{i:Nat}{q q':Str×Kd}(h:Q[i]?=some q)(hn:q'≠q):Q.set i q'≠Q:=λz=>by
 have:=Ry (l:=Q) (i:=i) (a:=q') (gG h)
 rw[z,h]at this;exact hn (Option.some.inj this).symm
theorem xB{i:Nat}{x:Str}{k:Kd}(h:Q[i]?=some (x,k)):x∈Q.map (·.1):=List.mem_map.mpr ⟨(x,k),RY h,rfl⟩
theorem CC(w:Wf km Q){i:Nat}{x:Str}{k c:Kd}(hi:Q[i]?=some (x,k))(h:k.n=c.n)(oc:c.ok)(o:(k.ib c).ok):ai bL 2 2 [fq km Q,oV x c.d]=.ok (.bl (pyEq (k.ib c).d k.d)):=En w.fk (w.at hi) h (w.sm _ (RY hi)).ok' oc o
theorem Ky{k c:Kd}(h:k.n=c.n)(z:k.ib c≠k):pyEq (k.ib c).d k.d=false:=by
 cases e:pyEq (k.ib c).d k.d with
 |false=>rfl
 |true=>exact absurd ((Kd.eq_iff (Kd.ib_n h)).mp e) z
theorem lay(w:Wf km Q0):∀(ss:List As)(Q:QL)(P:List D->Bool)(a:As)(Q':QL)(p:List D->Bool)(m:Nat),ss.length<m->ss.length<=13->Rn Q0 ss Q P->Fr Q0 ss->Ap Q a Q' p->Lay km Q0 t ss P a Q' p m:=by
 intro ss
 induction ss with
 |nil=>
  intro Q P a Q' p m hm h15 hr hf ha;obtain⟨m,rfl⟩:∃m',m=m'+1:=⟨m-1,by simp at hm;omega⟩
  have wq:=hr.wf w;have nn:∀b tt Qb Pb pb,([]:List As)=b::tt->Rn Q0 tt Qb Pb->Ap Qb b Q pb->ai bD 3 3 [fq km Qb,b.d,a.d]=.ok .non:=λb tt _ _ _ e=>by cases e
  cases ha with
  |s=>exact xU w m (by simp) hr hf (Bs _) rfl λ_ _=>rfl
  |r i o n k hi hn=>exact sA w m h15 hr hf (.r Q i o n k hi hn) (qC _ _ _) (by intro z;cases z) (ui hi λz=>hn (by rw[(Prod.mk.inj z).1];exact xB hi)) trivial nn
  |v i x k c hi h oc o=>
   have id:=CC wq hi h oc o;by_cases z:k.ib c=k
   ·rw[(Kd.eq_iff (Kd.ib_n h)).mpr z]at id;refine xU w m (by simp) hr hf id (by rw[z];exact set_same hi) λu ou=>?_;have f:=ue h (u.getD i .non);rw[z,ou i _ hi]at f;exact f.symm
   ·rw[Ky h z]at id;exact sA w m h15 hr hf (.v Q i x k c hi h oc o) id (by intro z;cases z) (ui hi λy=>z (Prod.mk.inj y).2) trivial nn
 |cons b tt ih=>
  intro Q P a Q' p m hm h15 hr hf ha;obtain⟨m,rfl⟩:∃m',m=m'+1:=⟨m-1,by simp at hm;omega⟩
  have wq:=hr.wf w;simp at hm;have h15':=h15;simp at h15';obtain⟨Qb,Pb,pb,hb,hab,eP⟩:∃Qb Pb pb,Rn Q0 tt Qb Pb/\Ap Qb b Q pb/\P=λz=>Pb z&&pb z:=by
   cases hr with
   |cons h1 h2=>exact⟨_,_,_,h1,h2,rfl⟩
  obtain⟨fb,nb⟩:Fr Q0 tt/\b≠.s:=by
   cases hf with
   |cons h1 h2 h3 h4 h5 h6=>exact⟨h1,h4⟩
  have F0:=hb.fm w t 15 ‹0›;have F1:=hr.fm w t 15 (by simp;omega);have wb:=hb.wf w;cases ha with
  |s=>exact xU w m ‹0› hr hf (Bs _) rfl λ_ _=>rfl
  |r i o n k hi hn=>
   have qn:Q.set i (n,k)≠Q:=ui hi λz=>hn (by rw[(Prod.mk.inj z).1];exact xB hi);cases hab with
   |s=>exact absurd rfl nb
   |v j x k1 c hj h oc oo=>
    refine sA w m h15 hr hf (.r _ i o n k hi hn) (qC _ _ _) (by intro z;cases z) qn trivial ?_;rintro b' tt' Qb' Pb' pb' e h1 h2;cases e;exact IX _ _ _ _ _
   |r j o1 n1 k1 hj hn1=>
    by_cases y:n1=o
    ·subst y;have ji:i=j:=wq.uniq hi (by rw[Ry (gG hj)]);subst ji;rw[Ry (gG hj)]at hi;cases hi;rw[List.set_set];have nn:n≠n1:=λz=>hn (by rw[z];exact xB (i:=i) (k:=k) (Ry (gG hj)));have no:∀q,q≠i->(Qb.map (·.1))[q]?≠some n:=λq hq z=>hn (by
      rw[T7];exact RY (i:=q) (by rw[Rz (Ne.symm hq)];exact z))
     have is:=Jg (fq km Qb) o1 n1 n;by_cases z:o1=n
     ·subst z;rw[if_pos rfl]at is;refine⟨tt,Pb,Gr m F0 F1 (qC _ _ _) is,by rw[set_same hj];exact hb,fb,by simp;omega,λu ou=>?_⟩;rw[eP];simp
     ·rw[if_neg z]at is;have fresh:n∉Qb.map (·.1):=λq=>by
       obtain⟨r,hr'⟩:=T8 q;by_cases e:r=i
       ·rw[e,RX,hj]at hr';exact z (Option.some.inj hr')
       ·exact no r e hr'
      obtain⟨ts,P',r1,r2,r3,r4,r5⟩:=ih Qb Pb (.r o1 n) _ _ m ‹0› ‹0› hb fb (.r Qb i o1 n k hj fresh);refine⟨ts,P',yk m F0 F1 (qC _ _ _) is r1,r2,r3,by simp;omega,λu ou=>?_⟩;rw[r5 u ou,eP];simp
    ·refine sA w m h15 hr hf (.r _ i o n k hi hn) (qC _ _ _) (by intro z;cases z) qn y ?_;rintro b' tt' Qb' Pb' pb' e h1 h2;cases e;exact Fo _ _ _ _ _ y
  |v i x k c hi h oc o=>
   have id:=CC wq hi h oc o;by_cases z:k.ib c=k
   ·rw[(Kd.eq_iff (Kd.ib_n h)).mpr z]at id;refine xU w m ‹0› hr hf id (by rw[z];exact set_same hi) λu ou=>?_;have f:=ue h (u.getD i .non);rw[z,ou i _ hi]at f;exact f.symm
   ·rw[Ky h z]at id;have qn:Q.set i (x,k.ib c)≠Q:=ui hi λy=>z (Prod.mk.inj y).2;cases hab with
    |s=>exact absurd rfl nb
    |r j o1 n1 k1 hj hn1=>
     refine sA w m h15 hr hf (.v _ i x k c hi h oc o) id (by intro z;cases z) qn trivial ?_;rintro b' tt' Qb' Pb' pb' e h1 h2;cases e;exact Jd _ _ _ _ _
    |v j y k1 c1 hj h1 oc1 o1=>
     by_cases xy:y=x
     ·subst xy;have ji:i=j:=wq.uniq hi (by rw[Ry (gG hj)]);subst ji;rw[Ry (gG hj)]at hi;cases hi;rw[List.set_set];have cc:c1.n=c.n:=(by rw[<-h1,<-Kd.ib_n h1,h]);have o3:=Kd.ib_ok h1 cc oc1 oc o;have nc:k1.n=(c1.ib c).n:=(by rw[Kd.ib_n cc];exact h1);have as:=Kd.assoc h1 cc;have o4:(k1.ib (c1.ib c)).ok:=(by rw[<-as];exact o);have is:=HH (fq km Qb) y cc oc1 o3;obtain⟨ts,P',r1,r2,r3,r4,r5⟩:=ih Qb Pb (.v y (c1.ib c)) _ _ m ‹0› ‹0› hb fb (.v Qb i y k1 (c1.ib c) hj nc o3 o4);refine⟨ts,P',yk m F0 F1 id is r1,by rw[as];exact r2,r3,by simp;omega,λu ou=>?_⟩;rw[r5 u ou,eP];show(Pb u&&fit (c1.ib c) (u.getD i .non))=((Pb u&&fit c1 (u.getD i .non))&&fit c (u.getD i .non))
      rw[ue cc,Bool.and_assoc]
     ·refine sA w m h15 hr hf (.v _ i x k c hi h oc o) id (by intro z;cases z) qn xy ?_;rintro b' tt' Qb' Pb' pb' e h1 h2;cases e;exact Ez _ _ _ _ _ xy
theorem GZ(w:Wf km Q0):∀(raw:List As)(Q:QL)(P:List D->Bool)(m:Nat),raw.length<m->raw.length<=12->Rn Q0 raw Q P->∃(ts:List As)(P':List D->Bool),cT m [ic t (fq km Q0),gl t raw]=.ok (gl t ts)/\Rn Q0 ts Q P'/\Fr Q0 ts/\ts.length<=raw.length/\∀z,Ok Q0 z->P' z=P z:=by
 intro raw
 induction raw with
 |nil=>
  intro Q P m hm _ hr;obtain⟨m,rfl⟩:∃m',m=m'+1:=⟨m-1,by simp at hm;omega⟩
  cases hr;exact⟨[],_,zk m t,.nil,.nil,RB _,λ_ _=>rfl⟩
 |cons a raw ih=>
  intro Q P m hm hl hr;obtain⟨m,rfl⟩:∃m',m=m'+1:=⟨m-1,by simp at hm;omega⟩
  simp at hm hl;cases hr with
  |@cons _ Q1 P1 _ _ p1 h1 h2=>
   obtain⟨ts,P',r1,r2,r3,r4,r5⟩:=ih Q1 P1 m ‹0› ‹0› h1;obtain⟨us,P2,l1,l2,l3,l4,l5⟩:=lay (t:=t) w ts Q1 P' a Q p1 15 ‹0› ‹0› r2 r3 h2;exact⟨us,P2,yY r1 l1,l2,l3,by simp;omega,λz oz=>by rw[l5 z oz,r5 z oz]⟩
end
theorem A5:(("number":Str)==("word":Str))=false:=by decide +kernel
theorem Kd.eq_any{a b:Kd}(h:pyEq a.d b.d=true):a=b:=by
 cases a with
 |kn a1 a2=>
  cases b with
  |kn b1 b2=>exact(Kd.eq_iff (a:=.kn a1 a2) (b:=.kn b1 b2) rfl).mp h
  |kw ws=>
   have h:pyEq (.tup [.str "number",.int a1,.int a2]) (.tup [.str "word",.tup (ws.map .str)])=true:=h;rw[pyEq,cy,pyEq,A5]at h;cases h
 |kw ws=>
  cases b with
  |kw vs=>exact(Kd.eq_iff (a:=.kw ws) (b:=.kw vs) rfl).mp h
  |kn b1 b2=>
   have h:pyEq (.tup [.str "word",.tup (ws.map .str)]) (.tup [.str "number",.int b1,.int b2])=true:=h;rw[pyEq,cy,pyEq,o9]at h;cases h
theorem AZ:∀A B:QL,cy (A.map λp=>fld (tD p)) (B.map λp=>fld (tD p))=true->A=B
 |[],[],_=>rfl
 |[],_::_,h=>by simp[cy]at h
 |_::_,[],h=>by simp[cy]at h
 |(x,k)::A,(y,c)::B,h=>by
  rw[RH,RH,cy,R3]at h;obtain⟨h1,h2⟩:=h;have h1:pyEq (.tup [.str x,k.d]) (.tup [.str y,c.d])=true:=h1;rw[pyEq,cy,cy,cy,SD,R3,pyEq]at h1;have e1:x=y:=by simpa using h1.1
  rw[AZ A B h2,e1,Kd.eq_any h1.2]
section
variable{km:Nat}{Q Q' Q0:QL}{a:As}{p P:List D->Bool}{ss:List As}{t:Str}
theorem lX(km:Nat)(Q:QL):fq km Q=.tup [.tup ((Q.take km).map λp=>fld (tD p)),.tup ((Q.drop km).map λp=>fld (tD p))]:=by
 unfold fq fm;rw[Tu,Tu];rfl
theorem Ls(h:pyEq (fq km Q) (fq km Q')=true):Q=Q':=by
 rw[lX,lX,pyEq,cy,cy,cy,SD,R3,pyEq,pyEq]at h;have h1:=AZ _ _ h.1;have h2:=AZ _ _ h.2;rw[<-T6 km Q,<-T6 km Q',h1,h2]
theorem JV(A:QL):mm (A.map λp=>fld (tD p))=true:=ug λz hz=>by
 obtain⟨q,_,rfl⟩:=List.mem_map.mp hz;show(TG.pl (.str q.1)&&(TG.pl q.2.d&&true))=true;rw[q.2.pl];rfl
theorem Kd.dep5(k:Kd):bY 5 k.d=true:=by
 cases k with
 |kn a b=>rfl
 |kw ws=>
  have q:((ws.map D.str).all (bY 3))=true:=by
   rw[Sy];exact List.all_eq_true.mpr λ_ _=>rfl
  show(true&&((ws.map D.str).all (bY 3)&&true))=true;rw[q];rfl
theorem Hu(A:QL):(A.map λp=>fld (tD p)).all (bY 6)=true:=by
 rw[Sy];refine List.all_eq_true.mpr λq _=>?_;show(true&&(bY 5 q.2.d&&true))=true;rw[q.2.dep5];rfl
theorem HM(km:Nat)(Q Q':QL):gEq (fq km Q) (fq km Q')=some (.bl (pyEq (fq km Q) (fq km Q'))):=by
 have p1:∀Q,TG.pl (fq km Q)=true:=λQ=>by
  rw[lX];show(TG.pl (.tup ((Q.take km).map λp=>fld (tD p)))&&(TG.pl (.tup ((Q.drop km).map λp=>fld (tD p)))&&true))=true;rw[cK,cK,JV,JV];rfl
 have d1:bY 8 (fq km Q)=true:=by
  rw[lX];show(((Q.take km).map λp=>fld (tD p)).all (bY 6)&&(((Q.drop km).map λp=>fld (tD p)).all (bY 6)&&true))=true;rw[Hu,Hu];rfl
 have e:gEq (fq km Q) (fq km Q')=if(TG.pl (fq km Q)&&TG.pl (fq km Q'))&&(bY 8 (fq km Q)||bY 8 (fq km Q'))then some (.bl (pyEq (fq km Q) (fq km Q')))else none:=rfl
 rw[e,p1,p1,d1];rfl
theorem MR(t:Str):bF ["Over"] ["Leaf","Both"] (leaf t)=some (.bl false):=by kernel_rfl
theorem QW(t:Str):bF ["Leaf"] ["Over","Both"] (leaf t)=some (.bl true):=by kernel_rfl
theorem Gz(w:Wf km Q0):∀(ss:List As),Fr Q0 ss->∀m,ss.length<m->ss.length<=13->bp m [gl t ss,ic t (fq km Q0)]=.ok (.bl true):=by
 intro ss h
 induction h with
 |nil=>
  intro m hm _;obtain⟨m,rfl⟩:∃m',m=m'+1:=⟨m-1,by simp at hm;omega⟩
  show bp (m+1) [leaf t,ic t (fq km Q0)]=_;rw[dR,bG];unfold gh;generalize ic t (fq km Q0)=fs;simp! only[MR,QW]
 |@cons ts Q1 Q2 P1 p1 b h hr h' ns hq hc ih=>
  intro m hm hl;obtain⟨m,rfl⟩:∃m',m=m'+1:=⟨m-1,by simp at hm;omega⟩
  simp at hm hl;have ihm:=ih m ‹0› ‹0›;obtain⟨gf,hg,ef⟩:=hr.fm w t 15 ‹0›;have vf:=h'.vf (hr.wf w);have ge:=HM km Q2 Q1;have gf':pyEq (fq km Q2) (fq km Q1)=false:=by
   cases e:pyEq (fq km Q2) (fq km Q1)with
   |false=>rfl
   |true=>exact absurd (Ls e) hq
  rw[gf']at ge;have m1:=λx3 x4=>hg.meth (TG.f1 (aC "glass" ["Over"]) (af 0)) (ae (af 1) ah) [‹over (gl t ts) b.d›,‹ic t (fq km Q0)›,‹b.d›,x3,x4] (by simp! only[dL]);have m2:=λx4=>(HV b).meth (af 2) (ae (af 3) ah) [‹over (gl t ts) b.d›,‹ic t (fq km Q0)›,‹b.d›,‹fq km Q1›,x4] rfl;show bp (m+1) [over (gl t ts) b.d,ic t (fq km Q0)]=_;rw[dR,bG];unfold gh;generalize ic t (fq km Q0)=fs at *;generalize fq km Q1=q1 at *;generalize fq km Q2=q2 at *;have f1':=dL (gl t ts) b.d;have f2':=ga (gl t ts) b.d;have j0:=jO (gl t ts) b.d;cases ts with
  |nil=>
   have jl:bF ["Over"] ["Leaf","Both"] (gl t [])=some (.bl false):=MR t;cases b with
   |s=>exact absurd rfl ns
   |r o n=>
    have a1:bF ["Rename"] ["Step","Sieve"] (As.r o n).d=some (.bl true):=FZ o n;have a2:bF ["Sieve"] ["Step","Rename"] (As.r o n).d=some (.bl false):=D3 o n;generalize over (gl t []) (As.r o n).d=ov at *;generalize gl t []=g0 at *;generalize (As.r o n).d=bd at *;simp! only[j0,f2',a1,a2,ihm,f1',m1,ef,jl,mi,Tj,T9]
   |v x c=>
    have a1:bF ["Rename"] ["Step","Sieve"] (As.v x c).d=some (.bl false):=EE x c.d;have a2:bF ["Sieve"] ["Step","Rename"] (As.v x c).d=some (.bl true):=GU x c.d;generalize over (gl t []) (As.v x c).d=ov at *;generalize gl t []=g0 at *;generalize (As.v x c).d=bd at *;simp! only[j0,f2',a1,a2,ihm,f1',m1,ef,m2,vf,ge,jl,mi,Tj,T9]
  |cons c tt=>
   have jl:bF ["Over"] ["Leaf","Both"] (gl t (c::tt))=some (.bl true):=jO _ _;have f3:aC "step" ["Over"] (gl t (c::tt))=some c.d:=ga _ _;cases b with
   |s=>exact absurd rfl ns
   |r o n=>
    have a1:bF ["Rename"] ["Step","Sieve"] (As.r o n).d=some (.bl true):=FZ o n;have a2:bF ["Sieve"] ["Step","Rename"] (As.r o n).d=some (.bl false):=D3 o n;have a3:aC "old" ["Rename"] (As.r o n).d=some (.str o):=BV o n;generalize over (gl t (c::tt)) (As.r o n).d=ov at *;generalize gl t (c::tt)=g0 at *;generalize (As.r o n).d=bd at *;cases c with
    |s=>
     have c1:bF ["Rename"] ["Step","Sieve"] (As.s).d=some (.bl false):=JG;generalize (As.s).d=cd at *;simp! only[j0,f2',a1,a2,ihm,f1',m1,ef,jl,f3,c1,mi,Tj,TL,T9]<;>rfl
    |r o1 n1=>
     have c1:bF ["Rename"] ["Step","Sieve"] (As.r o1 n1).d=some (.bl true):=FZ o1 n1;have c2:aC "new" ["Rename"] (As.r o1 n1).d=some (.str n1):=CQ o1 n1;have z:(n1==o)=false:=(by simpa using(show n1≠o from hc));generalize (As.r o1 n1).d=cd at *;simp! only[j0,f2',a1,a2,ihm,f1',m1,ef,jl,f3,c1,c2,a3,z,mi,Tj,TL,T9]<;>rfl
    |v y c'=>
     have c1:bF ["Rename"] ["Step","Sieve"] (As.v y c').d=some (.bl false):=EE y c'.d;generalize (As.v y c').d=cd at *;simp! only[j0,f2',a1,a2,ihm,f1',m1,ef,jl,f3,c1,mi,Tj,TL,T9]<;>rfl
   |v x c0=>
    have a1:bF ["Rename"] ["Step","Sieve"] (As.v x c0).d=some (.bl false):=EE x c0.d;have a2:bF ["Sieve"] ["Step","Rename"] (As.v x c0).d=some (.bl true):=GU x c0.d;have a3:=El x c0.d;have a3:aC "name" ["Leaf","Nest","Unnest","Part","Fuse","Sieve"] (As.v x c0).d=some (.str x):=a3;generalize over (gl t (c::tt)) (As.v x c0).d=ov at *;generalize gl t (c::tt)=g0 at *;generalize (As.v x c0).d=bd at *;cases c with
    |s=>
     have c1:bF ["Sieve"] ["Step","Rename"] (As.s).d=some (.bl false):=Jn;generalize (As.s).d=cd at *;simp! only[j0,f2',a1,a2,ihm,f1',m1,ef,m2,vf,ge,jl,f3,c1,mi,Tj,TL,T9]<;>rfl
    |r o1 n1=>
     have c1:bF ["Sieve"] ["Step","Rename"] (As.r o1 n1).d=some (.bl false):=D3 o1 n1;generalize (As.r o1 n1).d=cd at *;simp! only[j0,f2',a1,a2,ihm,f1',m1,ef,m2,vf,ge,jl,f3,c1,mi,Tj,TL,T9]<;>rfl
    |v y c'=>
     have c1:bF ["Sieve"] ["Step","Rename"] (As.v y c').d=some (.bl true):=GU y c'.d;have c2:aC "name" ["Leaf","Nest","Unnest","Part","Fuse","Sieve"] (As.v y c').d=some (.str y):=El y c'.d;have z:(y==x)=false:=(by simpa using(show y≠x from hc));generalize (As.v y c').d=cd at *;simp! only[j0,f2',a1,a2,ihm,f1',m1,ef,m2,vf,ge,jl,f3,c1,c2,a3,z,mi,Tj,TL,T9]<;>rfl
end
noncomputable def Ty:Kd->D->Prop
 |.kn _ _,v=>∃i:Int,v=.int i
 |.kw _,v=>∃w:Str,v=.str w
theorem Ty.of{k c:Kd}(h:k.n=c.n){v:D}(t:Ty k v):Ty c v:=by
 cases k<;>cases c<;>first|exact Bool.noConfusion h|exact t
theorem FH(m:Nat)(c:Kd)(v:D)(h:Ty c v):cH (m+1) [c.d,v]=.ok (.bl (fit c v)):=by
 cases c with
 |kn a b=>
  obtain⟨i,rfl⟩:=h;have wh:=whole i;show cH (m+1) [num a b,.int i]=.ok (.bl (decide (a<=i)&&decide (i<=b)));rw[ip,bG];unfold qj;simp! only[oW,wh,Jb];cases decide (a<=i)<;>rfl
 |kw ws=>
  obtain⟨w,rfl⟩:=h;have t:wo "str" (.str w)=some (.bl true):=rfl;have i0:ao (bi ws) (.int 0)=some (.str "word"):=gH _ _;have i1:ao (bi ws) (.int 1)=some (.tup (ws.map .str)):=h7 _ _ _;show cH (m+1) [bi ws,.str w]=.ok (.bl (ws.contains w));rw[ip,bG];unfold qj;generalize bi ws=kk at *;simp! only[i0,i1,o9,ww,t,pQ];rfl
noncomputable def tb(T:gz):D:=.tup (T.map .tup)
noncomputable def Rw(Q:QL)(w:List D):Prop:=∀i q,Q[i]?=some q->i<w.length/\Ty q.2 (w.getD i .non)
section
variable{km:Nat}{Q Q' Q0:QL}{a:As}{p P:List D->Bool}{ss:List As}{t:Str}{T:gz}
theorem Ap.rw(h:Ap Q a Q' p){w:List D}(r:Rw Q w):Rw Q' w:=by
 intro j q hj;cases h with
 |s=>exact r j q hj
 |r i o n k hi hn=>
  by_cases e:j=i
  ·rw[e,Ry (gG hi)]at hj;cases hj;rw[e];exact r i (o,k) hi
  ·rw[Rz (Ne.symm e)]at hj;exact r j q hj
 |v i x k c hi h oc o=>
  by_cases e:j=i
  ·rw[e,Ry (gG hi)]at hj;cases hj;rw[e]
   have:=r i (x,k) hi
   exact⟨this.1,Ty.of (Kd.ib_n h).symm this.2⟩
  ·rw[Rz (Ne.symm e)]at hj;exact r j q hj
theorem Rn.rw(h:Rn Q0 ss Q P){w:List D}(r:Rw Q0 w):Rw Q w:=by
 induction h with
 |nil=>exact r
 |cons _ h' ih=>exact h'.rw ih
noncomputable def Pp:As->(bE)
 |.s=>ai bB 3 3
 |.r _ _=>ai bB 3 3
 |.v _ _=>ai cB 3 4
noncomputable abbrev EF:List (Str×(bE)):=[("Step",(ai bB 3 3)),("Rename",(ai bB 3 3)),("Sieve",(ai cB 3 4))]
theorem qW(T:gz):T.filter (λ_=>true)=T:=List.filter_eq_self.mpr λ_ _=>rfl
theorem vL(s f:D)(T:gz):ai bB 3 3 [s,f,tb T]=.ok (tb T):=by
 rw[cX];unfold bB;generalize tb T=tt;simp! only[]
theorem Ap.got(h:Ap Q a Q' p)(w:Wf km Q)(hT:∀u∈T,Rw Q u)(hl:T.length<=1000):Pp a [a.d,fq km Q,tb T]=.ok (tb (T.filter p)):=by
 cases h with
 |s=>rw[qW];exact vL _ _ _
 |r i o n k hi hn=>rw[qW];exact vL _ _ _
 |v i x k c hi h oc o=>
  have pl:=w.fk.at (w.at hi);have pl:ai cx 2 4 [fq km Q,.str x]=.ok (.int (i:Int)):=pl;have f1':=By x c.d;have f2':=u9 x c.d;have lc:hX [none,some 0,some 3] (bR (af 2)) (gN 0) (aS (fR (cH 15) (ae (TG.f1 (aC "kind" ["Sieve"]) (af 1)) (ae (f2 ao (af 0) (af 2)) ah)))) (af 0) [‹oV x c.d›,‹fq km Q›,‹tb T›,‹.int (i:Int)›]=.ok (.lst ((T.filter λu=>fit c (u.getD i .non)).map .tup)):=by
   refine gI (ds:=T.map .tup) ?_ (by rw[RJ];omega) ?_
   ·have e:tb T=.tup (T.map .tup):=rfl;rw[e];generalize fq km Q=ff;simp! only[]
   ·refine pV (λu:List D=>.tup u) (λu=>fit c (u.getD i .non)) (λu=>.tup u) T λu hu=>⟨[‹.tup u›,‹oV x c.d›,‹.int (i:Int)›],rfl,?_,λ_=>rfl⟩
    obtain⟨l,ty⟩:=hT u hu i (x,k) hi;have ft:=FH 14 c (u.getD i .non) (Ty.of h ty);have ix:ao (.tup u) (.int (i:Int))=some (u.getD i .non):=by
     rw[Jq,uR,Tt,Sz l];rfl
    generalize u.getD i .non=cell at *;generalize oV x c.d=ov at *;generalize c.d=cd at *;simp! only[f2',ix,ft]
  show ai cB 3 4 [oV x c.d,fq km Q,tb T]=.ok (tb (T.filter λu=>fit c (u.getD i .non)));have e:tb (T.filter λu=>fit c (u.getD i .non))=.tup ((T.filter λu=>fit c (u.getD i .non)).map .tup):=rfl;rw[e,cX];unfold cB;generalize oV x c.d=ov at *;generalize fq km Q=ff at *;generalize tb T=tt at *;simp! only[f1',pl,lc]
theorem OV(a:As)(fo:FX)(fas:aW)(ρ:ak)(h:fo ρ=.ok a.d):bH "got" EF fo fas ρ=(fas ρ).bind λas=>Pp a (a.d::as):=by
 cases a with
 |s=>exact dy "got" EF "Step" [] [] (ai bB 3 3) fo fas ρ h (by kernel_rfl) (by decide +kernel)
 |r o n=>exact dy "got" EF "Rename" ["old","new"] [.str o,.str n] (ai bB 3 3) fo fas ρ h (by kernel_rfl) (by decide +kernel)
 |v x c=>exact dy "got" EF "Sieve" ["name","kind"] [.str x,c.d] (ai cB 3 4) fo fas ρ h (by kernel_rfl) (by decide +kernel)
noncomputable abbrev Fb(n:Nat):List (Str×(bE)):=[("Leaf",(ai cq 3 3)),("Over",(aL n)),("Both",(aP n))]
noncomputable def Sn(n:Nat)(g fs hs:D)(r:R D):Prop:=∃c fl vs gf,g=.obj c fl vs/\(Fb n).lookup c=some gf/\((("Glass":Str),(ai dQ 3 3))::Fb n).lookup c=some gf/\fl.contains ("seen":Str)=false/\gf [g,fs,hs]=r
theorem Sn.meth{n:Nat}{g fs hs:D}{r:R D}(h:Sn n g fs hs r)(fo:FX)(fas:aW)(ρ:ak)(e:fo ρ=.ok g)(ea:fas ρ=.ok [fs,hs]):bH "seen" (Fb n) fo fas ρ=r:=by
 obtain⟨c,fl,vs,gf,rfl,l,_,hm,er⟩:=h;rw[dy "seen" _ c fl vs gf fo fas ρ e l hm,ea];exact er
theorem Sn.meth'{n:Nat}{g fs hs:D}{r:R D}(h:Sn n g fs hs r)(fo:FX)(fas:aW)(ρ:ak)(e:fo ρ=.ok g)(ea:fas ρ=.ok [fs,hs]):bH "seen" ((("Glass":Str),(ai dQ 3 3))::Fb n) fo fas ρ=r:=by
 obtain⟨c,fl,vs,gf,rfl,_,l,hm,er⟩:=h;rw[dy "seen" _ c fl vs gf fo fas ρ e l hm,ea];exact er
theorem PD(t:Str)(f:D):lU (ic t f) (.str t)=some f:=by unfold lU;rw[gg t f];rfl
theorem zp(n:Nat)(t:Str)(f h:D):Sn n (leaf t) (ic t f) (ic t h) (.ok (.tup [f,h])):=by
 refine⟨_,_,_,ai cq 3 3,rfl,by kernel_rfl,by kernel_rfl,by decide +kernel,?_⟩;have d1:=PD t f;have d2:=PD t h;rw[cX];unfold cq;generalize ic t f=a at *;generalize ic t h=b at *;simp! only[yK,d1,d2,uo]
theorem Rn.seen(h:Rn Q0 ss Q P)(w:Wf km Q0)(hT:∀u∈T,Rw Q0 u)(hl:T.length<=1000):∀m,ss.length<=m->Sn m (gl t ss) (ic t (fq km Q0)) (ic t (tb T)) (.ok (.tup [fq km Q,tb (T.filter P)])):=by
 induction h with
 |nil=>exact λm _=>by rw[qW];exact zp m t _ _
 |@cons ss Q P a Q' p h h' ih=>
  intro m hm;cases m with
  |zero=>simp at hm
  |succ m=>
   have ihm:=ih m (by simpa using hm);refine⟨_,_,_,aL (m+1),rfl,by kernel_rfl,by kernel_rfl,by decide +kernel,?_⟩;show aL (m+1) [over (gl t ss) a.d,ic t (fq km Q0),ic t (tb T)]=_;have s1:=ihm.meth (TG.f1 (aC "glass" ["Over"]) (af 0)) (ae (af 1) (ae (af 2) ah)) [‹over (gl t ss) a.d›,‹ic t (fq km Q0)›,‹ic t (tb T)›,none] (by simp! only[dL]) (by simp! only[]);have v1:=(HV a).meth (TG.f1 (aC "step" ["Over"]) (af 0)) (ae (f2 ao (af 3) (fC (.int 0))) ah) [‹over (gl t ss) a.d›,‹ic t (fq km Q0)›,‹ic t (tb T)›,‹.tup [fq km Q,tb (T.filter P)]›] (by simp! only[ga]);have g1:=OV a (TG.f1 (aC "step" ["Over"]) (af 0)) (ae (f2 ao (af 3) (fC (.int 0))) (ae (f2 ao (af 3) (fC (.int 1))) ah)) [‹over (gl t ss) a.d›,‹ic t (fq km Q0)›,‹ic t (tb T)›,‹.tup [fq km Q,tb (T.filter P)]›] (by simp! only[ga]);have vf:=h'.vf (h.wf w);have gt:=h'.got (T:=T.filter P) (h.wf w) (λu hu=>h.rw (hT u (List.mem_filter.mp hu).1)) (Rq (T5 ..) hl);have ff:(T.filter P).filter p=T.filter λz=>P z&&p z:=by
    rw[TZ];exact T1 λz _=>Bool.and_comm ..
   rw[ff]at gt;rw[fP,cX];unfold iq;generalize ic t (fq km Q0)=fs at *;generalize ic t (tb T)=hs at *;generalize tb (T.filter λz=>P z&&p z)=t2 at *;generalize tb (T.filter P)=t1 at *;generalize fq km Q=q1 at *;generalize fq km Q'=q2 at *;generalize over (gl t ss) a.d=ov at *;simp! only[s1,v1,g1,vf,gt,uo]
theorem Rn.got(h:Rn Q0 ss Q P)(w:Wf km Q0)(hT:∀u∈T,Rw Q0 u)(hl:T.length<=1000)(h15:ss.length<=15):ai ax 3 3 [gl t ss,ic t (fq km Q0),ic t (tb T)]=.ok (tb (T.filter P)):=by
 have s1:=(h.seen (t:=t) w hT hl 15 h15).meth' (af 0) (ae (af 1) (ae (af 2) ah)) [‹gl t ss›,‹ic t (fq km Q0)›,‹ic t (tb T)›] rfl rfl;rw[cX];unfold ax;generalize ic t (fq km Q0)=fs at *;generalize ic t (tb T)=hs at *;generalize tb (T.filter P)=t1 at *;generalize fq km Q=q1 at *;simp! only[s1]
theorem vI(t:Str):∀(ss:List As)(m:Nat),ss.length<m->ss.length<=50->∃xs:List D,xs.length=ss.length/\bA m [gl t ss]=.ok (.lst xs)
 |[],m,hm,_=>by
  obtain⟨m,rfl⟩:∃m',m=m'+1:=⟨m-1,by simp at hm;omega⟩
  have j2:bF ["Both"] ["Leaf","Over"] (leaf t)=some (.bl false):=by kernel_rfl
  refine⟨[],rfl,?_⟩;show bA (m+1) [leaf t]=_;rw[eA,dC];unfold gY;simp! only[MR,j2,Pn]
 |a::ss,m,hm,h50=>by
  obtain⟨m,rfl⟩:∃m',m=m'+1:=⟨m-1,by simp at hm;omega⟩
  simp at hm h50;obtain⟨xs,l,e⟩:=vI t ss m ‹0› ‹0›;have ad:=Bl xs [a.d] (by simp;omega);refine⟨xs++[a.d],by rw[RZ,l];rfl,?_⟩;show bA (m+1) [over (gl t ss) a.d]=_;rw[eA,dC];unfold gY;simp! only[jO,dL,ga,e,M0,ad]
theorem AV(t:Str)(ss:List As)(h:ss.length<=14):ai fK 1 1 [gl t ss]=.ok (.int (ss.length:Int)):=by
 obtain⟨xs,l,e⟩:=vI t ss 15 ‹0› ‹0›;rw[dC];unfold fK;generalize gl t ss=g at *;simp! only[e,l]
end
noncomputable def Inj(n:Nat->Str):Prop:=∀a b,a<24->b<24->n a=n b->a=b
theorem Bp{σ:List Bool}{kl:Nat}(h0:σ≠[])(hl:kl=σ.length)(rows:gz)(hs:∀r∈rows,Sh σ (r.take kl))(hn:rows.length<64):∃t:gz,ai d7 2 4 [.int kl,.lst (rows.map .tup)]=.ok (.tup (t.map .tup))/\Pu kl t/\(∀r∈t,r∈rows)/\t.length<=rows.length:=by
 obtain⟨T,hT⟩:∃T:bN,T=(oN 2 (aD (fL cW (ae (hX [none,some 2] (bR (fL gK (ae (fL mH (ae (af 2) ah)) ah))) (gN 0) dq (f2 xD (af 1) (af 0))) ah)))):=⟨_,rfl⟩
 rw[bG];unfold d7;rw[<-hT];simp! only[E5];refine gL (Q:=λz=>∃t:gz,z=.ok (.tup (t.map .tup))/\Pu kl t/\(∀r∈t,r∈rows)/\t.length<=rows.length) (λi ρ=>∃al:dP,(al.map (·.1)).Nodup/\al.length<=i/\(∀p∈al,∃r∈rows,p.2=.tup r/\r.take kl=p.1.map bm)/\ρ=[‹.int kl›,‹.lst (rows.map .tup)›,some (.own (jt al)),none]) ?_ ⟨[],Se,RB _,(λ_ h=>nomatch h),rfl⟩ ?_
 ·rintro i d ρ kk hd ⟨al,nd,ll,hp,rfl⟩;have hi:=eN hd;rw[RJ]at hi;rw[RX,Sz hi]at hd;cases hd;have rm:rows[i]∈rows:=Tr hi;obtain⟨q,eq⟩:=uF (hs _ rm);have ct:cutD rows[i] none (some (kl:Int))=q.map bm:=by rw[wy,eq]
  refine⟨_,_,rfl,⟨jU al q (.tup rows[i]),Gd _ _ nd,by have:=CJ al q (.tup rows[i]);omega,λp h=>?_,rfl⟩,?_⟩
  ·rcases BJ h with z|z
   ·exact hp p z
   ·subst z;exact⟨_,rm,rfl,eq⟩
  ·have pd:=λK:Ks=>GY (i:=2) (fk:=gA (af 3) fZ (il (af 0))) (fv:=af 3) (k:=K) (ρ:=[‹.int kl›,‹.lst (rows.map .tup)›,some (.own (jt al)),‹.tup rows[i]›]) (al:=al) (q:=q) (v:=.tup rows[i]) rfl (by simp! only[ct]) rfl ‹0›;generalize jt (jU al q (.tup rows[i]))=Y at pd ⊢;generalize jt al=Z at pd ⊢;simp! only[pd]
 ·rintro ρ' ⟨al,nd,ll,hp,rfl⟩;rw[RJ]at ll;have hsk:∀p∈al,Sh σ (p.1.map bm):=λp h=>by
   obtain⟨r,hr,_,e⟩:=hp p h;rw[<-e];exact hs r hr
  obtain⟨es,ri⟩:=GI nd hsk h0 ‹0›;have pm:=eI dG (encK al);have lt:=DX al;generalize kg dG (encK al)=W at es ri pm;have wl:W.length=al.length:=by rw[pm.length_eq,RJ]
  have mem:∀x∈W,∃p∈al,x=.tup (p.1.map bm):=λx hx=>by
   obtain⟨p,h1,h2⟩:=List.mem_map.mp (pm.mem_iff.mp hx);exact⟨p,h1,h2.symm⟩
  obtain⟨vs,v1,v2,v3⟩:=DR (ρ:=[none,‹jt al›]) (g:=gN 0) (C:=dq) (Fe:=f2 xD (af 1) (af 0)) W (λi v=>∃r∈rows,v=.tup r/\W[i]?=some (.tup (r.take kl))) λi d hd=>by
   obtain⟨p,h1,h2⟩:=mem d (RY hd);obtain⟨r,hr,e1,e2⟩:=hp p h1;have dx:=Jk al p.1;rw[vD nd h1,e1]at dx;refine⟨[‹d›,‹jt al›],.tup r,rfl,rfl,?_,r,hr,rfl,by rw[hd,h2,e2]⟩;subst h2;generalize jt al=Z at dx;simp! only[dx]
  obtain⟨t,rfl⟩:=yr vs λv hv=>by
   obtain⟨i,hi,ei⟩:=SG hv;obtain⟨r,_,e,_⟩:=v2 i v (by rw[Sz hi,ei]);exact⟨r,e⟩
  rw[RJ]at v1;have at_:∀(i:Nat)(h:i<t.length),t[i]∈rows/\W[i]?=some (.tup (t[i].take kl)):=λi h=>by
   obtain⟨r,hr,e,w⟩:=v2 i (.tup t[i]) (by rw[RX,Sz h];rfl);injection e with e;rw[e];exact⟨hr,w⟩
  refine⟨t,?_,?_,λr hr=>?_,by omega⟩
  ·have lc:hX [none,some 2] (bR (fL gK (ae (fL mH (ae (af 2) ah)) ah))) (gN 0) dq (f2 xD (af 1) (af 0)) [‹.int kl›,‹.lst (rows.map .tup)›,‹jt al›,none]=.ok (.lst (t.map .tup)):=by
    refine gI (ds:=W) ?_ ‹0› v3;generalize jt al=Z at lt;simp! only[lt,es]
   rw[hT];generalize jt al=Z at lc;simp! only[lc]
  ·refine List.pairwise_iff_getElem.mpr λi j hi hj hij=>?_;have a:=(at_ i hi).2;have b:=(at_ j hj).2;rw[Sz ‹0›]at a b
   have:=List.pairwise_iff_getElem.mp ri i j ‹0› ‹0› hij
   rw[Option.some.inj a,Option.some.inj b]at this;exact this
  ·obtain⟨i,hi,ei⟩:=SG hr;rw[<-ei];exact(at_ i hi).1
theorem enum_zip(ws:av):fu 0 (ws.map .str)=ws.zipIdx.map λp=>D.tup [.int (p.2:Int),.str p.1]:=by
 apply List.ext_getElem?;intro i;rw[ke,RX,RX,List.getElem?_zipIdx];cases ws[i]?<;>simp
theorem Lg(ws:av)(h:ws.Nodup)(hl:ws.length<64):∃zs:av,zs.Perm ws/\gK [.lst (ws.map .str)]=some (.lst (zs.map .str)):=by
 have pz:∀zs:List D,zs.Perm (ws.map D.str)->∃ys:av,ys.Perm ws/\zs=ys.map .str:=λzs p=>by
  obtain⟨un,hu⟩:∃un:D->Str,∀w,un (.str w)=w:=⟨λd=>match d with|.str w=>w|_=>"",λ_=>rfl⟩
  refine⟨zs.map un,?_,?_⟩
  ·have q:=p.map un;rw[Tu]at q;have e:ws.map (un∘D.str)=ws:=by
    rw[show(un∘D.str)=id from funext hu];exact List.map_id _
   rwa [e]at q
  ·rw[Tu];have e:∀z∈zs,(D.str∘un) z=z:=λz hz=>by
    obtain⟨w,_,rfl⟩:=List.mem_map.mp (p.mem_iff.mp hz);show D.str (un (.str w))=_;rw[hu]
   rw[SJ e];exact(List.map_id _).symm
 show∃zs:av,_/\pp (ws.map .str)=_;unfold pp;by_cases a:IL (ws.map .str)
 ·rw[if_pos a];obtain⟨ys,y1,y2⟩:=pz _ (eI _ _);exact⟨ys,y1,by rw[y2]⟩
 ·have b:L7 (ws.map .str):=by
   refine⟨by rw[RJ];exact hl,false,λx hx=>?_,?_⟩
   ·obtain⟨w,_,rfl⟩:=List.mem_map.mp hx;exact .str w .nil
   ·rw[Ts];refine h.imp λhne e=>hne ?_;have e:[D.str _]=[D.str _]:=e;injection e with e _;injection e
  rw[if_neg a,if_pos b];obtain⟨ys,y1,y2⟩:=pz _ (eI _ _);exact⟨ys,y1,by rw[y2]⟩
theorem DQ{ws:av}{w z:Str}(h:z∈qL ws w):z∈ws\/z=w:=by
 unfold qL at h;split at h
 ·exact .inl h
 ·rcases List.mem_append.mp h with h|h
  ·exact .inl h
  ·exact .inr (List.mem_singleton.mp h)
theorem EK{ws:av}(w:Str)(h:ws≠[]):qL ws w≠[]:=by
 unfold qL;split
 ·exact h
 ·simp
theorem yQ(x:Int):∃ws:av,(Kd.kw ws).sm/\ai dN 1 7 [.int x]=.ok (bi ws):=by
 have g26:=gm 26;have d26:=gd 26;have d676:=gd 676;have LL:(("abcdefghijklmnopqrstuvwxyz":Str)).length=26:=by decide +kernel
 have L0:(("":Str)).length<=1000:=by decide +kernel
 generalize hL:("abcdefghijklmnopqrstuvwxyz":Str)=L at LL;obtain⟨one,ho,e1⟩:=ym L ‹0› (x%26) ‹0› ‹0›;obtain⟨oth,hq,e2⟩:=ym L ‹0› (x/26%26) ‹0› ‹0›;have a1:=jW one oth ‹0› ‹0›;have a2:=jW oth one ‹0› ‹0›;have m4:=JZ (x:=one) (n:=4) (by decide) (by decide) ‹0›;have m8:=JZ (x:=one) (n:=8) (by decide) (by decide) ‹0›;have l4:(ie one 4).length<=100:=by rw[nh (by decide),ho];decide
 obtain⟨W,hW⟩:∃W:av,W=[("":Str),one,oth,one++oth,oth++one,ie one 8]:=⟨_,rfl⟩
 have W6:W.length=6:=by rw[hW];rfl
 have Wl:∀w∈W,w.length<=100:=by
  rw[hW];intro w hw;simp only[SY,TU,or_false]at hw;rcases hw with h|h|h|h|h|h<;>rw[h]
  ·exact Rq (by decide +kernel:("":Str).length<=0) (by decide)
  ·omega
  ·omega
  ·rw[pT];omega
  ·rw[pT];omega
  ·rw[nh (by decide),ho];decide
 have eW:[D.str "",.str one,.str oth,.str (one++oth),.str (oth++one),.str (ie one 8)]=W.map .str:=by rw[hW];rfl
 have dp:ng [(.str (ie one 4),.bl true)]=some (wd [ie one 4]):=Dc _ _;have gT:∀(i:Int)(w:Str)(ρ:ak),(gT 2 (oO [5,6])) (.tup [.int i,.str w]) ρ=some ((ρ.set 5 (‹.int i›)).set 6 (‹.str w›)):=λi w ρ=>rfl;have en:qz [.lst (W.map .str)]=some (fu 0 (W.map .str)):=rfl
 suffices h:∃d:D,(∃ws:av,(Kd.kw ws).sm/\d=bi ws)/\ai dN 1 7 [.int x]=.ok d by
  obtain⟨d,⟨ws,h1,h2⟩,h3⟩:=h;exact⟨ws,h1,by rw[h3,h2]⟩
 have mW:lW (W.map .str)=some (.lst (W.map .str)):=JD (by rw[RJ];omega);rw[dC];unfold dN;rw[hL];simp! only[g26,d26,e1,e2,yc,yF,uQ,Hq,m4,dp,a1,a2,m8,eW,mW,en];refine gL (Q:=λz=>∃d:D,(∃ws:av,(Kd.kw ws).sm/\d=bi ws)/\z=.ok d) (λi ρ=>∃ws:av,ws≠[]/\ws.Nodup/\ws.length<=i+1/\(∀w∈ws,w.length<=100)/\ρ=[‹.int x›,none,‹.str one›,‹.str oth›,some (.own (wd ws)),none,none]) ?_ ⟨[ie one 4],by simp,by simp,by simp,λw hw=>by rw[List.mem_singleton.mp hw];exact l4,rfl⟩ ?_
 ·rintro i d ρ kk hd ⟨ws,ne,nd,hl,hs,rfl⟩;rw[ke,RX]at hd;cases hp:W[i]? with
  |none=>rw[hp]at hd;cases hd
  |some w=>
   rw[hp]at hd;have hd:some (D.tup [.int ((0+i:Nat):Int),.str w])=some d:=hd;rw[S7]at hd;cases hd;have li:=(List.getElem?_eq_some_iff.mp hp).1;have wl:=Wl w (RY hp);have sh:=AQ (x/676) i;cases hb:(Builtin.bitAnd (x/676/2^i) 1==1)with
   |false=>
    refine⟨_,_,gT _ _ _,⟨ws,ne,nd,by omega,hs,rfl⟩,?_⟩;simp! only[d676,sh,uw,hb]
   |true=>
    refine⟨_,_,gT _ _ _,⟨qL ws w,EK w ne,GV w nd,by have:=C2 ws w;omega,λz hz=>(DQ hz).elim (hs z) λe=>by rw[e];exact wl,rfl⟩,?_⟩;have pk:=λk:Ks=>Ep (i:=4) (fk:=af 6) (fv:=fC (.bl true)) (k:=k) (ρ:=[‹.int x›,none,‹.str one›,‹.str oth›,some (.own (wd ws)),‹.int (i:Int)›,‹.str w›]) (al:=A9 ws) (q:=.inr w) (d:=.str w) (v:=.bl true) rfl rfl rfl rfl (by simp;omega);simp! only[d676,sh,uw,hb,pk,JL]
 ·rintro ρ' ⟨ws,ne,nd,hl,hs,rfl⟩;rw[gM,RJ]at hl;obtain⟨zs,p,ez⟩:=Lg ws nd ‹0›;refine⟨bi zs,⟨zs,⟨λz=>ne (by rw[z]at p;exact List.nil_perm.mp p),by rw[p.length_eq];omega,λw hw=>hs w (p.mem_iff.mp hw)⟩,rfl⟩,?_⟩;have e:bi zs=.tup [.str "word",.tup (zs.map .str)]:=rfl;rw[e];simp! only[Bk,ez,uo]
noncomputable def Tw(d:D):Prop:=∃lo hi:Int,d=num lo hi/\lo%12=0/\(hi+1)%12=0/\lo+11<=hi/\lo.natAbs<10^60/\hi.natAbs<10^60
theorem K4(x:Int)(h0:0<=x)(h1:x<2147483700):∃d,Tw d/\ai dI 1 2 [.int x]=.ok d:=by
 obtain⟨P,hP,eP,bP⟩:∃P:Int,0<P/\pJ (.int 10) (.int 40)=some (.int P)/\P=10^40:=⟨10^40,by decide +kernel,wc 10 40 (by decide) (by decide),rfl⟩
 have p7:pJ (.int x) (.int 7)=some (.int (x^7)):=wc x 7 (by decide) ‹0›;have gp:=λi=>fY (i:=i) hP;have g4:=gm 4;have d4:=gd 4;have m12:=λj=>ny (i:=12) (j:=j) (by decide) (by decide);have q0:=TQ (x^7) (show P≠0 by omega);have q1:=TR (x^7) hP;obtain⟨q,hq⟩:∃q,q=x^7%P:=⟨_,rfl⟩
 rw[<-hq]at q0 q1;have nP:P.natAbs=10^40:=by rw[bP];decide +kernel
 have OG:(10:Nat)^60=10^20*10^40:=by decide +kernel
 have e20:(1000:Nat)<10^20:=by decide +kernel
 have big:1000*P.natAbs<10^60:=by rw[OG,nP];exact Nat.mul_lt_mul_of_pos_right e20 (by decide +kernel)
 obtain⟨lo,elo,h12,hs⟩:∃lo:Int,ao (.lst [.int 0,.int (-12),.int (0-12*q),.int (12*q)]) (.int (x%4))=some (.int lo)/\lo%12=0/\lo.natAbs<=12*P.natAbs:=by
  rcases(show x%4=0\/x%4=1\/x%4=2\/x%4=3 by omega)with z|z|z|z<;>rw[z]
  ·exact⟨0,rfl,by decide,by omega⟩
  ·exact⟨-12,rfl,by decide,by omega⟩
  ·exact⟨_,rfl,by omega,by omega⟩
  ·exact⟨_,rfl,by omega,by omega⟩
 obtain⟨w,ew,w1,ws⟩:∃w:Int,ao (.lst [.int 1,.int 2,.int 5,.int P]) (.int (x/4%4))=some (.int w)/\1<=w/\w<=5*P:=by
  rcases(show x/4%4=0\/x/4%4=1\/x/4%4=2\/x/4%4=3 by omega)with z|z|z|z<;>rw[z]
  ·exact⟨1,rfl,by decide,by omega⟩
  ·exact⟨2,rfl,by decide,by omega⟩
  ·exact⟨5,rfl,by decide,by omega⟩
  ·exact⟨P,rfl,by omega,by omega⟩
 refine⟨num lo (lo+12*w-1),⟨lo,_,rfl,h12,by omega,by omega,by omega,by omega⟩,?_⟩;rw[dC];unfold dI;simp! only[p7,eP,gp,<-hq,m12,Pl,g4,d4,elo,ew,Lb]
theorem Mb{d:D}(h:Tw d):∃k:Kd,k.sm/\d=k.d:=by
 obtain⟨lo,hi,e,_,_,h1,h2,h3⟩:=h;exact⟨.kn lo hi,⟨by omega,h2,h3⟩,e⟩
theorem AY(x:Int)(h0:0<=x)(h1:x<2147483700):∃k:Kd,k.sm/\ai bI 1 1 [.int x]=.ok k.d:=by
 have g8:=gm 8;have d8:=gd 8;have g9:=gm 9;have g2:=gm 2;have d72:=gd 72;by_cases z:x%8<5
 ·obtain⟨d,td,e⟩:=K4 (x/8) ‹0› ‹0›;obtain⟨k,sk,ek⟩:=Mb td;refine⟨k,sk,?_⟩;rw[<-ek,dC];unfold bI;simp! only[g8,decide_eq_true z,d8,e]
 ·have z':=decide_eq_false z;by_cases y:x%8=5
  ·have yb:(x%8==5)=true:=(by simpa using y);obtain⟨k,sk,ek⟩:∃k:Kd,k.sm/\ao (.lst [num (x/8%9) (x/8%9),.tup [.str "word",.tup [.str "a"]]]) (.int (x/72%2))=some k.d:=by
    have OY:(1000:Nat)<10^60:=(by decide +kernel);rcases(show x/72%2=0\/x/72%2=1 by omega)with q|q<;>rw[q]
    ·exact⟨.kn (x/8%9) (x/8%9),⟨Int.le_refl _,by omega,by omega⟩,rfl⟩
    ·refine⟨.kw ["a"],⟨by simp,by simp,λw hw=>?_⟩,rfl⟩;rw[List.mem_singleton.mp hw];decide +kernel
   refine⟨k,sk,?_⟩;rw[dC];unfold bI;simp! only[g8,z',yb,d8,g9,Lb,Mp,uo,K1,d72,g2,ek]
  ·have yb:(x%8==5)=false:=(by simpa using y);obtain⟨ws,sw,e⟩:=yQ (x/8);refine⟨.kw ws,sw,?_⟩;rw[dC];unfold bI;simp! only[g8,z',yb,d8,e];rfl
theorem Gj(x:Int)(h0:0<=x)(h1:x<2147483700):∃k:Kd,k.sm/\ai bI 1 1 [.int x]=.ok k.d:=AY x h0 h1
noncomputable def Fd(n:Nat->Str)(Q:QL):Prop:=∀i q,Q[i]?=some q->q.1=n i/\q.2.sm
theorem IK(n:Nat->Str):Fd n []:=λi p h=>by simp at h
theorem CZ{n:Nat->Str}(b:Int)(hn:∀k:Nat,k<24->ai bJ 2 7 [.int b,.int (k:Int)]=.ok (.str (n k)))(x:Int)(h0:0<=x)(h1:x<2147483700)(m r:Nat)(m4:m<=4)(r3:r<=3):∃Q:QL,Q.length=m+r/\Fd n Q/\ai cg 5 7 [.int x,.int b,.int 0,.int m,.int r]=.ok (fq m Q):=by
 have rg:=oX (m+r) (SU (show m+r<=7 by omega) (by decide));rw[show((m+r:Nat):Int)=(m:Int)+(r:Int)by omega]at rg;obtain⟨B,hB⟩:∃B:bN,B=aq (aT 0 (fR (ai bK 1 1) (ae (af 0) ah))) (aq (uX 5 gq (ae (cA (ae (fR (ai bJ 2 7) (ae (af 1) (ae (f2 bS (af 2) (af 6)) ah))) (ae (fR (ai bI 1 1) (ae (af 0) ah)) ah))) ah)) (dr [6] bq)):=⟨_,rfl⟩
 suffices h:∃Q:QL,(Q.length=m+r/\Fd n Q)/\ai cg 5 7 [.int x,.int b,.int 0,.int m,.int r]=.ok (fq m Q)by
  obtain⟨Q,⟨lQ,fQ⟩,e⟩:=h;exact⟨Q,lQ,fQ,e⟩
 rw[Cb];unfold cg;rw[<-hB];simp! only[rg];refine gL (Q:=λz=>∃Q:QL,(Q.length=m+r/\Fd n Q)/\z=.ok (fq m Q)) (λi ρ=>∃(K:QL)(y:Int),K.length=i/\Fd n K/\0<=y/\y<2147483700/\ρ=[‹.int y›,‹.int b›,‹.int 0›,‹.int m›,‹.int r›,some (.own (.lst (K.map λq=>fld (tD q)))),none]) ?_ ⟨[],x,rfl,IK n,h0,h1,rfl⟩ ?_
 ·rintro i d ρ k' hd ⟨K,y,hl,hf,y0,y1,rfl⟩;have hi:=eN hd;rw[eG]at hi;have hdi:d=.int (i:Int):=by
   rw[lF,RX,SN hi]at hd;cases hd;show D.int (0+(i:Int))=_;rw[Ua]
  subst hdi;obtain⟨y',a0,a1,en⟩:=lx y y0 y1;obtain⟨k,sk,et⟩:=Gj y' a0 ‹0›;have ek:ai bJ 2 7 [.int b,.int (0+(i:Int))]=.ok (.str (n i)):=by
   rw[Ua];exact hn i ‹0›
  have ap:gq (K.map λq=>fld (tD q)) [.tup [.str (n i),k.d]]=some ((K++[(n i,k)]).map λq=>fld (tD q)):=by
   rw[oQ (by rw[RJ];omega),SK];rfl
  have sm:=λf (Q:Ks)=>tY 5 gq f Q [‹.int y'›,‹.int b›,‹.int 0›,‹.int m›,‹.int r›,some (.own (.lst (K.map λq=>fld (tD q)))),‹.int (i:Int)›] (xs:=K.map λq=>fld (tD q)) rfl;refine⟨_,_,rfl,⟨K++[(n i,k)],y',by rw[RZ,hl];rfl,?_,a0,by omega,rfl⟩,?_⟩
  ·intro j p hj;by_cases z:j<K.length
   ·rw[RW z]at hj;exact hf j p hj
   ·rw[RU ‹0›]at hj;have lj:=(List.getElem?_eq_some_iff.mp hj).1;have e:j-K.length=0:=(by simp at lj;omega);rw[e]at hj;cases hj;exact⟨by rw[show j=i by omega],sk⟩
  ·rw[hB];simp! only[en,sm,ek,et,uo,ap]
 ·rintro ρ ⟨K,y,hl,hf,-,-,rfl⟩;rw[eG]at hl;refine⟨K,⟨hl,hf⟩,?_⟩;have c1:cutD (K.map λq=>fld (tD q)) none (some (m:Int))=(K.take m).map λq=>fld (tD q):=by rw[wy,TV]
  have c2:cutD (K.map λq=>fld (tD q)) (some (m:Int)) none=(K.drop m).map λq=>fld (tD q):=by rw[vx,TY]
  rw[lX];simp! only[c1,c2,uo]
theorem Wf.of{n:Nat->Str}{Q:QL}{km:Nat}(N:Inj n)(h:Fd n Q)(k1:1<=km)(k4:km<=4)(l1:km<=Q.length)(l2:Q.length<=7):Wf km Q:=by
 refine⟨k1,k4,l1,l2,?_,λp hp=>?_⟩
 ·refine List.pairwise_iff_getElem.mpr λa b ha hb hab z=>?_;rw[RJ]at ha hb;rw[TN,TN,(h a _ (Sz ha)).1,(h b _ (Sz hb)).1]at z
  have:=N a b ‹0› ‹0› z
  omega
 ·obtain⟨i,hi⟩:=T8 hp;exact(h i p hi).2
theorem DC(g:Nat)(k:Kd)(hk:k.sm)(x:Int)(h0:0<=x)(h1:x<2147483700):∃v,aE (g+1) [k.d,.int x]=.ok v/\Ty k v/\fit k v=true:=by
 cases k with
 |kn lo hi=>
  have h:=hk.1;have p7:pJ (.int x) (.int 7)=some (.int (x^7)):=wc x 7 (by decide) ‹0›;have mp:=λi=>fY (i:=i) (show(0:Int)<hi-lo+1 by omega);have q0:=TQ (x^7) (show hi-lo+1≠0 by omega);have q1:=TR (x^7) (show(0:Int)<hi-lo+1 by omega);refine⟨.int (lo+x^7%(hi-lo+1)),?_,⟨_,rfl⟩,?_⟩
  ·show aE (g+1) [num lo hi,.int x]=_;rw[dF,bG];unfold fe;simp! only[oW,p7,mp]
  ·show(decide (lo<=_)&&decide (_<=hi))=true;rw[decide_eq_true (show lo<=lo+x^7%(hi-lo+1)by omega),decide_eq_true (show lo+x^7%(hi-lo+1)<=hi by omega)];rfl
 |kw ws=>
  have h:ws≠[]:=hk.1;have l0:0<ws.length:=List.length_pos_iff.mpr h;have ml:=λi=>fY (i:=i) (show(0:Int)<(ws.length:Int)by omega);have q0:=TQ x (show(ws.length:Int)≠0 by omega);have q1:=TR x (show(0:Int)<(ws.length:Int)by omega);obtain⟨j,hj⟩:∃j:Nat,x%(ws.length:Int)=(j:Int):=⟨(x%(ws.length:Int)).toNat,by omega⟩
  have lj:j<ws.length:=by omega
  have i0:ao (bi ws) (.int 0)=some (.str "word"):=gH _ _;have i1:ao (bi ws) (.int 1)=some (.tup (ws.map .str)):=h7 _ _ _;have gl:cP [.tup (ws.map .str)]=some (.int (ws.length:Int)):=by
   have:cP [.tup (ws.map .str)]=some (.int ((ws.map D.str).length:Int)):=rfl
   rw[this,RJ]
  have ix:ao (.tup (ws.map .str)) (.int (j:Int))=some (.str ws[j]):=by
   rw[Jq,uR,RX,Sz lj];rfl
  refine⟨.str ws[j],?_,⟨_,rfl⟩,List.contains_iff_mem.mpr (Tr lj)⟩;show aE (g+1) [bi ws,.int x]=_;rw[dF,bG];unfold fe;generalize bi ws=kk at *;simp! only[i0,i1,o9,ww,gl,ml,hj,ix]
theorem HS(g:Nat){km:Nat}{Q:QL}(w:Wf km Q)(x:Int)(h0:0<=x)(h1:x<2147483700):∃u:List D,aX (g+2) [fq km Q,.int x]=.ok (.tup u)/\u.length=Q.length/\Rw Q u/\Ok Q u:=by
 have i0:ao (fq km Q) (.int 0)=some (.tup ((Q.take km).map λq=>fld (tD q))):=by rw[lX];exact gH _ _
 have i1:ao (fq km Q) (.int 1)=some (.tup ((Q.drop km).map λq=>fld (tD q))):=by rw[lX];exact h7 _ _ _
 have l2:=w.l2;have ad:bS (.tup ((Q.take km).map λq=>fld (tD q))) (.tup ((Q.drop km).map λq=>fld (tD q)))=some (.tup (Q.map λq=>fld (tD q))):=by
  rw[hU _ _ (by rw[RJ,RJ,RQ,R1];omega),<-SK,T6]
 obtain⟨B,hB⟩:∃B:bN,B=(aq (aT 1 (fR (ai bK 1 1) (ae (af 1) ah))) (aq (uX 2 gq (ae (fR (aE (g+1)) (ae (af 4) (ae (af 1) ah))) ah)) (dr [3,4] bq))):=⟨_,rfl⟩
 suffices h:∃d:D,(∃u:List D,d=.tup u/\u.length=Q.length/\Rw Q u/\Ok Q u)/\aX (g+2) [fq km Q,.int x]=.ok d by
  obtain⟨d,⟨u,h1,h2,h3,h4⟩,h5⟩:=h;exact⟨u,by rw[h5,h1],h2,h3,h4⟩
 rw[gC,bG];unfold jB;rw[<-hB];generalize fq km Q=ff at *;simp! only[i0,i1,ad];refine gL (Q:=λz=>∃d:D,(∃u:List D,d=.tup u/\u.length=Q.length/\Rw Q u/\Ok Q u)/\z=.ok d) (λi ρ=>∃(u:List D)(y:Int),u.length=i/\(∀j q,j<i->Q[j]?=some q->Ty q.2 (u.getD j .non)/\fit q.2 (u.getD j .non)=true)/\0<=y/\y<2147483700/\ρ=[‹ff›,‹.int y›,some (.own (.lst u)),none,none]) ?_ ⟨[],x,rfl,λj q h=>absurd h (Nat.not_lt_zero _),h0,h1,rfl⟩ ?_
 ·rintro i d ρ k' hd ⟨u,y,hl,hu,y0,y1,rfl⟩;rw[RX]at hd;cases hq:Q[i]? with
  |none=>rw[hq]at hd;cases hd
  |some q=>
   rw[hq]at hd;have hd:some (fld (tD q))=some d:=hd;cases hd;have li:=gG hq;obtain⟨y',a0,a1,en⟩:=lx y y0 y1;obtain⟨v,ev,tv,fv⟩:=DC g q.2 (w.sm q (RY hq)) y' a0 ‹0›;have ap:gq u [v]=some (u++[v]):=oQ ‹0›;have sm:=λf (K:Ks)=>tY 2 gq f K [‹ff›,‹.int y'›,some (.own (.lst u)),‹.str q.1›,‹q.2.d›] (xs:=u) rfl;have gT:∀ρ:ak,(gT 2 (oO [3,4])) (fld (tD q)) ρ=some ((ρ.set 3 (‹.str q.1›)).set 4 (‹q.2.d›)):=λρ=>rfl;refine⟨_,_,gT _,⟨u++[v],y',by rw[RZ,hl];rfl,λj p hj hp=>?_,a0,by omega,rfl⟩,?_⟩
   ·by_cases z:j<i
    ·rw[Tt,RW ‹0›,<-Tt];exact hu j p z hp
    ·have e:j=i:=(by omega);subst e;rw[hq]at hp;cases hp;rw[Tt,RU ‹0›,hl,Td];exact⟨tv,fv⟩
   ·rw[hB];simp! only[en,sm,ev,ap]
 ·rintro ρ ⟨u,y,hl,hu,-,-,rfl⟩;rw[RJ]at hl;refine⟨.tup u,⟨u,rfl,hl,λj q hq=>⟨by rw[hl];exact gG hq,(hu j q (by rw[RJ];exact gG hq) hq).1⟩,λj q hq=>(hu j q (by rw[RJ];exact gG hq) hq).2⟩,?_⟩;simp! only[]
theorem Hg:∀(Q:QL)(u:List D),Q.length<=u.length->(∀i q,Q[i]?=some q->Ty q.2 (u.getD i .non))->Sh (Q.map λq=>q.2.n) (u.take Q.length)
 |[],u,_,_=>by rw[Sa,Sq];exact .nil
 |q::Q,[],h,_=>by simp at h
 |q::Q,v::u,h,ht=>by
  have ih:=Hg Q u (by simpa using h) λi p hp=>by
   have:=ht (i+1) p hp
   rwa [List.getD_cons_succ]at this
  have t0:=ht 0 q rfl;rw[List.getD_cons_zero]at t0;rw[RG,Ss,RH];obtain⟨x,k⟩:=q;cases k with
  |kn a b=>obtain⟨i,rfl⟩:=t0;exact .int i ih
  |kw ws=>obtain⟨w,rfl⟩:=t0;exact .str w ih
theorem Ge(g:Nat){km:Nat}{Q:QL}(w:Wf km Q)(x:Int)(h0:0<=x)(h1:x<2147483700):∃T:gz,aN (g+3) [fq km Q,.int x,.int 6]=.ok (tb T)/\T.length<=6/\∀u∈T,Rw Q u/\Ok Q u/\u.length=Q.length:=by
 have r6:m7 [.int 6]=some (dY 0 6):=oX 6 (by decide);have g9:=gm 9;have g2:=gm 2;have d9:=gd 9;have i0:ao (fq km Q) (.int 0)=some (.tup ((Q.take km).map λq=>fld (tD q))):=by rw[lX];exact gH _ _
 have l1:=w.l1;have k1:=w.k1;have lk:cP [.tup ((Q.take km).map λq=>fld (tD q))]=some (.int (km:Int)):=by
  have:cP [.tup ((Q.take km).map λq=>fld (tD q))]=some (.int (((Q.take km).map λq=>fld (tD q)).length:Int)):=rfl
  rw[this,RJ,RQ,TB l1]
 obtain⟨B,hB⟩:∃B:bN,B=(aq (aT 1 (fR (ai bK 1 1) (ae (af 1) ah))) (aq (uX 3 gq (ae (fR (aX (g+2)) (ae (af 0) (ae (f2 ao (fh (ae (af 1) (ae (f2 cm (af 1) (fC (.int 9))) ah))) (f2 cm (f2 dm (af 1) (fC (.int 9))) (fC (.int 2)))) ah))) ah)) (dr [4] bq))):=⟨_,rfl⟩
 suffices h:∃d:D,(∃T:gz,d=tb T/\T.length<=6/\∀u∈T,Rw Q u/\Ok Q u/\u.length=Q.length)/\aN (g+3) [fq km Q,.int x,.int 6]=.ok d by
  obtain⟨d,⟨T,e1,e2,e3⟩,e4⟩:=h;exact⟨T,by rw[e4,e1],e2,e3⟩
 have row:=λy y0 y1=>HS g w y y0 y1;rw[fT,cX];unfold iD;rw[<-hB];generalize fq km Q=ff at *;simp! only[r6];refine gL (Q:=λz=>∃d:D,(∃T:gz,d=tb T/\T.length<=6/\∀u∈T,Rw Q u/\Ok Q u/\u.length=Q.length)/\z=.ok d) (λi ρ=>∃(T:gz)(y:Int),T.length=i/\(∀u∈T,Rw Q u/\Ok Q u/\u.length=Q.length)/\0<=y/\y<2147483700/\ρ=[‹ff›,‹.int y›,‹.int 6›,some (.own (.lst (T.map .tup))),none]) ?_ ⟨[],x,rfl,(λu h=>nomatch h),h0,h1,rfl⟩ ?_
 ·rintro i d ρ k' hd ⟨T,y,hl,hT,y0,y1,rfl⟩;have hi:=eN hd;rw[eG]at hi;have hdi:d=.int (i:Int):=by
   rw[lF,RX,SN hi]at hd;cases hd;show D.int (0+(i:Int))=_;rw[Ua]
  subst hdi;obtain⟨y',a0,a1,en⟩:=lx y y0 y1;obtain⟨z,ez,z0,z1⟩:∃z:Int,ao (.lst [.int y',.int (y'%9)]) (.int (y'/9%2))=some (.int z)/\0<=z/\z<2147483700:=by
   rcases(show y'/9%2=0\/y'/9%2=1 by omega)with q|q<;>rw[q]
   ·exact⟨y',rfl,by omega,by omega⟩
   ·exact⟨y'%9,rfl,by omega,by omega⟩
  obtain⟨u,eu,ul,ru,ou⟩:=row z z0 z1;have ap:gq (T.map .tup) [.tup u]=some ((T++[u]).map .tup):=by
   rw[oQ (by rw[RJ];omega),SK];rfl
  have sm:=λf (K:Ks)=>tY 3 gq f K [‹ff›,‹.int y'›,‹.int 6›,some (.own (.lst (T.map .tup))),‹.int (i:Int)›] (xs:=T.map .tup) rfl;refine⟨_,_,rfl,⟨T++[u],y',by rw[RZ,hl];rfl,λv hv=>?_,a0,by omega,rfl⟩,?_⟩
  ·rcases List.mem_append.mp hv with h|h
   ·exact hT v h
   ·rw[List.mem_singleton.mp h];exact⟨ru,ou,ul⟩
  ·rw[hB];simp! only[en,sm,g9,d9,g2,K1,ez,eu,ap]
 ·rintro ρ ⟨T,y,hl,hT,-,-,rfl⟩;rw[eG]at hl;have lt:(Q.take km).length=km:=by rw[RQ,TB l1]
  obtain⟨S,e,_,hS,lS⟩:=Bp (σ:=(Q.take km).map λq=>q.2.n) (kl:=km) (by
   intro z
   have:=congrArg List.length z
   rw[RJ,lt,Sa]at this
   omega) (by rw[RJ,lt]) T (λu hu=>by
    obtain⟨r,_,l⟩:=hT u hu;have s:=Hg (Q.take km) u (by rw[lt,l];exact l1) λi q hq=>by
     rw[List.getElem?_take]at hq;by_cases z:i<km
     ·rw[if_pos z]at hq;exact(r i q hq).2
     ·rw[if_neg z]at hq;cases hq
    rwa [lt]at s) ‹0›
  refine⟨tb S,⟨S,rfl,by omega,λu hu=>hT u (hS u hu)⟩,?_⟩;have et:tb S=.tup (S.map .tup):=rfl;rw[et];simp! only[i0,lk,e]
theorem KJ(k:Kd)(x:Int)(h:k.sm):∃c:Kd,k.n=c.n/\c.ok/\(k.ib c).ok/\ai aV 2 4 [k.d,.int x]=.ok c.d:=by
 have g3:=gm 3;cases k with
 |kn lo hi=>
  obtain⟨h1,h2,h3⟩:=h;have M3:(10:Nat)^65=100000*10^60:=by decide +kernel
  have OY:(1000:Nat)<10^60:=by decide +kernel
  have b65:2*10^60<=(10:Nat)^65:=by rw[M3];exact Nat.mul_le_mul_right _ (by decide)
  obtain⟨m,hm⟩:∃m,m=(lo+hi)/2:=⟨_,rfl⟩
  have m1:lo<=m:=by omega
  have m2:m<=hi:=by omega
  have d2:=gd 2;have g4:=gm 4;have cs:∃a b:Int,ao (.lst [.tup [.int lo,.int m],.tup [.int m,.int (hi+7)],.tup [.int (lo-5),.int (hi+5)],.tup [.int m,.int m]]) (.int (x%4))=some (.tup [.int a,.int b])/\a<=b/\a.natAbs<10^65/\b.natAbs<10^65/\max lo a<=min hi b:=by
   rcases(show x%4=0\/x%4=1\/x%4=2\/x%4=3 by omega)with z|z|z|z<;>rw[z]
   ·exact⟨lo,m,rfl,by omega,by omega,by omega,by omega⟩
   ·exact⟨m,hi+7,rfl,by omega,by omega,by omega,by omega⟩
   ·exact⟨lo-5,hi+5,rfl,by omega,by omega,by omega,by omega⟩
   ·exact⟨m,m,rfl,by omega,by omega,by omega,by omega⟩
  obtain⟨a,b,ei,c1,c2,c3,c4⟩:=cs;refine⟨.kn a b,rfl,⟨c1,c2,c3⟩,⟨c4,by omega,by omega⟩,?_⟩;have ad:bS (.tup [.str "number"]) (.tup [.int a,.int b])=some (num a b):=rfl;show ai aV 2 4 [num lo hi,.int x]=.ok (num a b);rw[bG];unfold aV;simp! only[oW,d2,<-hm,uo,Pl,g4,ei,Mp,ad]
 |kw ws=>
  obtain⟨h1,h2,h3⟩:=h;have i0:ao (bi ws) (.int 0)=some (.str "word"):=gH _ _;have i1:ao (bi ws) (.int 1)=some (.tup (ws.map .str)):=h7 _ _ _;obtain⟨w0,ws',ew⟩:∃w0 ws',ws=w0::ws':=by
   cases ws with
   |nil=>exact absurd rfl h1
   |cons a b=>exact⟨a,b,rfl⟩
  by_cases z3:x%3=0
  ·have zb:(x%3==0)=true:=(by simpa using z3);refine⟨.kw ws,rfl,⟨h1,h2,h3⟩,⟨?_,Rq (T5 ..) h2,λw hw=>h3 w (List.mem_filter.mp hw).1⟩,?_⟩
   ·exact Ub (a:=w0) (List.mem_filter.mpr ⟨by rw[ew];simp,List.contains_iff_mem.mpr (by rw[ew];simp)⟩)
   ·have ek:(Kd.kw ws).d=.tup [.str "word",.tup (ws.map .str)]:=rfl;rw[ek];show ai aV 2 4 [bi ws,.int x]=_;rw[bG];unfold aV;generalize bi ws=kk at *;simp! only[i0,i1,o9,g3,zb,uo]
  ·have zb:(x%3==0)=false:=(by simpa using z3);obtain⟨P,hP⟩:∃P:Str×Nat->Bool,P=λp=>((p.2:Int)==0)||(Builtin.bitAnd (x/2^p.2) 1==1):=⟨_,rfl⟩
   obtain⟨vs,hv⟩:∃vs:av,vs=(ws.zipIdx.filter P).map (·.1):=⟨_,rfl⟩
   have sub:∀w∈vs,w∈ws:=λw hw=>by
    rw[hv]at hw;obtain⟨p,hp,rfl⟩:=List.mem_map.mp hw
    have:=(List.mem_filter.mp hp).1
    exact List.fst_mem_of_mem_zipIdx this
   have w0v:w0∈vs:=by
    rw[hv];refine List.mem_map.mpr ⟨(w0,0),List.mem_filter.mpr ⟨?_,?_⟩,rfl⟩
    ·rw[ew];simp
    ·rw[hP];rfl
   have lv:vs.length<=ws.length:=by
    rw[hv,RJ];exact Rq (T5 ..) (by rw[List.length_zipIdx];exact RB _)
   refine⟨.kw vs,rfl,⟨Ub w0v,by omega,λw hw=>h3 w (sub w hw)⟩,⟨?_,Rq (T5 ..) h2,λw hw=>h3 w (List.mem_filter.mp hw).1⟩,?_⟩
   ·refine Ub (a:=w0) (List.mem_filter.mpr ⟨by rw[ew];simp,List.contains_iff_mem.mpr w0v⟩)
   ·have lc:hX [none,none,some 1] (eK (ae (f2 ao (af 0) (fC (.int 1))) ah)) (gT 2 (oO [0,1])) (BK (fB (f2 gEq (af 0) (fC (.int 0)))) (fB (f2 gEq (f2 tN (f2 Ao (af 2) (af 0)) (fC (.int 1))) (fC (.int 1))))) (af 1) [‹bi ws›,‹.int x›,none,none]=.ok (.lst (vs.map .str)):=by
     refine gI (ds:=fu 0 (ws.map .str)) ?_ (by rw[gM,RJ];omega) ?_
     ·generalize bi ws=kk at *;simp! only[i1,tm]
     ·rw[enum_zip,hv,Tu];refine pV (λp:Str×Nat=>D.tup [.int (p.2:Int),.str p.1]) P _ ws.zipIdx λp hp=>⟨[‹.int (p.2:Int)›,‹.str p.1›,‹.int x›],rfl,?_,λ_=>rfl⟩
      have sh:=AQ x p.2;rw[hP];simp! only[sh,uw,mi]
    have ek:(Kd.kw vs).d=.tup [.str "word",.tup (vs.map .str)]:=rfl;rw[ek];show ai aV 2 4 [bi ws,.int x]=_;rw[bG];unfold aV;generalize bi ws=kk at *;simp! only[i0,o9,g3,zb,lc,uo]
noncomputable def Ii:bN:=aq (wO (gF [0] (f2 ao (af 0) (af 4))) (gT 2 (oO [7,8]))) (aq (aT 9 (gE [0] (hX [none,none] (bR (af 0)) (gT 2 (oO [0,1])) dq (af 0)))) (aq (aT 10 (f2 ao (fh (ae (af 5) (ae (fR (ai bJ 2 7) (ae (af 1) (ae (f2 bS (fC (.int 6)) (f2 cm (f2 dm (af 6) (fC (.int 192))) (fC (.int 12)))) ah))) ah))) (f2 cm (f2 dm (af 6) (fC (.int 96))) (fC (.int 2))))) (aq (eR (fB (f2 gEq (f2 cm (f2 dm (af 6) (fC (.int 3))) (fC (.int 4))) (fC (.int 0)))) (uX 3 gq (ae (fC (.obj "Step" [] [])) ah)) (eR (jT (fB (f2 pK (f2 cm (f2 dm (af 6) (fC (.int 3))) (fC (.int 4))) (fC (.int 3)))) (fB (f2 my (af 10) (af 9)))) (aq (uX 3 gq (ae (fNew "Rename" ["old","new"] (ae (af 7) (ae (af 10) ah))) ah)) (lY 0 (af 4) (cA (ae (af 10) (ae (af 8) ah))))) (aq (uX 3 gq (ae (fNew "Sieve" ["name","kind"] (ae (af 7) (ae (fR (ai aV 2 4) (ae (af 8) (ae (f2 dm (af 6) (fC (.int 96))) ah))) ah))) ah)) (lY 0 (af 4) (gF [3] (cA (ae (af 7) (ae (fR (ai bM 2 2) (ae (af 8) (ae (f1 (aC "kind" ["Sieve"]) (f2 ao (af 3) (wM (fC (.int 1))))) ah))) ah)))))))) (dr [6,7,8,9,10] bq))))
noncomputable def Lf:bN:=aq (eR (fB (f2 gEq (f2 cm (af 6) (fC (.int 3))) (fC (.int 0)))) (aq (aT 4 (gF [0] (f2 cm (f2 dm (af 6) (fC (.int 12))) (fL cP (ae (af 0) ah))))) (aT 5 (gF [0] (f2 ao (f2 ao (af 0) (af 4)) (fC (.int 0)))))) bq) Ii
theorem C4:dh=aq (lK 0 (fL mU (ae (af 0) ah))) (aq (lK 3 (fh ah)) (aq (aT 4 (fC (.int 0))) (aq (aT 5 (gF [0] (f2 ao (f2 ao (af 0) (fC (.int 0))) (fC (.int 0))))) (aq (kL (bR (af 2)) (gN 6) Lf) (oN 0 (oN 3 (aD (cA (ae (af 3) (ae (fL cW (ae (af 0) ah)) ah)))))))))):=rfl
theorem yi(is:List Nat)(f:FX)(ρ:ak):gF is f ρ=(wA (f (frzs is ρ))).bind λd=>if lf d then .ok d else un:=nr rfl
theorem HJ(is:List Nat)(f:FX)(ρ:ak):gE is f ρ=(wA (f (frzs is ρ))).bind (uZ is ρ):=nr rfl
theorem pX(f:FX)(g:GF)(k:Ks)(ρ:ak):wO f g k ρ=o8 (f ρ) k ρ λd=>(rO (g d ρ)).bind k.nx:=nr rfl
theorem qP{α:Type}(a:α):wA (.ok a:R α)=.ok a:=rfl
theorem Hf{i:Nat}{fi fv:FX}{k:Ks}{ρ:ak}{xs:List D}{j:Int}{n:Nat}{v:D}(h:ρ[i]?=some (some (.own (.lst xs))))(hv:fv ρ=.ok v)(hi:fi ρ=.ok (.int j))(hn:uP xs.length j=some n):lY i fi fv k ρ=k.nx (ρ.set i (some (.own (.lst (xs.set n v))))):=by
 unfold lY;rw[h];simp only[hv,hi,df,qg,hn]
theorem Fw{n i:Nat}(h:i<n):uP n (i:Int)=some i:=by
 unfold uP;rw[if_pos ‹0›,if_pos ‹0›];rfl
theorem uB:∀ws:av,yf (ws.map .str)=true
 |[]=>rfl
 |w::ws=>by
  rw[RH];unfold yf;rw[uB ws];rfl
theorem LV(k:Kd):lf k.d=true:=by
 cases k with
 |kn a b=>rfl
 |kw ws=>
  show(true&&(yf (ws.map .str)&&true))=true;rw[uB];rfl
theorem Hk(x:Str)(k:Kd):lf (.tup [.str x,k.d])=true:=by
 show(true&&(lf k.d&&true))=true;rw[LV];rfl
noncomputable abbrev fl(Q:QL):List D:=Q.map λq=>fld (tD q)
noncomputable abbrev cM(raw:List As):List D:=raw.reverse.map As.d
section
variable{km:Nat}{Q Q' Q0:QL}{a:As}{p P:List D->Bool}{raw:List As}{t:Str}
theorem Bj{i:Nat}{q:Str×Kd}(h:Q[i]?=some q):ao (.lst (fl Q)) (.int (i:Int))=some (fld (tD q)):=by
 rw[J5,uR,RX,h];rfl
theorem CP(Q:QL)(i:Nat)(q:Str×Kd):(fl Q).set i (fld (tD q))=fl (Q.set i q):=(T7 ..).symm
theorem B7(w:Wf km Q)(x1 x2 x3 x4 x5 x6 x7 x8 x9 x10:Option S):gE [0] (hX [none,none] (bR (af 0)) (gT 2 (oO [0,1])) dq (af 0)) [some (.own (.lst (fl Q))),x1,x2,x3,x4,x5,x6,x7,x8,x9,x10]=.ok (.lst ((Q.map (·.1)).map .str)):=by
 have k1:=w.k1;have l1:=w.l1;have l2:=w.l2;have lc:hX [none,none] (bR (af 0)) (gT 2 (oO [0,1])) dq (af 0) [‹.lst (fl Q)›,x1,x2,x3,x4,x5,x6,x7,x8,x9,x10]=.ok (.lst ((Q.map (·.1)).map .str)):=by
  refine gI (ds:=fl Q) (by simp! only[]) (by rw[RJ];omega) ?_;rw[Tu];exact pU (λq:Str×Kd=>fld (tD q)) (λq=>.str q.1) Q λq hq=>⟨[‹.str q.1›,‹q.2.d›],rfl,rfl,rfl⟩
 have pk:uZ [0] [some (.own (.lst (fl Q))),x1,x2,x3,x4,x5,x6,x7,x8,x9,x10] (.lst ((Q.map (·.1)).map .str))=.ok (.lst ((Q.map (·.1)).map .str)):=by
  show(if yf ((Q.map (·.1)).map .str)&&hdS ((Q.map (·.1)).map .str)&&(Gp (.lst (fl Q))&&true)then(.ok (.lst ((Q.map (·.1)).map .str)):R D)else un)=_;rw[uB];cases Q with
  |nil=>simp at l1;omega
  |cons q Q=>rfl
 rw[HJ];have fz:frzs [0] [some (.own (.lst (fl Q))),x1,x2,x3,x4,x5,x6,x7,x8,x9,x10]=[‹.lst (fl Q)›,x1,x2,x3,x4,x5,x6,x7,x8,x9,x10]:=rfl;rw[fz,lc,qP,df];exact pk
theorem KU(w:Wf km Q){i:Nat}{q:Str×Kd}(h:Q[i]?=some q)(x1 x2 x3 x5 x6 x7 x8 x9 x10:Option S):gF [0] (f2 ao (af 0) (af 4)) [some (.own (.lst (fl Q))),x1,x2,x3,‹.int (i:Int)›,x5,x6,x7,x8,x9,x10]=.ok (fld (tD q)):=by
 have e:=Bj h;rw[yi];have fz:frzs [0] [some (.own (.lst (fl Q))),x1,x2,x3,‹.int (i:Int)›,x5,x6,x7,x8,x9,x10]=[‹.lst (fl Q)›,x1,x2,x3,‹.int (i:Int)›,x5,x6,x7,x8,x9,x10]:=rfl;rw[fz];have l:=Hk q.1 q.2;generalize fl Q=ff at *;simp! only[e,qP,l]
theorem nE(raw:List As)(a:As):cM raw++[a.d]=cM (a::raw):=by
 show raw.reverse.map As.d++[a.d]=(a::raw).reverse.map As.d;rw[List.reverse_cons,SK];rfl
noncomputable abbrev BQ(Q:QL)(b:Int)(sd:D)(raw:List As)(at_:Nat)(old:Str)(x6:Option S):ak:=[some (.own (.lst (fl Q))),‹.int b›,‹sd›,some (.own (.lst (cM raw))),‹.int (at_:Int)›,‹.str old›,x6,none,none,none,none]
theorem BM(w:Wf km Q)(hr:Rn Q0 raw Q P)(lr:raw.length<=12)(b:Int)(hb:0<=b)(sd:D){i:Nat}(hi:i<Q.length)(old:Str)(x:Int)(hx:0<=x)(k':Ks):∃(a:As)(Q':QL)(p:List D->Bool),Ap Q a Q' p/\Ii k' (BQ Q b sd raw i old (‹.int x›))=k'.nx (BQ Q' b sd (a::raw) i old none):=by
 obtain⟨⟨nm,kd⟩,hq⟩:∃q,Q[i]?=some q:=⟨_,Sz hi⟩
 have sm:=w.sm (nm,kd) (RY hq);have sm:kd.sm:=sm;obtain⟨nn,en,_⟩:=xR b (6+x/192%12) hb ‹0›;obtain⟨nw,ew⟩:∃nw:Str,ao (.lst [.str old,.str nn]) (.int (x/96%2))=some (.str nw):=by
  rcases(show x/96%2=0\/x/96%2=1 by omega)with q|q<;>rw[q]
  ·exact⟨_,rfl⟩
  ·exact⟨_,rfl⟩
 have g3:=gm 3;have g4:=gm 4;have g2:=gm 2;have g12:=gm 12;have d3:=gd 3;have d96:=gd 96;have d192:=gd 192;have pk:=λx6 x7 x8 x9 x10=>KU (q:=(nm,kd)) w hq (‹.int b›) (‹sd›) (some (.own (.lst (cM raw)))) (‹.str old›) x6 x7 x8 x9 x10;have nk:=λx6 x7 x8 x9 x10=>B7 w (‹.int b›) (‹sd›) (some (.own (.lst (cM raw)))) (‹.int (i:Int)›) (‹.str old›) x6 x7 x8 x9 x10;have gT:∀ρ:ak,(gT 2 (oO [7,8])) (fld (tD (nm,kd))) ρ=some ((ρ.set 7 (‹.str nm›)).set 8 (‹kd.d›)):=λρ=>rfl;have nwR:∀(fas:aW)(ρ:ak),fNew "Rename" ["old","new"] fas ρ=(fas ρ).bind λas=>if as.length=2 then .ok (.obj "Rename" ["old","new"] as)else un:=λ_ _=>rfl
 have nwV:∀(fas:aW)(ρ:ak),fNew "Sieve" ["name","kind"] fas ρ=(fas ρ).bind λas=>if as.length=2 then .ok (.obj "Sieve" ["name","kind"] as)else un:=λ_ _=>rfl
 have ls:(cM raw).length<100000:=by
  show(raw.reverse.map As.d).length<100000;rw[RJ,Uc];omega
 have lq:(fl Q).length=Q.length:=RJ ..
 have ixn:uP (fl Q).length (i:Int)=some i:=Fw (by rw[lq];exact hi);have nin:my (.str nw) (.lst ((Q.map (·.1)).map .str))=some (.bl (!(Q.map (·.1)).contains nw)):=by
  have e:=Ew nw (Q.map (·.1));have e1:xx (.str nw) (.lst ((Q.map (·.1)).map .str))=if(TG.pl (.str nw)&&mm ((Q.map (·.1)).map .str))&&bY 8 (.str nw)then some (.bl (inD (.str nw) ((Q.map (·.1)).map .str)))else none:=rfl
  have e2:my (.str nw) (.lst ((Q.map (·.1)).map .str))=if(TG.pl (.str nw)&&mm ((Q.map (·.1)).map .str))&&bY 8 (.str nw)then some (.bl (!inD (.str nw) ((Q.map (·.1)).map .str)))else none:=rfl
  rw[e1]at e;rw[e2];cases c:((TG.pl (.str nw)&&mm ((Q.map (·.1)).map .str))&&bY 8 (.str nw))with
  |false=>rw[c]at e;cases e
  |true=>
   rw[c]at e;have e:some (D.bl (inD (.str nw) ((Q.map (·.1)).map .str)))=some (.bl ((Q.map (·.1)).contains nw)):=e;injection e with e;injection e with e;rw[e];rfl
 have sm3:=λf (K:Ks) x7 x8 x9 x10=>tY 3 gq f K [some (.own (.lst (fl Q))),‹.int b›,‹sd›,some (.own (.lst (cM raw))),‹.int (i:Int)›,‹.str old›,‹.int x›,x7,x8,x9,x10] (xs:=cM raw) rfl;by_cases z:x/3%4=0
 ·have zb:(x/3%4==0)=true:=by simpa using z
  have ap:gq (cM raw) [.obj "Step" [] []]=some (cM (.s::raw)):=by
   rw[oQ ls];exact congrArg some (nE raw .s)
  refine⟨.s,Q,_,.s Q,?_⟩;unfold Ii BQ;generalize cM (.s::raw)=st2 at *;generalize cM raw=st1 at *;generalize fl Q=fq1 at *;simp! only[pX,pk,gT,nk,g12,d192,en,K1,d96,g2,ew,d3,g4,zb,sm3,ap]
 ·have zb:(x/3%4==0)=false:=by simpa using z
  by_cases y:x/3%4<3/\(Q.map (·.1)).contains nw=false
  ·obtain⟨y1,y2⟩:=y;have hn:nw∉Q.map (·.1):=λh=>by rw[List.contains_iff_mem.mpr h]at y2;cases y2
   rw[y2]at nin;have ap:gq (cM raw) [oR nm nw]=some (cM (.r nm nw::raw)):=by
    rw[oQ ls];exact congrArg some (nE raw (.r nm nw))
   refine⟨.r nm nw,Q.set i (nw,kd),_,.r Q i nm nw kd hq hn,?_⟩;have es:=CP Q i (nw,kd);have pl:=λK:Ks=>Hf (i:=0) (fi:=af 4) (fv:=cA (ae (af 10) (ae (af 8) ah))) (k:=K) (ρ:=[some (.own (.lst (fl Q))),‹.int b›,‹sd›,some (.own (.lst (cM (.r nm nw::raw)))),‹.int (i:Int)›,‹.str old›,‹.int x›,‹.str nm›,‹kd.d›,‹.lst ((Q.map (·.1)).map .str)›,‹.str nw›]) (xs:=fl Q) (j:=i) (n:=i) (v:=fld (tD (nw,kd))) rfl (by simp! only[uo]) (by simp! only[]) ixn;rw[es]at pl;unfold Ii BQ;generalize cM (.r nm nw::raw)=st2 at *;generalize cM raw=st1 at *;generalize fl (Q.set i (nw,kd))=fq2 at *;generalize fl Q=fq1 at *;simp! only[pX,pk,gT,nk,g12,d192,en,K1,d96,g2,ew,d3,g4,zb,decide_eq_true y1,nin,TL,nwR,sm3,ap,pl]
  ·obtain⟨c,c1,c2,c3,ec⟩:=KJ kd (x/96) sm;have ib:=Jl c1 sm.ok';have fk:=u9 nm c.d;have ap:gq (cM raw) [oV nm c.d]=some (cM (.v nm c::raw)):=by
    rw[oQ ls];exact congrArg some (nE raw (.v nm c))
   have last:ao (.lst (cM (.v nm c::raw))) (.int (-1))=some (oV nm c.d):=by
    rw[<-nE,J5,Em];rfl
   refine⟨.v nm c,Q.set i (nm,kd.ib c),_,.v Q i nm kd c hq c1 c2 c3,?_⟩;have es:(fl Q).set i (.tup [.str nm,(kd.ib c).d])=fl (Q.set i (nm,kd.ib c)):=CP Q i (nm,kd.ib c);have l:=Hk nm (kd.ib c);have fz:∀x0 x1 x2 x4 x5 x6 x7 x8 x9 x10 (zs:List D),frzs [3] [x0,x1,x2,some (.own (.lst zs)),x4,x5,x6,x7,x8,x9,x10]=[x0,x1,x2,‹.lst zs›,x4,x5,x6,x7,x8,x9,x10]:=λ_ _ _ _ _ _ _ _ _ _ _=>rfl;have pl:=λK:Ks=>Hf (i:=0) (fi:=af 4) (fv:=gF [3] (cA (ae (af 7) (ae (fR (ai bM 2 2) (ae (af 8) (ae (TG.f1 (aC "kind" ["Sieve"]) (f2 ao (af 3) (wM (fC (.int 1))))) ah))) ah)))) (k:=K) (ρ:=[some (.own (.lst (fl Q))),‹.int b›,‹sd›,some (.own (.lst (cM (.v nm c::raw)))),‹.int (i:Int)›,‹.str old›,‹.int x›,‹.str nm›,‹kd.d›,‹.lst ((Q.map (·.1)).map .str)›,‹.str nw›]) (xs:=fl Q) (j:=i) (n:=i) (v:=.tup [.str nm,(kd.ib c).d]) rfl (by
    rw[yi,fz];generalize cM (.v nm c::raw)=st2 at *;generalize (kd.ib c).d=kc at *;generalize oV nm c.d=ov at *;generalize c.d=cd at *;generalize kd.d=kk at *;simp! only[last,fk,ib,uo,qP,l]) (by simp! only[]) ixn
   rw[es]at pl;have cond:((if decide (x/3%4<3)=true then(.ok (!(Q.map (·.1)).contains nw):R Bool)else .ok false))=.ok false:=by
    by_cases y1:x/3%4<3
    ·rw[if_pos (decide_eq_true y1)];cases y2:(Q.map (·.1)).contains nw with
     |true=>rfl
     |false=>exact absurd ⟨y1,y2⟩ y
    ·rw[decide_eq_false y1];rfl
   unfold Ii BQ;generalize cM (.v nm c::raw)=st2 at *;generalize cM raw=st1 at *;generalize fl (Q.set i (nm,kd.ib c))=fq2 at *;generalize fl Q=fq1 at *;generalize (!(Q.map (·.1)).contains nw)=cn at *;simp! only[pX,pk,gT,nk,g12,d192,en,K1,d96,g2,ew,d3,g4,zb,nin,cond,ec,nwV,sm3,ap,pl]
theorem IV(w:Wf km Q)(hr:Rn Q0 raw Q P)(lr:raw.length<=12)(b:Int)(hb:0<=b)(sd:D){i:Nat}(hi:i<Q.length)(old:Str)(x:Int)(hx:0<=x)(k':Ks):∃(a:As)(Q':QL)(p:List D->Bool)(i':Nat)(old':Str),i'<Q.length/\Ap Q a Q' p/\Lf k' (BQ Q b sd raw i old (‹.int x›))=k'.nx (BQ Q' b sd (a::raw) i' old' none):=by
 have g3:=gm 3;have d12:=gd 12;have lq:(fl Q).length=Q.length:=RJ ..
 by_cases z:x%3=0
 ·have zb:(x%3==0)=true:=by simpa using z
  have ml:=λj=>fY (i:=j) (show(0:Int)<(Q.length:Int)by omega);have q0:=TQ (x/12) (show(Q.length:Int)≠0 by omega);have q1:=TR (x/12) (show(0:Int)<(Q.length:Int)by omega);obtain⟨j,hj⟩:∃j:Nat,x/12%(Q.length:Int)=(j:Int):=⟨(x/12%(Q.length:Int)).toNat,by omega⟩
  have lj:j<Q.length:=by omega
  obtain⟨⟨nm,kd⟩,hq⟩:∃q,Q[j]?=some q:=⟨_,Sz lj⟩
  obtain⟨a,Q',p,h1,h2⟩:=BM w hr lr b hb sd lj nm x hx k';refine⟨a,Q',p,j,nm,lj,h1,?_⟩;have gl:cP [.lst (fl Q)]=some (.int (Q.length:Int)):=by
   have:cP [.lst (fl Q)]=some (.int ((fl Q).length:Int)):=rfl
   rw[this,lq]
  have e:=Bj hq;have fz:∀x1 x2 x3 x4 x5 x6 x7 x8 x9 x10 (zs:List D),frzs [0] [some (.own (.lst zs)),x1,x2,x3,x4,x5,x6,x7,x8,x9,x10]=[‹.lst zs›,x1,x2,x3,x4,x5,x6,x7,x8,x9,x10]:=λ_ _ _ _ _ _ _ _ _ _ _=>rfl;have l1:∀i:Int,lf (.int i)=true:=λ_=>rfl;have l2:∀s:Str,lf (.str s)=true:=λ_=>rfl;rw[<-h2];unfold Lf BQ;generalize Ii=CR;generalize fl Q=fq1 at *;generalize cM raw=st1 at *;simp! only[g3,zb,yi,fz,d12,gl,ml,hj,qP,l1,e,l2]
 ·have zb:(x%3==0)=false:=by simpa using z
  obtain⟨a,Q',p,h1,h2⟩:=BM w hr lr b hb sd hi old x hx k';refine⟨a,Q',p,i,old,hi,h1,?_⟩;rw[<-h2];unfold Lf BQ;generalize Ii=CR;generalize fl Q=fq1 at *;generalize cM raw=st1 at *;simp! only[g3,zb]
theorem Ap.len(h:Ap Q a Q' p):Q'.length=Q.length:=by
 cases h with
 |s=>rfl
 |r=>exact R4 ..
 |v=>exact R4 ..
theorem CK(w:Wf km Q0)(b:Int)(hb:0<=b)(xs:List Int)(hx:∀x∈xs,0<=x)(hl:xs.length<=12):∃(raw:List As)(Q:QL)(P:List D->Bool),Rn Q0 raw Q P/\raw.length=xs.length/\ai dh 3 11 [.tup (fl Q0),.int b,.lst (xs.map .int)]=.ok (.tup [.lst (cM raw),.tup (fl Q)]):=by
 have k1:=w.k1;have l1:=w.l1;have l2:=w.l2;obtain⟨⟨nm,kd⟩,hq⟩:∃q,Q0[0]?=some q:=⟨_,Sz ‹0›⟩
 have e:=Bj hq;have li:mU [.tup (fl Q0)]=some (.lst (fl Q0)):=rfl;have fz:∀x1 x2 x3 x4 x5 x6 x7 x8 x9 x10 (zs:List D),frzs [0] [some (.own (.lst zs)),x1,x2,x3,x4,x5,x6,x7,x8,x9,x10]=[‹.lst zs›,x1,x2,x3,x4,x5,x6,x7,x8,x9,x10]:=λ_ _ _ _ _ _ _ _ _ _ _=>rfl;have lfs:∀s:Str,lf (.str s)=true:=λ_=>rfl
 suffices h:∃d:D,(∃(raw:List As)(Q:QL)(P:List D->Bool),Rn Q0 raw Q P/\raw.length=xs.length/\d=.tup [.lst (cM raw),.tup (fl Q)])/\ai dh 3 11 [.tup (fl Q0),.int b,.lst (xs.map .int)]=.ok d by
  obtain⟨d,⟨raw,Q,P,h1,h2,h3⟩,h4⟩:=h;exact⟨raw,Q,P,h1,h2,by rw[h4,h3]⟩
 have e':ao (.lst (fl Q0)) (.int 0)=some (fld (tD (nm,kd))):=e;rw[cX,C4];have tr:=λ(Q:QL)(raw:List As)(P:List D->Bool)(hr:Rn Q0 raw Q P)(lr:raw.length<=12)(i:Nat)(hi:i<Q.length)(old:Str)(x:Int)(hx:0<=x)(k':Ks)=>IV (hr.wf w) hr lr b hb (.lst (xs.map .int)) hi old x hx k';generalize Lf=CB at *;simp! only[li,yi,fz,e',qP,lfs];refine gL (Q:=λz=>∃d:D,(∃(raw:List As)(Q:QL)(P:List D->Bool),Rn Q0 raw Q P/\raw.length=xs.length/\d=.tup [.lst (cM raw),.tup (fl Q)])/\z=.ok d) (λi ρ=>∃(raw:List As)(Q:QL)(P:List D->Bool)(j:Nat)(old:Str),Rn Q0 raw Q P/\raw.length=i/\Q.length=Q0.length/\j<Q.length/\ρ=BQ Q b (.lst (xs.map .int)) raw j old none) ?_ ⟨[],Q0,_,0,nm,.nil,rfl,rfl,by omega,rfl⟩ ?_
 ·rintro i d ρ k' hd ⟨raw,Q,P,j,old,h1,h2,h3,h4,rfl⟩;have hi:=eN hd;rw[RJ]at hi;rw[RX,Sz hi]at hd;cases hd;obtain⟨a,Q',p,j',old',g1,g2,g3⟩:=tr Q raw P h1 ‹0› j h4 old xs[i] (hx _ (Tr hi)) k';exact⟨_,_,rfl,⟨a::raw,Q',_,j',old',.cons h1 g2,by rw[RG,h2],by rw[g2.len];exact h3,by rw[g2.len];exact g1,rfl⟩,g3⟩
 ·rintro ρ ⟨raw,Q,P,j,old,h1,h2,h3,h4,rfl⟩;rw[RJ]at h2;refine⟨_,⟨raw,Q,P,h1,h2,rfl⟩,?_⟩;unfold BQ;generalize fl Q=fq1 at *;generalize cM raw=st1 at *;simp! only[uo]
end
noncomputable def Mx:bN:=aq (aT 9 (fj [(af 1,af 0)])) (aq (aT 10 (fR (ai gW 2 2) (ae (af 9) (ae (af 7) ah)))) (aq (eR (BK (nH (aS (fR (bp 15) (ae (af 10) (ae (af 9) ah))))) (fB (f2 Ko (fR (ai fK 1 1) (ae (af 10) ah)) (fL cP (ae (af 5) ah))))) (aD (fC (.bl false))) bq) (aq (aT 11 (bH "form" [("Leaf",(ai bz 2 2)),("Over",(ay 15)),("Both",(az 15))] (af 10) (ae (af 9) ah))) (aq (eR (BK (fB (f2 tQ (f2 bS (f2 ao (af 11) (fC (.int 0))) (f2 ao (af 11) (fC (.int 1)))) (af 6))) (fB (f2 tQ (fL cP (ae (f2 ao (af 11) (fC (.int 0))) ah)) (fL cP (ae (f2 ao (af 0) (fC (.int 0))) ah))))) (aD (fC (.bl false))) bq) (aq (aT 12 (fj [(af 1,fR (aN 15) (ae (af 0) (ae (af 4) (ae (fC (.int 6)) ah))))])) (aD (f2 gEq (bH "got" [("Leaf",(ai ax 3 3)),("Over",(ai ax 3 3)),("Both",(ai ax 3 3))] (af 10) (ae (af 9) (ae (af 12) ah))) (bH "got" [("Leaf",(ai ax 3 3)),("Over",(ai ax 3 3)),("Both",(ai ax 3 3))] (af 7) (ae (af 9) (ae (af 12) ah))))))))))
theorem Cy:dS=aq (wO (fR (ai dh 3 11) (ae (f2 bS (f2 ao (af 0) (fC (.int 0))) (f2 ao (af 0) (fC (.int 1)))) (ae (af 2) (ae (af 3) ah)))) (gT 2 (oO [5,6]))) (aq (aT 7 (fNew "Leaf" ["name"] (ae (af 1) ah))) (dr [2,3] (aq (kL (bR (af 5)) (gN 8) (aq (aT 7 (fNew "Over" ["glass","step"] (ae (af 7) (ae (af 8) ah)))) (dr [8] bq))) Mx))):=rfl
section
variable{km:Nat}{Q Q' Q0:QL}{a:As}{p P:List D->Bool}{raw ss:List As}{t:Str}{T:gz}
noncomputable abbrev Bv:List (Str×(bE)):=[("Leaf",(ai ax 3 3)),("Over",(ai ax 3 3)),("Both",(ai ax 3 3))]
theorem LZ(t:Str)(ss:List As)(fo:FX)(fas:aW)(ρ:ak)(h:fo ρ=.ok (gl t ss)):bH "got" Bv fo fas ρ=(fas ρ).bind λas=>ai ax 3 3 (gl t ss::as):=by
 cases ss with
 |nil=>exact dy "got" Bv "Leaf" ["name"] [.str t] (ai ax 3 3) fo fas ρ h (by kernel_rfl) (by decide +kernel)
 |cons a ss=>exact dy "got" Bv "Over" ["glass","step"] [gl t ss,a.d] (ai ax 3 3) fo fas ρ h (by kernel_rfl) (by decide +kernel)
theorem AO(w:Wf km Q):cP [.tup ((Q.take km).map λq=>fld (tD q))]=some (.int (km:Int)):=by
 have:cP [.tup ((Q.take km).map λq=>fld (tD q))]=some (.int (((Q.take km).map λq=>fld (tD q)).length:Int)):=rfl
 rw[this,RJ,RQ,TB w.l1]
theorem Cu(w:Wf km Q):bS (.tup ((Q.take km).map λq=>fld (tD q))) (.tup ((Q.drop km).map λq=>fld (tD q)))=some (.tup (fl Q)):=by
 have l2:=w.l2;rw[hU _ _ (by rw[RJ,RJ,RQ,R1];omega),<-SK,T6]
theorem LR(km:Nat)(Q:QL):ao (fq km Q) (.int 0)=some (.tup ((Q.take km).map λq=>fld (tD q))):=by rw[lX];exact gH _ _
theorem Li(km:Nat)(Q:QL):ao (fq km Q) (.int 1)=some (.tup ((Q.drop km).map λq=>fld (tD q))):=by rw[lX];exact h7 _ _ _
theorem KQ(Q:QL):tQ (.tup (fl Q)) (.tup (fl Q))=some (.bl false):=by
 have p1:TG.pl (.tup (fl Q))=true:=by rw[cK];exact JV Q
 have d1:bY 8 (.tup (fl Q))=true:=by
  show(fl Q).all (bY 7)=true;rw[Sy];refine List.all_eq_true.mpr λq _=>?_;show(true&&(bY 6 q.2.d&&true))=true
  have:bY 6 q.2.d=true:=by
   cases q.2 with
   |kn a b=>rfl
   |kw ws=>
    have z:((ws.map D.str).all (bY 4))=true:=by
     rw[Sy];exact List.all_eq_true.mpr λ_ _=>rfl
    show(true&&((ws.map D.str).all (bY 4)&&true))=true;rw[z];rfl
  rw[this];rfl
 have e:tQ (.tup (fl Q)) (.tup (fl Q))=if(TG.pl (.tup (fl Q))&&TG.pl (.tup (fl Q)))&&(bY 8 (.tup (fl Q))||bY 8 (.tup (fl Q)))then some (.bl (!pyEq (.tup (fl Q)) (.tup (fl Q))))else none:=rfl
 rw[e,p1,d1,jd];rfl
noncomputable def Pc(u:List D):Prop:=∀v∈u,(∃i:Int,v=.int i)\/∃s:Str,v=.str s
theorem LQ(h:∀u∈T,Pc u):gEq (tb T) (tb T)=some (.bl true):=by
 have p1:TG.pl (tb T)=true:=by
  unfold tb;rw[cK];refine ug λz hz=>?_;obtain⟨u,hu,rfl⟩:=List.mem_map.mp hz;rw[cK];refine ug λv hv=>?_;rcases h u hu v hv with⟨i,rfl⟩|⟨s,rfl⟩<;>rfl
 have d1:bY 8 (tb T)=true:=by
  show(T.map D.tup).all (bY 7)=true;rw[Sy];refine List.all_eq_true.mpr λu hu=>?_;show u.all (bY 6)=true;refine List.all_eq_true.mpr λv hv=>?_;rcases h u hu v hv with⟨i,rfl⟩|⟨s,rfl⟩<;>rfl
 have e:gEq (tb T) (tb T)=if(TG.pl (tb T)&&TG.pl (tb T))&&(bY 8 (tb T)||bY 8 (tb T))then some (.bl (pyEq (tb T) (tb T)))else none:=rfl
 rw[e,p1,d1,jd];rfl
theorem Ff(t:Str)(raw:List As)(i:Nat)(h:i<raw.length):over (gl t ((raw.reverse.take i).reverse)) (raw.reverse[i]'(by rw[Uc];exact h)).d=gl t ((raw.reverse.take (i+1)).reverse):=by
 rw[List.take_succ_eq_append_getElem (by rw[Uc];exact h),List.reverse_append];rfl
theorem Kq{u:List D}(r:Rw Q u)(l:u.length=Q.length):Pc u:=λv hv=>by
 obtain⟨i,hi⟩:=T8 hv;have li:=(List.getElem?_eq_some_iff.mp hi).1;obtain⟨⟨x,k⟩,hq⟩:∃q,Q[i]?=some q:=⟨_,Sz ‹0›⟩
 have ty:=(r i _ hq).2;rw[Tt,hi]at ty;cases k with
 |kn a b=>exact .inl ty
 |kw ws=>exact .inr ty
theorem BP(w:Wf km Q0)(b:Int)(hb:0<=b)(xs:List Int)(hx:∀x∈xs,0<=x)(hl:xs.length<=12)(x:Int)(h0:0<=x)(h1:x<2147483700):ai dS 5 13 [fq km Q0,.str t,.int b,.lst (xs.map .int),.int x]=.ok (.bl true):=by
 obtain⟨raw,Q,P,hr,lr,ec⟩:=CK w b hb xs hx hl;obtain⟨ts,P',tt,tr,tf,tl,tp⟩:=GZ (t:=t) w raw Q P 15 ‹0› ‹0› hr;obtain⟨T,er,lT,hT⟩:=Ge 12 w x h0 h1;have fr:=Gz (t:=t) w ts tf 15 ‹0› ‹0›;have st:=AV t ts ‹0›;have F1:=hr.fm w t 15 ‹0›;obtain⟨gf,hg,ef⟩:=tr.fm w t 15 ‹0›;have th:=GN F1 tt;have hRw:∀u∈T,Rw Q0 u:=λu hu=>(hT u hu).1;have g1:=tr.got (t:=t) w hRw ‹0› ‹0›;have g2:=hr.got (t:=t) w hRw ‹0› ‹0›;have ff:T.filter P'=T.filter P:=T1 λz hz=>tp z (hT z hz).2.1;rw[ff]at g1;have eqt:=LQ (T:=T.filter P) λu hu=>by
  have m:=(List.mem_filter.mp hu).1;exact Kq (hT u m).1 (hT u m).2.2
 have wq:=hr.wf w;have a0:=LR km Q0;have a1:=Li km Q0;have aa:=Cu w;have b0:=LR km Q;have b1:=Li km Q;have bb:=Cu wq;have la:=AO w;have lb:=AO wq;have nf:=KQ Q;have d1:=Dc t (fq km Q0);have d2:=Dc t (tb T);have ls:cP [.lst (cM raw)]=some (.int (raw.length:Int)):=by
  have:cP [.lst (cM raw)]=some (.int ((cM raw).length:Int)):=rfl
  rw[this,RJ,Uc]
 have gtz:decide ((raw.length:Int)<(ts.length:Int))=false:=decide_eq_false ‹0›;have kk:((km:Int)==(km:Int))=true:=by simp
 have tail:∀k':Ks,Mx k' [‹fq km Q0›,‹.str t›,none,none,‹.int x›,‹.lst (cM raw)›,‹.tup (fl Q)›,‹gl t raw›,none,none,none,none,none]=.ok (.bl true):=by
  intro k';have m1:=λx12=>hg.meth (af 10) (ae (af 9) ah) [‹fq km Q0›,‹.str t›,none,none,‹.int x›,‹.lst (cM raw)›,‹.tup (fl Q)›,‹gl t raw›,none,‹ic t (fq km Q0)›,‹gl t ts›,none,x12] rfl;have n1:=LZ t ts (af 10) (ae (af 9) (ae (af 12) ah)) [‹fq km Q0›,‹.str t›,none,none,‹.int x›,‹.lst (cM raw)›,‹.tup (fl Q)›,‹gl t raw›,none,‹ic t (fq km Q0)›,‹gl t ts›,‹fq km Q›,‹ic t (tb T)›] rfl;have n2:=LZ t raw (af 7) (ae (af 9) (ae (af 12) ah)) [‹fq km Q0›,‹.str t›,none,none,‹.int x›,‹.lst (cM raw)›,‹.tup (fl Q)›,‹gl t raw›,none,‹ic t (fq km Q0)›,‹gl t ts›,‹fq km Q›,‹ic t (tb T)›] rfl;unfold Mx;generalize ic t (fq km Q0)=f0 at *;generalize ic t (tb T)=h0' at *;generalize tb (T.filter P)=tf' at *;generalize tb T=t0 at *;generalize fq km Q0=q0 at *;generalize fq km Q=q1 at *;generalize gl t ts=gt at *;generalize gl t raw=gr at *;generalize cM raw=sr at *;generalize fl Q=flq at *;simp! only[yc,yF,uQ,Hq,d1,th,fr,st,ls,gtz,mi,Tj,T9,m1,ef,b0,b1,bb,nf,a0,la,lb,kk,er,d2,n1,n2,g1,g2,eqt]
 have PL:∀(fas:aW)(ρ:ak),fNew "Leaf" ["name"] fas ρ=(fas ρ).bind λas=>if as.length=1 then .ok (.obj "Leaf" ["name"] as)else un:=λ_ _=>rfl
 have gT:∀ρ:ak,(gT 2 (oO [5,6])) (.tup [.lst (cM raw),.tup (fl Q)]) ρ=some ((ρ.set 5 (‹.lst (cM raw)›)).set 6 (‹.tup (fl Q)›)):=λρ=>rfl;have gs:=Ff t raw;have lsr:(cM raw).length=raw.length:=by rw[RJ,Uc]
 rw[Cb,Cy];generalize Mx=RT at *;generalize hff:fq km Q0=q0 at *;simp! only[a0,a1,aa,ec,pX,gT,PL];refine gL (Q:=λz=>z=.ok (.bl true)) (λi ρ=>ρ=[‹q0›,‹.str t›,none,none,‹.int x›,‹.lst (cM raw)›,‹.tup (fl Q)›,‹gl t ((raw.reverse.take i).reverse)›,none,none,none,none,none]) ?_ rfl ?_
 ·rintro i d ρ k' hd rfl;have hi:=eN hd;rw[lsr]at hi;have hd':d=(raw.reverse[i]'(by rw[Uc];exact hi)).d:=by
   rw[RX,Sz (by rw[Uc];exact hi)]at hd;exact(Option.some.inj hd).symm
  subst hd';refine⟨_,_,rfl,rfl,?_⟩;rw[<-gs i hi];generalize gl t ((raw.reverse.take i).reverse)=g0;generalize (raw.reverse[i]'(by rw[Uc];exact hi)).d=dd;generalize cM raw=sr at *;generalize fl Q=flq at *;simp! only[Om]
 ·rintro ρ rfl;have e:(raw.reverse.take (cM raw).length).reverse=raw:=by
   rw[lsr,TF (by rw[Uc];exact RB _),List.reverse_reverse]
  rw[e];exact tail _
end
noncomputable def FY:bN:=aq (eR (nH (aS (fR (ai dS 5 13) (ae (af 3) (ae (af 4) (ae (af 1) (ae (gA (af 5) (il (af 6)) (il (f2 bS (af 6) (fC (.int 12))))) (ae (f2 ao (af 5) (af 6)) ah)))))))) (aD (fC (.bl false))) bq) (dr [6] bq)
theorem Fx:pf=aq (aT 1 (f2 cm (f2 jy (fR (ai cU 2 2) (ae (af 0) (ae (fC (.int 1)) ah))) (fC (.int 48271))) (fC (.int 2147483647)))) (aq (aT 2 (fR (ai bZ 2 3) (ae (af 0) (ae (fC (.int 0)) ah)))) (aq (aT 3 (fR (ai cg 5 7) (ae (fR (ai bK 1 1) (ae (af 2) ah)) (ae (af 1) (ae (fC (.int 0)) (ae (f2 bS (fC (.int 1)) (f2 cm (af 2) (fC (.int 3)))) (ae (f2 cm (f2 dm (af 2) (fC (.int 4))) (fC (.int 4))) ah))))))) (aq (aT 4 (fR (ai bJ 2 7) (ae (af 1) (ae (fC (.int 20)) ah)))) (aq (aT 5 (hX [none,some 0] (kT (ae (fC (.int 2)) (ae (fL lP (ae (fL kz (ae (fL cP (ae (af 0) ah)) (ae (fC (.int 8)) ah))) (ae (fC (.int 62)) ah))) ah))) (gN 0) dq (fR (ai bZ 2 3) (ae (af 1) (ae (af 0) ah))))) (dr [0,2] (aq (kL (mX (ae (fC (.int 0)) (ae (fL cP (ae (af 5) ah)) (ae (fC (.int 12)) ah)))) (gN 6) FY) (aD (fC (.bl true))))))))):=rfl
theorem Bf(b:Int)(hb:0<=b):∃n:Nat->Str,Inj n/\∀k:Nat,k<24->ai bJ 2 7 [.int b,.int (k:Int)]=.ok (.str (n k)):=by
 have h:=λk:Nat=>xR b (k:Int) hb ‹0›;refine⟨λk=>(h k).choose,λj k hj hk e=>?_,λk _=>(h k).choose_spec.1⟩;have e:(h j).choose=(h k).choose:=e;have p1:=(h j).choose_spec.2;have p2:=(h k).choose_spec.2;rw[<-e]at p2
 have:=Es ‹0› ‹0› ‹0› ‹0› p1 p2
 omega
theorem zR(f:aW)(ρ:ak):mX f ρ=(f ρ).bind λds=>rO (mV ds):=nr rfl
theorem Do{α:Type}(xs:List α)(k m:Nat):cutD xs (some (k:Int)) (some ((k:Int)+(m:Int)))=(xs.drop k).take m:=by
 have e:((k:Int)+(m:Int))=((k+m:Nat):Int):=by omega
 rw[e];unfold cutD;rw[HT.My,HT.My];by_cases h:k<=xs.length
 ·by_cases h2:k+m<=xs.length
  ·rw[TB h,TB h2,Nat.add_sub_cancel_left]
  ·rw[TB h,TC ‹0›];rw[TF (by rw[R1];omega),TF (by rw[R1];omega)]
 ·rw[TC ‹0›,TC ‹0›,TH ‹0›,TH ‹0›,Sr,Sr]
theorem B9(ns:List Int)(q:Nat)(h:q<=60)(ρ:ak):∃cs:List Int,cs.length=q/\(∀c∈cs,0<=c/\c<2147483647)/\xj [none,‹.lst (ns.map .int)›] (gN 0) dq (fR (ai bZ 2 3) (ae (af 1) (ae (af 0) ah))) (dY 2 q)=.ok (cs.map .int):=by
 have s:=λk:Nat=>yn ns (if k<62 then k else 0) (by split<;>omega);refine⟨(List.range q).map λk=>(s (2+k)).choose,by rw[RJ,SL],λc hc=>?_,?_⟩
 ·obtain⟨k,_,rfl⟩:=List.mem_map.mp hc;exact⟨(s (2+k)).choose_spec.1,(s (2+k)).choose_spec.2.1⟩
 ·rw[Tu,lF];refine pU (λk:Nat=>D.int (2+(k:Int))) (λk=>.int (s (2+k)).choose) (List.range q) λk hk=>⟨_,rfl,rfl,?_⟩
  have hk:=List.mem_range.mp hk;have e:=(s (2+k)).choose_spec.2.2;have ek:(if 2+k<62 then 2+k else 0)=2+k:=if_pos ‹0›;have e:ai bZ 2 3 [.lst (ns.map .int),.int (2+(k:Int))]=.ok (.int (s (2+k)).choose):=by
   generalize (s (2+k)).choose=c at *;rw[ek]at e
   rwa [show((2+k:Nat):Int)=2+(k:Int)by omega]at e
  generalize (s (2+k)).choose=c at *;simp! only[e]
theorem math(ns:List Int)(hl:ns.length<=63):ai pf 1 7 [.lst (ns.map .int)]=.ok (.bl true):=by
 obtain⟨c0,e0⟩:=TD.Mi ns 1 (by decide);obtain⟨x,x0,x1,ex⟩:=yn ns 0 (by decide);have ex:ai bZ 2 3 [.lst (ns.map .int),.int 0]=.ok (.int x):=ex;have m48:=qa (i:=c0) (j:=48271) (by decide) (by decide);have gb:=gm 2147483647;have g3:=gm 3;have g4:=gm 4;have d4:=gd 4;obtain⟨b,hb⟩:∃b,b=c0*48271%2147483647:=⟨_,rfl⟩
 have b0:0<=b:=by rw[hb];exact TQ _ (by decide)
 obtain⟨n,N,hn⟩:=Bf b b0;obtain⟨y,y0,y1,en⟩:=lx x x0 ‹0›;obtain⟨Q,lQ,fQ,eF⟩:=CZ b hn y y0 ‹0› (1+(x%3).toNat) ((x/4%4).toNat) ‹0› ‹0›;rw[show((1+(x%3).toNat:Nat):Int)=1+x%3 by omega,show(((x/4%4).toNat:Nat):Int)=x/4%4 by omega]at eF;have w:Wf (1+(x%3).toNat) Q:=Wf.of N fQ ‹0› ‹0› ‹0› ‹0›;have e20:ai bJ 2 7 [.int b,.int 20]=.ok (.str (n 20)):=hn 20 (by decide);obtain⟨q,hq,h20⟩:∃q:Nat,(if(62:Int)<(if(8:Int)>(ns.length:Int)then 8 else(ns.length:Int))then 62 else(if(8:Int)>(ns.length:Int)then 8 else(ns.length:Int)))=((2+q:Nat):Int)/\q<=60:=by
  by_cases z:(8:Int)>(ns.length:Int)
  ·rw[if_pos z,if_neg (by decide)];exact⟨6,rfl,by decide⟩
  ·rw[if_neg z];by_cases y:(62:Int)<(ns.length:Int)
   ·rw[if_pos y];exact⟨60,rfl,by decide⟩
   ·rw[if_neg y];exact⟨ns.length-2,by omega,by omega⟩
 have r2:mR [.int 2,.int ((2+q:Nat):Int)]=some (dY 2 q):=by
  have e:mR [.int 2,.int ((2+q:Nat):Int)]=if okR 2&&okR ((2+q:Nat):Int)then some (dY 2 ((((2+q:Nat):Int)-2).toNat))else none:=rfl
  have o1:okR 2=true:=rfl;have o2:okR ((2+q:Nat):Int)=true:=by unfold okR;exact decide_eq_true ⟨by omega,by omega⟩
  rw[e,o1,o2,show(((2+q:Nat):Int)-2).toNat=q by omega];rfl
 obtain⟨cs,lcs,hcs,ecs⟩:=B9 ns q h20 [];have lc:∀ρ:ak,hX [none,some 0] (kT (ae (fC (.int 2)) (ae (fL lP (ae (fL kz (ae (fL cP (ae (af 0) ah)) (ae (fC (.int 8)) ah))) (ae (fC (.int 62)) ah))) ah))) (gN 0) dq (fR (ai bZ 2 3) (ae (af 1) (ae (af 0) ah))) (‹.lst (ns.map .int)›::ρ)=.ok (.lst (cs.map .int)):=λρ=>by
  refine gI (ds:=dY 2 q) (by simp! only[RJ,hq,r2]) (by rw[eG];omega) ?_;exact ecs
 have gl:cP [.lst (cs.map .int)]=some (.int (q:Int)):=by
  have:cP [.lst (cs.map .int)]=some (.int ((cs.map D.int).length:Int)):=rfl
  rw[this,RJ,lcs]
 obtain⟨nu,hnu⟩:∃nu:Nat,nu=(Builtin.Range.rangeSize 0 (q:Int) 12).toNat:=⟨_,rfl⟩
 have nub:∀i:Nat,i<nu->i*12<q:=λi hi=>by
  have e:Builtin.Range.rangeSize 0 (q:Int) 12=if(0:Int)<(q:Int)then((q:Int)-0-1)/12+1 else 0:=rfl
  rw[hnu,e]at hi;split at hi
  ·omega
  ·simp at hi
 have rU:mV [.int 0,.int (q:Int),.int 12]=some (G4 0 12 nu):=by
  have e:mV [.int 0,.int (q:Int),.int 12]=if decide ((0:Int)<12/\(12:Int)<2^30)&&(zu 0&&zu (q:Int))then some (G4 0 12 (Builtin.Range.rangeSize 0 (q:Int) 12).toNat)else none:=rfl
  have o1:zu (q:Int)=true:=by unfold zu;exact decide_eq_true ⟨by omega,by omega⟩
  rw[e,o1,<-hnu];rfl
 have tr:∀(i:Nat)(k':Ks),i<nu->FY k' [none,‹.int b›,none,‹fq (1+(x%3).toNat) Q›,‹.str (n 20)›,‹.lst (cs.map .int)›,‹.int (0+(i:Int)*12)›]=k'.nx [none,‹.int b›,none,‹fq (1+(x%3).toNat) Q›,‹.str (n 20)›,‹.lst (cs.map .int)›,none]:=λi k' hi=>by
  have hk:=nub i hi;have lk:i*12<cs.length:=by omega
  have ek:(0+(i:Int)*12)=((i*12:Nat):Int):=by omega
  have cu:cutD (cs.map D.int) (some ((i*12:Nat):Int)) (some (((i*12:Nat):Int)+12))=((cs.drop (i*12)).take 12).map .int:=by
   have:=Do (cs.map D.int) (i*12) 12
   rw[<-TY,<-TV]at this;exact this
  have ix:ao (.lst (cs.map .int)) (.int ((i*12:Nat):Int))=some (.int cs[i*12]):=by
   rw[J5,uR,RX,Sz lk];rfl
  have hc:=hcs cs[i*12] (Tr lk);have ro:=BP (t:=n 20) w b b0 ((cs.drop (i*12)).take 12) (λz hz=>(hcs z (List.mem_of_mem_drop (List.mem_of_mem_take hz))).1) (by rw[RQ];omega) cs[i*12] hc.1 ‹0›;rw[ek];unfold FY;generalize fq (1+(x%3).toNat) Q=ff at *;generalize cs[i*12]=ci at *;generalize ((i*12:Nat):Int)=kk at *;simp! only[cu,ix,ro]
 rw[dC,Fx];generalize FY=LB at *;generalize fq (1+(x%3).toNat) Q=ff at *;rw[hb]at eF e20;simp! only[e0,m48,gb,ex,en,g3,g4,d4,eF,e20,lc,gl,zR,rU];rw[<-hb];refine gL (Q:=λz=>z=.ok (.bl true)) (λ_ ρ=>ρ=[none,‹.int b›,none,‹ff›,‹.str (n 20)›,‹.lst (cs.map .int)›,none]) ?_ rfl ?_
 ·rintro i d ρ k' hd rfl;have hi:=eN hd;rw[yo]at hi;have hdi:d=.int (0+(i:Int)*12):=by
   unfold G4 at hd;rw[RX,SN hi]at hd;exact(Option.some.inj hd).symm
  subst hdi;exact⟨_,_,rfl,rfl,tr i k' hi⟩
 ·rintro ρ rfl;simp! only[]
end Tk88
open PySem PySem.W PyProof.Rows
set_option maxRecDepth 100000 in
set_option maxHeartbeats 0 in
theorem PySem.Challenge.cw_twoglass_k88_chains_thinned_holds : PySem.Challenge.rw_twoglass_k88_chains_thinned.Holds := by
  refine hd88 ?_
  k_fill
  refine Tk88.walk (l := PySem.Challenge.rw_twoglass_k88_chains_thinned) rfl rfl (fun w h Y => PySem.W.kIn_of Y) ?F Tk88.math
  case F =>
    intro w mg fa h KX G hmg
    refine' Tk88.all_mk KX G hmg ?ac0 ?ac1 ?ac2 ?ac3 ?ac4 ?ac5 ?ac6 ?ac7 ?ac8 ?ac9 ?ac10 ?a0 ?i0 ?l0 ?c0 ?k0 ?a1 ?i1 ?l1 ?c1 ?k1 ?a2 ?a2_5 ?i2 ?l2 ?c2 ?k2 ?a3 ?i3 ?l3 ?c3 ?k3 ?a4 ?i4 ?l4 ?c4 ?k4 ?a5 ?i5 ?l5 ?c5 ?k5 ?a6 ?i6 ?l6 ?c6 ?k6 ?a7 ?i7 ?l7 ?c7 ?k7 ?a8 ?i8 ?l8 ?c8 ?k8 ?a9 ?a9_3 ?a9_4 ?a9_6 ?i9 ?l9 ?c9 ?k9 ?a10 ?i10 ?l10 ?c10 ?k10 ?a11 ?i11 ?l11 ?c11 ?k11 ?a12 ?i12 ?l12 ?c12 ?k12 ?a13 ?i13 ?l13 ?c13 ?k13 ?a14 ?i14 ?l14 ?c14 ?k14 ?a15 ?i15 ?l15 ?c15 ?k15 ?a16 ?a16_5 ?a16_7 ?a16_9 ?a16_10 ?i16 ?l16 ?c16 ?k16 ?a17 ?i17 ?l17 ?c17 ?k17 ?a18 ?i18 ?l18 ?c18 ?k18 ?a19 ?i19 ?l19 ?c19 ?k19 ?a20 ?i20 ?l20 ?c20 ?k20 ?a21 ?l21 ?c21 ?k21 ?a22 ?i22 ?l22 ?c22 ?k22 ?a23 ?i23 ?l23 ?c23 ?k23 ?a24 ?i24 ?l24 ?c24 ?k24 ?a25 ?i25 ?l25 ?c25 ?k25 ?a26 ?i26 ?l26 ?c26 ?k26 ?p0 ?q0 ?r0 ?s0 ?n0_0 ?m0 ?kp0 ?p1 ?q1 ?r1 ?s1 ?n1_0 ?n1_1 ?m1 ?kp1 ?p2 ?q2 ?r2 ?s2 ?n2_0 ?n2_1 ?m2 ?kp2 ?p3 ?q3 ?r3 ?s3 ?n3_0 ?n3_1 ?m3 ?kp3 ?p4 ?q4 ?r4 ?s4 ?n4_0 ?n4_1 ?n4_2 ?m4 ?kp4 ?p5 ?q5 ?r5 ?s5 ?o5 ?m5 ?kp5 ?p6 ?q6 ?r6 ?s6 ?p7 ?q7 ?r7 ?s7 ?n7_0 ?n7_1 ?p8 ?q8 ?r8 ?s8 ?n8_0 ?p9 ?q9 ?r9 ?s9 ?n9_0 ?n9_1 ?n9_2 ?n9_3 ?p10 ?q10 ?r10 ?s10 ?n10_0 ?n10_1 ?n10_2 ?n10_3 ?vsg ?vtk ?vf0 ?vm0 ?vf1 ?vm1 ?vf2 ?vm2 ?vf3 ?vm3 ?vf4 ?vm4 ?vf5 ?vm5 ?vt3 ?vi3 ?yy3_3 ?vs3_0 ?vn3_0 ?vs3_4 ?vn3_4 ?vt4 ?vi4 ?yy4_4 ?vs4_0 ?vn4_0 ?vs4_3 ?vn4_3 ?vt0 ?vi0 ?yy0_0 ?vs0_3 ?vn0_3 ?vs0_4 ?vn0_4 ?vt2 ?vi2 ?yy2_2 ?vs2_5 ?vn2_5 ?vs2_1 ?vn2_1 ?vt1 ?vi1 ?yy1_1 ?vs1_5 ?vn1_5 ?vs1_2 ?vn1_2 ?vt9 ?vi9 ?yy9_9 ?vs9_5 ?vn9_5 ?vs9_2 ?vn9_2 ?vs9_1 ?vn9_1 ?vt10 ?vi10 ?yy10_10 ?vs10_5 ?vn10_5 ?vs10_2 ?vn10_2 ?vs10_1 ?vn10_1 ?vt7 ?vi7 ?yy7_7 ?vs7_5 ?vn7_5 ?vs7_2 ?vn7_2 ?vs7_1 ?vn7_1 ?vt8 ?vi8 ?yy8_8 ?vs8_5 ?vn8_5 ?vs8_2 ?vn8_2 ?vs8_1 ?vn8_1 ?dd0 ?dd1 ?zz
    (case ac0 => k_is)
    (case ac1 => k_is)
    (case ac2 => k_is)
    (case ac3 => k_is)
    (case ac4 => k_is)
    (case ac5 => k_is)
    (case ac6 => k_is)
    (case ac7 => k_is)
    (case ac8 => k_is)
    (case ac9 => k_is)
    (case ac10 => k_is)
    (case a0 => k_is)
    (case i0 => k_is)
    (case l0 => delta TX.Lk; k_is)
    (case c0 => k_is)
    (case k0 => k_is)
    (case a1 => k_is)
    (case i1 => k_is)
    (case l1 => delta TX.Lk; k_is)
    (case c1 => k_is)
    (case k1 => k_is)
    (case a2 => k_is)
    (case a2_5 => k_is)
    (case i2 => k_is)
    (case l2 => delta TX.Lk; k_is)
    (case c2 => k_is)
    (case k2 => k_is)
    (case a3 => k_is)
    (case i3 => k_is)
    (case l3 => delta TX.Lk; k_is)
    (case c3 => k_is)
    (case k3 => k_is)
    (case a4 => k_is)
    (case i4 => k_is)
    (case l4 => delta TX.Lk; k_is)
    (case c4 => k_is)
    (case k4 => k_is)
    (case a5 => k_is)
    (case i5 => k_is)
    (case l5 => delta TX.Lk; k_is)
    (case c5 => k_is)
    (case k5 => k_is)
    (case a6 => k_is)
    (case i6 => k_is)
    (case l6 => delta TX.Lk; k_is)
    (case c6 => k_is)
    (case k6 => k_is)
    (case a7 => k_is)
    (case i7 => k_is)
    (case l7 => delta TX.Lk; k_is)
    (case c7 => k_is)
    (case k7 => k_is)
    (case a8 => k_is)
    (case i8 => k_is)
    (case l8 => delta TX.Lk; k_is)
    (case c8 => k_is)
    (case k8 => k_is)
    (case a9 => k_is)
    (case a9_3 => k_is)
    (case a9_4 => k_is)
    (case a9_6 => k_is)
    (case i9 => k_is)
    (case l9 => delta TX.Lk; k_is)
    (case c9 => k_is)
    (case k9 => k_is)
    (case a10 => k_is)
    (case i10 => k_is)
    (case l10 => delta TX.Lk; k_is)
    (case c10 => k_is)
    (case k10 => k_is)
    (case a11 => k_is)
    (case i11 => k_is)
    (case l11 => delta TX.Lk; k_is)
    (case c11 => k_is)
    (case k11 => k_is)
    (case a12 => k_is)
    (case i12 => k_is)
    (case l12 => delta TX.Lk; k_is)
    (case c12 => k_is)
    (case k12 => k_is)
    (case a13 => k_is)
    (case i13 => k_is)
    (case l13 => delta TX.Lk; k_is)
    (case c13 => k_is)
    (case k13 => k_is)
    (case a14 => k_is)
    (case i14 => k_is)
    (case l14 => delta TX.Lk; k_is)
    (case c14 => k_is)
    (case k14 => k_is)
    (case a15 => k_is)
    (case i15 => k_is)
    (case l15 => delta TX.Lk; k_is)
    (case c15 => k_is)
    (case k15 => k_is)
    (case a16 => k_is)
    (case a16_5 => k_is)
    (case a16_7 => k_is)
    (case a16_9 => k_is)
    (case a16_10 => k_is)
    (case i16 => k_is)
    (case l16 => delta TX.Lk; k_is)
    (case c16 => k_is)
    (case k16 => k_is)
    (case a17 => k_is)
    (case i17 => k_is)
    (case l17 => delta TX.Lk; k_is)
    (case c17 => k_is)
    (case k17 => k_is)
    (case a18 => k_is)
    (case i18 => k_is)
    (case l18 => delta TX.Lk; k_is)
    (case c18 => k_is)
    (case k18 => k_is)
    (case a19 => k_is)
    (case i19 => k_is)
    (case l19 => delta TX.Lk; k_is)
    (case c19 => k_is)
    (case k19 => k_is)
    (case a20 => k_is)
    (case i20 => k_is)
    (case l20 => delta TX.Lk; k_is)
    (case c20 => k_is)
    (case k20 => k_is)
    (case a21 => k_is)
    (case l21 => delta TX.Lk; k_is)
    (case c21 => k_is)
    (case k21 => k_is)
    (case a22 => k_is)
    (case i22 => k_is)
    (case l22 => delta TX.Lk; k_is)
    (case c22 => k_is)
    (case k22 => k_is)
    (case a23 => k_is)
    (case i23 => k_is)
    (case l23 => delta TX.Lk; k_is)
    (case c23 => k_is)
    (case k23 => k_is)
    (case a24 => k_is)
    (case i24 => k_is)
    (case l24 => delta TX.Lk; k_is)
    (case c24 => k_is)
    (case k24 => k_is)
    (case a25 => k_is)
    (case i25 => k_is)
    (case l25 => delta TX.Lk; k_is)
    (case c25 => k_is)
    (case k25 => k_is)
    (case a26 => k_is)
    (case i26 => k_is)
    (case l26 => delta TX.Lk; k_is)
    (case c26 => k_is)
    (case k26 => k_is)
    (case p0 => k_is)
    (case q0 => k_is)
    (case r0 => k_is)
    (case s0 => k_is)
    (case n0_0 => k_is)
    (case m0 => k_is)
    (case kp0 => k_is)
    (case p1 => k_is)
    (case q1 => k_is)
    (case r1 => k_is)
    (case s1 => k_is)
    (case n1_0 => k_is)
    (case n1_1 => k_is)
    (case m1 => k_is)
    (case kp1 => k_is)
    (case p2 => k_is)
    (case q2 => k_is)
    (case r2 => k_is)
    (case s2 => k_is)
    (case n2_0 => k_is)
    (case n2_1 => k_is)
    (case m2 => k_is)
    (case kp2 => k_is)
    (case p3 => k_is)
    (case q3 => k_is)
    (case r3 => k_is)
    (case s3 => k_is)
    (case n3_0 => k_is)
    (case n3_1 => k_is)
    (case m3 => k_is)
    (case kp3 => k_is)
    (case p4 => k_is)
    (case q4 => k_is)
    (case r4 => k_is)
    (case s4 => k_is)
    (case n4_0 => k_is)
    (case n4_1 => k_is)
    (case n4_2 => k_is)
    (case m4 => k_is)
    (case kp4 => k_is)
    (case p5 => k_is)
    (case q5 => k_is)
    (case r5 => k_is)
    (case s5 => k_is)
    (case o5 => k_is)
    (case m5 => k_is)
    (case kp5 => k_is)
    (case p6 => k_is)
    (case q6 => k_is)
    (case r6 => k_is)
    (case s6 => k_is)
    (case p7 => k_is)
    (case q7 => k_is)
    (case r7 => k_is)
    (case s7 => k_is)
    (case n7_0 => k_is)
    (case n7_1 => k_is)
    (case p8 => k_is)
    (case q8 => k_is)
    (case r8 => k_is)
    (case s8 => k_is)
    (case n8_0 => k_is)
    (case p9 => k_is)
    (case q9 => k_is)
    (case r9 => k_is)
    (case s9 => k_is)
    (case n9_0 => k_is)
    (case n9_1 => k_is)
    (case n9_2 => k_is)
    (case n9_3 => k_is)
    (case p10 => k_is)
    (case q10 => k_is)
    (case r10 => k_is)
    (case s10 => k_is)
    (case n10_0 => k_is)
    (case n10_1 => k_is)
    (case n10_2 => k_is)
    (case n10_3 => k_is)
    (case vsg => k_is)
    (case vtk => k_is)
    (case vf0 => k_is)
    (case vm0 => k_is)
    (case vf1 => k_is)
    (case vm1 => k_is)
    (case vf2 => k_is)
    (case vm2 => k_is)
    (case vf3 => k_is)
    (case vm3 => k_is)
    (case vf4 => k_is)
    (case vm4 => k_is)
    (case vf5 => k_is)
    (case vm5 => k_is)
    (case vt3 => k_is)
    (case vi3 => k_is)
    (case yy3_3 => k_is)
    (case vs3_0 => k_is)
    (case vn3_0 => decide)
    (case vs3_4 => k_is)
    (case vn3_4 => decide)
    (case vt4 => k_is)
    (case vi4 => k_is)
    (case yy4_4 => k_is)
    (case vs4_0 => k_is)
    (case vn4_0 => decide)
    (case vs4_3 => k_is)
    (case vn4_3 => decide)
    (case vt0 => k_is)
    (case vi0 => k_is)
    (case yy0_0 => k_is)
    (case vs0_3 => k_is)
    (case vn0_3 => decide)
    (case vs0_4 => k_is)
    (case vn0_4 => decide)
    (case vt2 => k_is)
    (case vi2 => k_is)
    (case yy2_2 => k_is)
    (case vs2_5 => k_is)
    (case vn2_5 => decide)
    (case vs2_1 => k_is)
    (case vn2_1 => decide)
    (case vt1 => k_is)
    (case vi1 => k_is)
    (case yy1_1 => k_is)
    (case vs1_5 => k_is)
    (case vn1_5 => decide)
    (case vs1_2 => k_is)
    (case vn1_2 => decide)
    (case vt9 => k_is)
    (case vi9 => k_is)
    (case yy9_9 => k_is)
    (case vs9_5 => k_is)
    (case vn9_5 => decide)
    (case vs9_2 => k_is)
    (case vn9_2 => decide)
    (case vs9_1 => k_is)
    (case vn9_1 => decide)
    (case vt10 => k_is)
    (case vi10 => k_is)
    (case yy10_10 => k_is)
    (case vs10_5 => k_is)
    (case vn10_5 => decide)
    (case vs10_2 => k_is)
    (case vn10_2 => decide)
    (case vs10_1 => k_is)
    (case vn10_1 => decide)
    (case vt7 => k_is)
    (case vi7 => k_is)
    (case yy7_7 => k_is)
    (case vs7_5 => k_is)
    (case vn7_5 => decide)
    (case vs7_2 => k_is)
    (case vn7_2 => decide)
    (case vs7_1 => k_is)
    (case vn7_1 => decide)
    (case vt8 => k_is)
    (case vi8 => k_is)
    (case yy8_8 => k_is)
    (case vs8_5 => k_is)
    (case vn8_5 => decide)
    (case vs8_2 => k_is)
    (case vn8_2 => decide)
    (case vs8_1 => k_is)
    (case vn8_1 => decide)
    case dd0|dd1 => (repeat (refine' TX.KDs.mk (TX.KD.mk ?a ?l ?c ?k) ?_;(case a|l|c|k => first|delta TX.Lk;k_is|k_is)));trivial
    case zz => (repeat (refine TX.KZs.mk (by k_is) ?_));trivial

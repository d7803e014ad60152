import PyProof.Rows.All
import KE.KDictList
import KE.KIntText
import KE.KRevIter
import KE.KSortTup
import KE.KTreeD
import KE.KTryMore
import KE.KWords
import Wide.FinOn
import PySem.Challenge.RW_twoglass_k90_glasses_written
set_option Elab.async false
set_option linter.all false
set_option maxRecDepth 100000
section
open PySem PySem.W PyProof.Rows
theorem PySem.W.Fast.tw13524907393116434300 : True := trivial
theorem PySem.W.Fast.tw3258573257644245411 : True := trivial
theorem PySem.W.Fast.tw13423110212046315369 : True := trivial
theorem PySem.W.Fast.tw8461372299510224272 : True := trivial
theorem PySem.W.Fast.tw15153755720503484660 : True := trivial
theorem PySem.W.Fast.tw13832821548304610965 : True := trivial
theorem PySem.W.Fast.tw17135783858732060667 : True := trivial
theorem PySem.W.Fast.tw15093005807185922140 : True := trivial
theorem PySem.W.Fast.tw5784362777858934594 : True := trivial
theorem PySem.W.Fast.tw3668722983317589807 : True := trivial
theorem PySem.W.Fast.tw6636880565340066511 : True := trivial
theorem PySem.W.Fast.tw17589126071524548260 : True := trivial
theorem PySem.W.Fast.tw1785251670602997215 : True := trivial
theorem PySem.W.Fast.tw16713574212747903202 : True := trivial
theorem PySem.W.Fast.tw13382875313206987706 : True := trivial
theorem PySem.W.Fast.tw1662554143902702751 : True := trivial
theorem PySem.W.Fast.tw3691624735722956060 : True := trivial
theorem PySem.W.Fast.tw9201196861390917523 : True := trivial
theorem PySem.W.Fast.tw981507280783374441 : True := trivial
theorem PySem.W.Fast.tw9476601724317143840 : True := trivial
theorem PySem.W.Fast.tw10665078981529892302 : True := trivial
theorem PySem.W.Fast.tw14443189290579245295 : True := trivial
theorem PySem.W.Fast.tw1429210249222503897 : True := trivial
theorem PySem.W.Fast.tw4411208357767359012 : True := trivial
theorem PySem.W.Fast.tw17922555630460241861 : True := trivial
theorem PySem.W.Fast.tw9297156911701440095 : True := trivial
theorem PySem.W.Fast.tw5836406846620089539 : True := trivial
theorem PySem.W.Fast.tw10258955025492562531 : True := trivial
theorem PySem.W.Fast.tw12448535132595380991 : True := trivial
theorem PySem.W.Fast.tw5958062307555440885 : True := trivial
theorem PySem.W.Fast.tw5270706154246122047 : True := trivial
theorem PySem.W.Fast.tw7522697483228497719 : True := trivial
theorem PySem.W.Fast.tw17083836795131653953 : True := trivial
theorem PySem.W.Fast.tw2232067106698899743 : True := trivial
theorem PySem.W.Fast.tw15617665077639635893 : True := trivial
theorem PySem.W.Fast.tw16634621777298748873 : True := trivial
theorem PySem.W.Fast.tw2741482250611021678 : True := trivial
theorem PySem.W.Fast.tw17116258627325747901 : True := trivial
theorem PySem.W.Fast.tw15650662344075231708 : True := trivial
theorem PySem.W.Fast.tw2265052006918146926 : True := trivial
theorem PySem.W.Fast.tw5095123779416186222 : True := trivial
theorem PySem.W.Fast.tw7289695668096725690 : True := trivial
theorem PySem.W.Fast.tw14131907048695172739 : True := trivial
theorem PySem.W.Fast.tw6429247601830917395 : True := trivial
theorem PySem.W.Fast.tw6125652224247542409 : True := trivial
theorem PySem.W.Fast.tw6226244676919289550 : True := trivial
theorem PySem.W.Fast.tw13033654592679164065 : True := trivial
theorem PySem.W.Fast.tw4770080955521098362 : True := trivial
theorem PySem.W.Fast.tw10791955272629955789 : True := trivial
theorem PySem.W.Fast.tw3565243272279366369 : True := trivial
theorem PySem.W.Fast.tw9071110425028973658 : True := trivial
theorem PySem.W.Fast.tw8046024707416026817 : True := trivial
theorem PySem.W.Fast.tw18339549684682565080 : True := trivial
theorem PySem.W.Fast.tw16616744078824911251 : True := trivial
theorem PySem.W.Fast.tw3263031700889210915 : True := trivial
theorem PySem.W.Fast.tw15148972485204664786 : True := trivial
theorem PySem.W.Fast.tw16168847707702729841 : True := trivial
theorem PySem.W.Fast.tw1063940724993084860 : True := trivial
theorem PySem.W.Fast.tw823058027888175584 : True := trivial
theorem PySem.W.Fast.tw10294710017950505933 : True := trivial
theorem PySem.W.Fast.tw13208657198661720229 : True := trivial
theorem PySem.W.Fast.tw4305691973654569012 : True := trivial
theorem PySem.W.Fast.tw17551725081811248963 : True := trivial
theorem PySem.W.Fast.tw14565439199104975692 : True := trivial
theorem PySem.W.Fast.tw9142821739147956771 : True := trivial
theorem PySem.W.Fast.tw15621234691270216569 : True := trivial
theorem PySem.W.Fast.tw10985945948228695995 : True := trivial
theorem PySem.W.Fast.tw3170082902648784139 : True := trivial
theorem PySem.W.Fast.tw7337245973148104903 : True := trivial
theorem PySem.W.Fast.tw14141754484217194621 : True := trivial
theorem PySem.W.Fast.tw6270242142633086994 : True := trivial
theorem PySem.W.Fast.tw5567960213232881197 : True := trivial
theorem PySem.W.Fast.tw7554837828731957573 : True := trivial
theorem PySem.W.Fast.tw4917192284319655662 : True := trivial
theorem PySem.W.Fast.tw17921364872075255326 : True := trivial
theorem PySem.W.Fast.tw8297874921394572006 : True := trivial
theorem PySem.W.Fast.tw18119005295831306276 : True := trivial
theorem PySem.W.Fast.tw9395179937534409335 : True := trivial
theorem PySem.W.Fast.tw16894096234768455020 : True := trivial
theorem PySem.W.Fast.tw2012220329034258788 : True := trivial
theorem PySem.W.Fast.tw881544694951282573 : True := trivial
theorem PySem.W.Fast.tw14169805513558329951 : True := trivial
theorem PySem.W.Fast.tw977516232065987203 : True := trivial
theorem PySem.W.Fast.tw546424313264608358 : True := trivial
theorem PySem.W.Fast.tw1341616974773129677 : True := trivial
theorem PySem.W.Fast.tw14117424133465751995 : True := trivial
theorem PySem.W.Fast.tw7750344087576603526 : True := trivial
theorem PySem.W.Fast.tw12994340470457657420 : True := trivial
theorem PySem.W.Fast.tw6416845960241914826 : True := trivial
theorem PySem.W.Fast.tw15871084213277255682 : True := trivial
theorem PySem.W.Fast.tw15669386404600334968 : True := trivial
theorem PySem.W.Fast.tw15253934262757859744 : True := trivial
theorem PySem.W.Fast.tw13419866766502009276 : True := trivial
theorem PySem.W.Fast.tw7738824044294286716 : True := trivial
theorem PySem.W.Fast.tw12087373870402375981 : True := trivial
theorem PySem.W.Fast.tw6916054625819950052 : True := trivial
theorem PySem.W.Fast.tw17694983774185712261 : True := trivial
theorem PySem.W.Fast.tw15584124507506726806 : True := trivial
theorem PySem.W.Fast.tw8633903664669611870 : True := trivial
theorem PySem.W.Fast.tw16905352297283329928 : True := trivial
theorem PySem.W.Fast.tw17150639232323986488 : True := trivial
theorem PySem.W.Fast.tw341811788893861342 : True := trivial
theorem PySem.W.Fast.tw16542221657526389445 : True := trivial
theorem PySem.W.Fast.tw11582771017805024992 : True := trivial
theorem PySem.W.Fast.tw16360024434874870654 : True := trivial
theorem PySem.W.Fast.tw4999433131007365755 : True := trivial
theorem PySem.W.Fast.tw6906188035104280817 : True := trivial
theorem PySem.W.Fast.tw1773708357173570174 : True := trivial
theorem PySem.W.Fast.tw11398113212691533969 : True := trivial
theorem PySem.W.Fast.tw2951061165913843413 : True := trivial
theorem PySem.W.Fast.tw14416144991409936194 : True := trivial
theorem PySem.W.Fast.tw6223316072075913207 : True := trivial
theorem PySem.W.Fast.tw15570981131927173303 : True := trivial
theorem PySem.W.Fast.tw15722365054726644038 : True := trivial
theorem PySem.W.Fast.tw4951480644246188501 : True := trivial
theorem PySem.W.Fast.tw18094943689283469087 : True := trivial
theorem PySem.W.Fast.tw11811445820423365733 : True := trivial
theorem PySem.W.Fast.tw1642148712184663623 : True := trivial
theorem PySem.W.Fast.tw2364940784028969830 : True := trivial
theorem PySem.W.Fast.tw10179407890758286407 : True := trivial
theorem PySem.W.Fast.tw14002648526622140198 : True := trivial
theorem PySem.W.Fast.tw12746002195823603872 : True := trivial
theorem PySem.W.Fast.tw3063577874844341092 : True := trivial
theorem PySem.W.Fast.tw3959678513992898081 : True := trivial
theorem PySem.W.Fast.tw11081940392032889354 : True := trivial
theorem PySem.W.Fast.tw4028211196420877201 : True := trivial
theorem PySem.W.Fast.tw3199298065534074742 : True := trivial
theorem PySem.W.Fast.tw1068637673976911480 : True := trivial
theorem PySem.W.Fast.tw7083878276358341154 : True := trivial
theorem PySem.W.Fast.tw797100402809387361 : True := trivial
theorem PySem.W.Fast.tw499180479353158681 : True := trivial
theorem PySem.W.Fast.tw6882586850107972881 : True := trivial
theorem PySem.W.Fast.tw640049737705682436 : True := trivial
theorem PySem.W.Fast.tw17368293764045520625 : True := trivial
theorem PySem.W.Fast.tw12543149902280011929 : True := trivial
theorem PySem.W.Fast.tw4170339839639503833 : True := trivial
theorem PySem.W.Fast.tw3934226766890093100 : True := trivial
theorem PySem.W.Fast.tw1227892401334910788 : True := trivial
theorem PySem.W.Fast.tw12889329890010939801 : True := trivial
theorem PySem.W.Fast.tw12235111239516448131 : True := trivial
theorem PySem.W.Fast.tw13496117345689838186 : True := trivial
theorem PySem.W.Fast.tw1001293374792029246 : True := trivial
theorem PySem.W.Fast.tw14857721477100726213 : True := trivial
theorem PySem.W.Fast.tw288707770063310207 : True := trivial
theorem PySem.W.Fast.tw8752589157596375083 : True := trivial
theorem PySem.W.Fast.tw15594761778476703103 : True := trivial
theorem PySem.W.Fast.tw17765463232482153025 : True := trivial
theorem PySem.W.Fast.tw9441945023047349422 : True := trivial
theorem PySem.W.Fast.tw14604429961925512004 : True := trivial
theorem PySem.W.Fast.tw13299419598437707773 : True := trivial
theorem PySem.W.Fast.tw15487112888976759483 : True := trivial
theorem PySem.W.Fast.tw5233032058142673310 : True := trivial
theorem PySem.W.Fast.tw11179725629880831616 : True := trivial
theorem PySem.W.Fast.tw15308444409707133453 : True := trivial
theorem PySem.W.Fast.tw1914304039910711172 : True := trivial
theorem PySem.W.Fast.tw16495139590344542163 : True := trivial
theorem PySem.W.Fast.tw2482778336815144859 : True := trivial
theorem PySem.W.Fast.tw4539255502178289122 : True := trivial
theorem PySem.W.Fast.tw13705635850503104477 : True := trivial
theorem PySem.W.Fast.tw5140295987047168999 : True := trivial
theorem PySem.W.Fast.tw1880330990152059557 : True := trivial
theorem PySem.W.Fast.tw12333948644807462434 : True := trivial
theorem PySem.W.Fast.tw3718178671625973763 : True := trivial
theorem PySem.W.Fast.tw1452660765620467628 : True := trivial
theorem PySem.W.Fast.tw742906801203021461 : True := trivial
theorem PySem.W.Fast.tw1624548216156087993 : True := trivial
theorem PySem.W.Fast.tw14007232716845989078 : True := trivial
theorem PySem.W.Fast.tw14504084002436067028 : True := trivial
theorem PySem.W.Fast.tw3360736232740803079 : True := trivial
theorem PySem.W.Fast.tw12674713436157897669 : True := trivial
theorem PySem.W.Fast.tw11634807448998785348 : True := trivial
theorem PySem.W.Fast.tw14882039849930762732 : True := trivial
theorem PySem.W.Fast.tw10022033147411025720 : True := trivial
theorem PySem.W.Fast.tw12205889369876496087 : True := trivial
theorem PySem.W.Fast.tw9401245712486861226 : True := trivial
theorem PySem.W.Fast.tw14140699169676756644 : True := trivial
theorem PySem.W.Fast.tw4439617173072152856 : True := trivial
theorem PySem.W.Fast.tw10776294273695256343 : True := trivial
theorem PySem.W.Fast.tw2659164730404246950 : True := trivial
theorem PySem.W.Fast.tw14164923797169893747 : True := trivial
theorem PySem.W.Fast.tw6408539011117386237 : True := trivial
theorem PySem.W.Fast.tw4917232039334563341 : True := trivial
theorem PySem.W.Fast.tw6254926298051408320 : True := trivial
theorem PySem.W.Fast.tw5662306503571782399 : True := trivial
theorem PySem.W.Fast.tw8943819132549243131 : True := trivial
theorem PySem.W.Fast.tw17817755860951816129 : True := trivial
theorem PySem.W.Fast.tw6066824588529457300 : True := trivial
theorem PySem.W.Fast.tw2424368534891335979 : True := trivial
theorem PySem.W.Fast.tw13697296169747629691 : True := trivial
theorem PySem.W.Fast.tw2313199283525345244 : True := trivial
theorem PySem.W.Fast.tw6534708237677480202 : True := trivial
theorem PySem.W.Fast.tw1327839683253070391 : True := trivial
theorem PySem.W.Fast.tw17548469414707999465 : True := trivial
theorem PySem.W.Fast.tw8323261706633368820 : True := trivial
theorem PySem.W.Fast.tw8982721201938069008 : True := trivial
theorem PySem.W.Fast.tw4892572357227296971 : True := trivial
theorem PySem.W.Fast.tw12481261657495238015 : True := trivial
theorem PySem.W.Fast.tw16139240700427704955 : True := trivial
theorem PySem.W.Fast.tw6284741607372689635 : True := trivial
theorem PySem.W.Fast.tw8495385851141947541 : True := trivial
theorem PySem.W.Fast.tw985027179706291599 : True := trivial
theorem PySem.W.Fast.tw17585085374798634655 : True := trivial
theorem PySem.W.Fast.tw9092674075379152406 : True := trivial
theorem PySem.W.Fast.tw3713946354031293989 : True := trivial
theorem PySem.W.Fast.tw3088200080929625989 : True := trivial
theorem PySem.W.Fast.tw9507154033726074648 : True := trivial
theorem PySem.W.Fast.tw3271947961359376219 : True := trivial
theorem PySem.W.Fast.tw12253600702768577761 : True := trivial
theorem PySem.W.Fast.tw7254355879333201029 : True := trivial
theorem PySem.W.Fast.tw17053871110259716245 : True := trivial
theorem PySem.W.Fast.tw13756544400609663660 : True := trivial
theorem PySem.W.Fast.tw3238556614791020071 : True := trivial
theorem PySem.W.Fast.tw16575653671932778309 : True := trivial
theorem PySem.W.Fast.tw11057916251983561517 : True := trivial
theorem PySem.W.Fast.tw15639513531934326749 : True := trivial
theorem PySem.W.Fast.tw13461004409118309223 : True := trivial
theorem PySem.W.Fast.tw11723752995113024200 : True := trivial
theorem PySem.W.Fast.tw18426536025769979169 : True := trivial
theorem PySem.W.Fast.tw7284523321127615825 : True := trivial
theorem PySem.W.Fast.tw3470394937086253427 : True := trivial
theorem PySem.W.Fast.tw11939272520961237008 : True := trivial
theorem PySem.W.Fast.tw18290223004848446091 : True := trivial
theorem PySem.W.Fast.tw15137060924868806650 : True := trivial
theorem PySem.W.Fast.tw17657117146720201994 : True := trivial
theorem PySem.W.Fast.tw3050511123914643900 : True := trivial
theorem PySem.W.Fast.tw3286873025557883624 : True := trivial
theorem PySem.W.Fast.tw3146093660521174590 : True := trivial
theorem PySem.W.Fast.tw14964229653033022219 : True := trivial
theorem PySem.W.Fast.tw9938674584807376752 : True := trivial
theorem PySem.W.Fast.tw7535946637317947712 : True := trivial
theorem PySem.W.Fast.tw734093211359313074 : True := trivial
theorem PySem.W.Fast.tw7665097577041805205 : True := trivial
theorem PySem.W.Fast.tw5032530723367799732 : True := trivial
theorem PySem.W.Fast.tw4545165613220523501 : True := trivial
theorem PySem.W.Fast.tw6369558542692371625 : True := trivial
theorem PySem.W.Fast.tw6629426766699952448 : True := trivial
theorem PySem.W.Fast.tw17447729179197254108 : True := trivial
theorem PySem.W.Fast.tw213966135610163168 : True := trivial
theorem PySem.W.Fast.tw1566639358022600355 : True := trivial
theorem PySem.W.Fast.tw7878816003179559701 : True := trivial
theorem PySem.W.Fast.tw14121940731954519484 : True := trivial
theorem PySem.W.Fast.tw17413015426765952675 : True := trivial
theorem PySem.W.Fast.tw927159718156050728 : True := trivial
theorem PySem.W.Fast.tw9664893826561080234 : True := trivial
theorem PySem.W.Fast.tw1802028319147111518 : True := trivial
theorem PySem.W.Fast.tw14897605013464903763 : True := trivial
theorem PySem.W.Fast.tw15278118401902758278 : True := trivial
theorem PySem.W.Fast.tw12787197317967736138 : True := trivial
theorem PySem.W.Fast.tw10050915342541597332 : True := trivial
theorem PySem.W.Fast.tw10914259428190937738 : True := trivial
theorem PySem.W.Fast.tw16345060451396998414 : True := trivial
theorem PySem.W.Fast.tw15477212084205450752 : True := trivial
theorem PySem.W.Fast.tw10676609326746449551 : True := trivial
theorem PySem.W.Fast.tw13654695471993036760 : True := trivial
theorem PySem.W.Fast.tw9516832165942046309 : True := trivial
theorem PySem.W.Fast.tw8075568339338218520 : True := trivial
theorem PySem.W.Fast.tw1639793708334931847 : True := trivial
theorem PySem.W.Fast.tw909581630186631113 : True := trivial
theorem PySem.W.Fast.tw16087039348447454584 : True := trivial
theorem PySem.W.Fast.tw14798154578959596201 : True := trivial
theorem PySem.W.Fast.tw13962878851933427160 : True := trivial
theorem PySem.W.Fast.tw17822807668709512124 : True := trivial
theorem PySem.W.Fast.tw3939960671341738076 : True := trivial
theorem PySem.W.Fast.tw9587981904033118497 : True := trivial
theorem PySem.W.Fast.tw12111221636014984124 : True := trivial
theorem PySem.W.Fast.tw18083548163527286238 : True := trivial
theorem PySem.W.Fast.tw12262459651693200827 : True := trivial
theorem PySem.W.Fast.tw2808219062058760728 : True := trivial
theorem PySem.W.Fast.tw1195435876024326282 : True := trivial
theorem PySem.W.Fast.tw1214320536403391286 : True := trivial
theorem PySem.W.Fast.tw4163616103249101963 : True := trivial
theorem PySem.W.Fast.tw802512813296130558 : True := trivial
theorem PySem.W.Fast.tw10085475252073208636 : True := trivial
theorem PySem.W.Fast.tw14344230254643091261 : True := trivial
theorem PySem.W.Fast.tw13804218655366622738 : True := trivial
theorem PySem.W.Fast.tw2580208243495761010 : True := trivial
theorem PySem.W.Fast.tw3751645469535423248 : True := trivial
theorem PySem.W.Fast.tw6526458529388694193 : True := trivial
theorem PySem.W.Fast.tw11699126211266936880 : True := trivial
theorem PySem.W.Fast.tw3639169024949310663 : True := trivial
theorem PySem.W.Fast.tw8449236763469368494 : True := trivial
theorem PySem.W.Fast.tw3799446726785548300 : True := trivial
theorem PySem.W.Fast.tw9189971994759811081 : True := trivial
theorem PySem.W.Fast.tw14495842723908364964 : True := trivial
theorem PySem.W.Fast.tw10473135367860296216 : True := trivial
theorem PySem.W.Fast.tw17882053956057598314 : True := trivial
theorem PySem.W.Fast.tw6637199827617236627 : True := trivial
theorem PySem.W.Fast.tw4283983175163689887 : True := trivial
theorem PySem.W.Fast.tw10373738247536118320 : True := trivial
theorem PySem.W.Fast.tw15046775885557126437 : True := trivial
theorem PySem.W.Fast.tw3415728537386574432 : True := trivial
theorem PySem.W.Fast.tw536638106318956924 : True := trivial
theorem PySem.W.Fast.tw7849245515741179693 : True := trivial
theorem PySem.W.Fast.tw11821262113829019677 : True := trivial
theorem PySem.W.Fast.tw17576906285896274218 : True := trivial
theorem PySem.W.Fast.tw14933452884850064569 : True := trivial
theorem PySem.W.Fast.tw8117312944392284260 : True := trivial
theorem PySem.W.Fast.tw13891385917361986990 : True := trivial
theorem PySem.W.Fast.tw9805177016809972405 : True := trivial
theorem PySem.W.Fast.tw7822506163946382788 : True := trivial
theorem PySem.W.Fast.tw6857576534118988586 : True := trivial
theorem PySem.W.Fast.tw4269275284071113150 : True := trivial
theorem PySem.W.Fast.tw7227776495315286976 : True := trivial
theorem PySem.W.Fast.tw9687969938981890960 : True := trivial
theorem PySem.W.Fast.tw18065320500026378639 : True := trivial
theorem PySem.W.Fast.tw10331980385491235251 : True := trivial
theorem PySem.W.Fast.tw8730492815819537862 : True := trivial
theorem PySem.W.Fast.tw6395260764484373086 : True := trivial
theorem PySem.W.Fast.tw877969583726585454 : True := trivial
theorem PySem.W.Fast.tw13678191715993216868 : True := trivial
theorem PySem.W.Fast.tw34108477299767175 : True := trivial
theorem PySem.W.Fast.tw2709043844145567972 : True := trivial
theorem PySem.W.Fast.tw9397294934638055464 : True := trivial
theorem PySem.W.Fast.tw4919125788574163793 : True := trivial
theorem PySem.W.Fast.tw10323006912483741303 : True := trivial
theorem PySem.W.Fast.tw10725385168941115007 : True := trivial
theorem PySem.W.Fast.tw9998470092120825170 : True := trivial
theorem PySem.W.Fast.tw11662426326735974766 : True := trivial
theorem PySem.W.Fast.tw9062037823502594421 : True := trivial
theorem PySem.W.Fast.tw1948775570864743947 : True := trivial
theorem PySem.W.Fast.tw17081156763152113870 : True := trivial
theorem PySem.W.Fast.tw10089440181829432985 : True := trivial
theorem PySem.W.Fast.tw1644791170047329227 : True := trivial
theorem PySem.W.Fast.tw14027088859496650012 : True := trivial
theorem PySem.W.Fast.tw4957378667240927512 : True := trivial
theorem PySem.W.Fast.tw4714540211796359990 : True := trivial
theorem PySem.W.Fast.tw14124191773126081608 : True := trivial
theorem PySem.W.Fast.tw2966445305548266802 : True := trivial
theorem PySem.W.Fast.tw5510533422947678918 : True := trivial
theorem PySem.W.Fast.tw760214083247673097 : True := trivial
theorem PySem.W.Fast.tw140081595183520872 : True := trivial
theorem PySem.W.Fast.tw17610007468429688845 : True := trivial
theorem PySem.W.Fast.tw7300934150603924238 : True := trivial
theorem PySem.W.Fast.tw16415453544417422907 : True := trivial
theorem PySem.W.Fast.tw8320928530335154613 : True := trivial
theorem PySem.W.Fast.tw16599359391084034906 : True := trivial
theorem PySem.W.Fast.tw11690903671534972446 : True := trivial
theorem PySem.W.Fast.tw3508791427706620798 : True := trivial
theorem PySem.W.Fast.tw13636138383694367814 : True := trivial
theorem PySem.W.Fast.tw16832465791037173920 : True := trivial
theorem PySem.W.Fast.tw1772001798295368396 : True := trivial
theorem PySem.W.Fast.tw5317566547518765732 : True := trivial
theorem PySem.W.Fast.tw17580192360164852062 : True := trivial
theorem PySem.W.Fast.tw18341053937117405877 : True := trivial
theorem PySem.W.Fast.tw18117001294670749889 : True := trivial
theorem PySem.W.Fast.tw17476925481619940458 : True := trivial
theorem PySem.W.Fast.tw4363536300865544267 : True := trivial
theorem PySem.W.Fast.tw1668953600062827200 : True := trivial
theorem PySem.W.Fast.tw5735636367491934154 : True := trivial
theorem PySem.W.Fast.tw12596406627398034955 : True := trivial
theorem PySem.W.Fast.tw13500013794543853475 : True := trivial
theorem PySem.W.Fast.tw15161130781062241528 : True := trivial
theorem PySem.W.Fast.tw11131966547788981911 : True := trivial
theorem PySem.W.Fast.tw4472516146026496759 : True := trivial
theorem PySem.W.Fast.tw389203843376068589 : True := trivial
theorem PySem.W.Fast.tw17735040787686084198 : True := trivial
theorem PySem.W.Fast.tw2887344538448993756 : True := trivial
theorem PySem.W.Fast.tw3797030225213891387 : True := trivial
theorem PySem.W.Fast.tw5344668053967499958 : True := trivial
theorem PySem.W.Fast.tw1643057881378662510 : True := trivial
theorem PySem.W.Fast.tw13946828862382394969 : True := trivial
theorem PySem.W.Fast.tw2641410787712043015 : True := trivial
theorem PySem.W.Fast.tw6281917297822287309 : True := trivial
theorem PySem.W.Fast.tw8528175679699861770 : True := trivial
theorem PySem.W.Fast.tw1703180037489912941 : True := trivial
theorem PySem.W.Fast.tw2237775235602483247 : True := trivial
theorem PySem.W.Fast.tw12822868896428295687 : True := trivial
theorem PySem.W.Fast.tw6116751554916450945 : True := trivial
theorem PySem.W.Fast.tw7695922347216216285 : True := trivial
theorem PySem.W.Fast.tw15659112975922795327 : True := trivial
theorem PySem.W.Fast.tw14857186662633217298 : True := trivial
theorem PySem.W.Fast.tw8654889169785910455 : True := trivial
theorem PySem.W.Fast.tw3487477616232048178 : True := trivial
theorem PySem.W.Fast.tw1117169934716337022 : True := trivial
theorem PySem.W.Fast.tw10869558124612451978 : True := trivial
theorem PySem.W.Fast.tw17179594501058343071 : True := trivial
theorem PySem.W.Fast.tw5227855650401500307 : True := trivial
theorem PySem.W.Fast.tw10740559120522525351 : True := trivial
theorem PySem.W.Fast.tw436809227141112210 : True := trivial
theorem PySem.W.Fast.tw9292907004209123663 : True := trivial
theorem PySem.W.Fast.tw2925379006517605746 : True := trivial
theorem PySem.W.Fast.tw7548775675433358506 : True := trivial
theorem PySem.W.Fast.tw13620282712022083960 : True := trivial
theorem PySem.W.Fast.tw14466404344316586838 : True := trivial
theorem PySem.W.Fast.tw1950970378259767623 : True := trivial
theorem PySem.W.Fast.tw15615984484946715028 : True := trivial
theorem PySem.W.Fast.tw3321616729960394438 : True := trivial
theorem PySem.W.Fast.tw750105328021182954 : True := trivial
theorem PySem.W.Fast.tw17986690483535266733 : True := trivial
theorem PySem.W.Fast.tw1278272745984178707 : True := trivial
theorem PySem.W.Fast.tw16823583854881812318 : True := trivial
theorem PySem.W.Fast.tw9466246789581886772 : True := trivial
theorem PySem.W.Fast.tw370910126241775233 : True := trivial
theorem PySem.W.Fast.tw5071244589557904334 : True := trivial
theorem PySem.W.Fast.tw236680542347020 : True := trivial
theorem PySem.W.Fast.tw14456142488715545344 : True := trivial
theorem PySem.W.Fast.tw17647790747891451453 : True := trivial
theorem PySem.W.Fast.tw17887497469858983872 : True := trivial
theorem PySem.W.Fast.tw5662772404861405947 : True := trivial
theorem PySem.W.Fast.tw14479067055976396961 : True := trivial
theorem PySem.W.Fast.tw7459433814283567767 : True := trivial
theorem PySem.W.Fast.tw14092029785874256155 : True := trivial
theorem PySem.W.Fast.tw4660347879000535492 : True := trivial
theorem PySem.W.Fast.tw14659066004038252467 : True := trivial
theorem PySem.W.Fast.tw16008274520677591756 : True := trivial
theorem PySem.W.Fast.tw11458064372251494695 : True := trivial
theorem PySem.W.Fast.tw13711135950333623326 : True := trivial
theorem PySem.W.Fast.tw2171987048345933520 : True := trivial
theorem PySem.W.Fast.tw1658846652525056741 : True := trivial
theorem PySem.W.Fast.tw148901334272037398 : True := trivial
theorem PySem.W.Fast.tw4720456244794542944 : True := trivial
theorem PySem.W.Fast.tw2032218044447004096 : True := trivial
theorem PySem.W.Fast.tw169878215338363162 : True := trivial
theorem PySem.W.Fast.tw12845350540412675840 : True := trivial
theorem PySem.W.Fast.tw17974214614298582906 : True := trivial
theorem PySem.W.Fast.tw1156763344615583911 : True := trivial
theorem PySem.W.Fast.tw3561220207129975088 : True := trivial
theorem PySem.W.Fast.tw1885431694444834674 : True := trivial
theorem PySem.W.Fast.tw11646668684752207765 : True := trivial
theorem PySem.W.Fast.tw4522937475990011640 : True := trivial
theorem PySem.W.Fast.tw12105439331533776298 : True := trivial
theorem PySem.W.Fast.tw5835093234673186721 : True := trivial
theorem PySem.W.Fast.tw2988198161693105449 : True := trivial
theorem PySem.W.Fast.tw7551170268320815781 : True := trivial
theorem PySem.W.Fast.tw4664618180459095989 : True := trivial
theorem PySem.W.Fast.tw9298449341684771551 : True := trivial
theorem PySem.W.Fast.tw15005639110700127792 : True := trivial
theorem PySem.W.Fast.tw1273344730614691472 : True := trivial
theorem PySem.W.Fast.tw2049117682477078969 : True := trivial
theorem PySem.W.Fast.tw4863552343038092214 : True := trivial
theorem PySem.W.Fast.tw1087470949318135859 : True := trivial
theorem PySem.W.Fast.tw13253326676917445336 : True := trivial
theorem PySem.W.Fast.tw4450926199097522756 : True := trivial
theorem PySem.W.Fast.tw3693955644260310433 : True := trivial
theorem PySem.W.Fast.tw8880617990240009544 : True := trivial
theorem PySem.W.Fast.tw2483426726848993709 : True := trivial
theorem PySem.W.Fast.tw1542922998383824706 : True := trivial
theorem PySem.W.Fast.tw14594651951660884873 : True := trivial
theorem PySem.W.Fast.tw4558380062538363314 : True := trivial
theorem PySem.W.Fast.tw1599804425660404861 : True := trivial
theorem PySem.W.Fast.tw15217496221003263009 : True := trivial
theorem PySem.W.Fast.tw17383918328203823978 : True := trivial
theorem PySem.W.Fast.tw10516250919136177052 : True := trivial
theorem PySem.W.Fast.tw6857643084747947023 : True := trivial
theorem PySem.W.Fast.tw12447841690689803689 : True := trivial
theorem PySem.W.Fast.tw9275667948237447830 : True := trivial
theorem PySem.W.Fast.tw2096778384533584082 : True := trivial
theorem PySem.W.Fast.tw5855287356987042057 : True := trivial
theorem PySem.W.Fast.tw17977863187314685673 : True := trivial
theorem PySem.W.Fast.tw4146953625935277539 : True := trivial
theorem PySem.W.Fast.tw10135994370148923135 : True := trivial
theorem PySem.W.Fast.tw3943730290046604999 : True := trivial
theorem PySem.W.Fast.tw4444968071856560355 : True := trivial
theorem PySem.W.Fast.tw4301324011733222708 : True := trivial
theorem PySem.W.Fast.tw17770948147161797006 : True := trivial
theorem PySem.W.Fast.tw13867603514662875283 : True := trivial
theorem PySem.W.Fast.tw3410307138247904239 : True := trivial
theorem PySem.W.Fast.tw9303734988615876061 : True := trivial
theorem PySem.W.Fast.tw13985412463479800779 : True := trivial
theorem PySem.W.Fast.tw2335928002576020031 : True := trivial
theorem PySem.W.Fast.tw5264435848427192652 : True := trivial
theorem PySem.W.Fast.tw7575089320536007266 : True := trivial
theorem PySem.W.Fast.tw1794883493316087750 : True := trivial
theorem PySem.W.Fast.tw17472306781663772812 : True := trivial
theorem PySem.W.Fast.tw6170410538463589853 : True := trivial
theorem PySem.W.Fast.tw7395876583165777820 : True := trivial
theorem PySem.W.Fast.tw7176526673973310037 : True := trivial
theorem PySem.W.Fast.tw10103177241995868175 : True := trivial
theorem PySem.W.Fast.tw7629778575188671986 : True := trivial
theorem PySem.W.Fast.tw2155832024488593435 : True := trivial
theorem PySem.W.Fast.tw2444193521942226721 : True := trivial
theorem PySem.W.Fast.tw16834126814767766626 : True := trivial
theorem PySem.W.Fast.tw7038529569922138961 : True := trivial
theorem PySem.W.Fast.tw1735346876817183325 : True := trivial
theorem PySem.W.Fast.tw17967626210486081660 : True := trivial
theorem PySem.W.Fast.tw4473224889734605459 : True := trivial
theorem PySem.W.Fast.tw6293494751068829300 : True := trivial
theorem PySem.W.Fast.tw5385735375846723930 : True := trivial
theorem PySem.W.Fast.tw7897585902199666034 : True := trivial
theorem PySem.W.Fast.tw8179284908577568991 : True := trivial
theorem PySem.W.Fast.tw6006313703109258026 : True := trivial
theorem PySem.W.Fast.tw2451720758185454925 : True := trivial
theorem PySem.W.Fast.tw17187802938346363273 : True := trivial
theorem PySem.W.Fast.tw4293987843263306301 : True := trivial
theorem PySem.W.Fast.tw408679124564278565 : True := trivial
theorem PySem.W.Fast.tw15217084046451420695 : True := trivial
theorem PySem.W.Fast.tw4647942220955013992 : True := trivial
theorem PySem.W.Fast.tw1076347243393526275 : True := trivial
theorem PySem.W.Fast.tw8564683438469408700 : True := trivial
theorem PySem.W.Fast.tw11043401194447621870 : True := trivial
theorem PySem.W.Fast.tw15341892760235356068 : True := trivial
theorem PySem.W.Fast.tw659393017662305398 : True := trivial
theorem PySem.W.Fast.tw14133728905353553759 : True := trivial
theorem PySem.W.Fast.tw12128060223632913435 : True := trivial
theorem PySem.W.Fast.tw12552194492466428250 : True := trivial
theorem PySem.W.Fast.tw862941488526128061 : True := trivial
theorem PySem.W.Fast.tw5997833726148205565 : True := trivial
theorem PySem.W.Fast.tw1425989583762784896 : True := trivial
theorem PySem.W.Fast.tw9091370225501677104 : True := trivial
theorem PySem.W.Fast.tw16645175730259160367 : True := trivial
theorem PySem.W.Fast.tw7484074393243914066 : True := trivial
theorem PySem.W.Fast.tw10316339711461318142 : True := trivial
theorem PySem.W.Fast.tw10301992291657536324 : True := trivial
theorem PySem.W.Fast.tw1125310642903587970 : True := trivial
theorem PySem.W.Fast.tw6557481098070612158 : True := trivial
theorem PySem.W.Fast.tw17163430380170025143 : True := trivial
theorem PySem.W.Fast.tw16355331082588841315 : True := trivial
theorem PySem.W.Fast.tw15204357627485885884 : True := trivial
theorem PySem.W.Fast.tw16720724637775110353 : True := trivial
theorem PySem.W.Fast.tw7106728517424322095 : True := trivial
theorem PySem.W.Fast.tw8013139764859503941 : True := trivial
theorem PySem.W.Fast.tw11227201633160179231 : True := trivial
theorem PySem.W.Fast.tw5738436088171407521 : True := trivial
theorem PySem.W.Fast.tw16135287939133110083 : True := trivial
theorem PySem.W.Fast.tw2933597993369664564 : True := trivial
theorem PySem.W.Fast.tw17732990058524447211 : True := trivial
theorem PySem.W.Fast.tw15304431189930009128 : True := trivial
theorem PySem.W.Fast.tw6581526470195717566 : True := trivial
theorem PySem.W.Fast.tw8336677626726955709 : True := trivial
theorem PySem.W.Fast.tw6672194813793466386 : True := trivial
theorem PySem.W.Fast.tw200495341142250402 : True := trivial
theorem PySem.W.Fast.tw15301176958471665171 : True := trivial
theorem PySem.W.Fast.tw13032367092220978448 : True := trivial
theorem PySem.W.Fast.tw5000271234915093106 : True := trivial
theorem PySem.W.Fast.tw17243228473189646966 : True := trivial
theorem PySem.W.Fast.tw11261220279811227637 : True := trivial
theorem PySem.W.Fast.tw5842634771850835251 : True := trivial
theorem PySem.W.Fast.tw15798492250505192910 : True := trivial
theorem PySem.W.Fast.tw11471937041644907688 : True := trivial
theorem PySem.W.Fast.tw1081601156929104572 : True := trivial
theorem PySem.W.Fast.tw3629185898995231562 : True := trivial
theorem PySem.W.Fast.tw13811645614326063731 : True := trivial
theorem PySem.W.Fast.tw4577022348433651901 : True := trivial
theorem PySem.W.Fast.tw14086186802870528290 : True := trivial
set_option maxHeartbeats 0 in
open_top hd90 for PySem.Challenge.rw_twoglass_k90_glasses_written
end
local macro_rules|`(tactic|omega)=>`(tactic|first|lia|omega (config:={}))
open List renaming take_nil→OG,drop_nil→OH,filterMap_cons→OQ,mem_cons_self→OS,mem_cons_of_mem→OT,mem_append_left→OU,getElem?_set_self→OV,getElem?_set_ne→OW,mem_append_right→O0,size_toArray→O2,length_cons→O3,map_cons→O5,length_map→O6,append_nil→Pa,of_mem_zip→Pg,length_take→Ph,getElem?_append_right→Pj,getElem?_replicate→Pk,getElem?_append_left→Pl,getElem?_map→Pm,mem_of_getElem?→Pn,length_append→Pp,length_drop→Pr,reverse_cons→Pw,length_singleton→Px,map_nil→Py,lookup_cons→Pz,forIn_cons→PB,cons_append→PD,take_zero→PF,take_succ_cons→PH,drop_zero→PJ,drop_succ_cons→PK,all_cons→PL,range_succ_eq_map→PN,getElem?_eq_getElem→PP,nil_append→P0,map_append→P4,length_range→P5,getElem?_range→P7,length_set→P8,drop_eq_getElem_cons→P9,append_assoc→Qa,forIn_nil→Qb,mem_cons→Qc,not_mem_nil→Qd,getElem?_cons_succ→Qe,zip_cons_cons→Qi,contains_cons→Qj,nodup_append→Ql,replicate_zero→Qn,zip_nil_right→Qo,length_nil→Qp,dropLast_eq_take→Qq,set_set→Qt,ext_getElem?→Qu,getElem?_eq_none→Qv,length_reverse→Qw,map_map→Qx,getD_eq_getElem?_getD→Qz,take_of_length_le→QA,set_cons_zero→QB,set_cons_succ→QC,mem_nil_iff→QE,flatMap_append→QF,flatMap_cons→QG,isEmpty_cons→QK,sum_cons→QM,sum_nil→QN
open Int renaming toNat_natCast→Pq,emod_lt_of_pos→QO
open Nat renaming lt_of_lt_of_le→OI,lt_irrefl→OJ,ne_of_lt→OL,le_trans→OM,le_of_lt→OO,ne_of_gt→OY,le_refl→OZ,le_of_eq→O7,lt_succ_self→O8,zero_le→O9,le_succ→Pb,min_self→PQ,log2_lt→PY,lt_trans→PZ,sub_zero→P6,le_add_right→Qf,add_lt_add_left→Qg,lt_add_of_pos_right→Qh,sub_self→Qm,zero_add→Qy,toDigits_of_lt_base→QI,pow_le_pow_right→QJ,le_of_ble_eq_true→QL
open Bool renaming false_ne_true→OX,and_eq_true→Pt,false_eq_true→PC,and_true→PR,and_false→PV,or_eq_true→PX,or_eq_false_iff→Qk,not_true→Qr,not_eq_true'→Qs,not_false→QD,and_self→QH
open Option renaming getD_none→Pu
open PySem renaming Value→Se,NameKind→Sf,Addr→Sg,Expr→Sh,Stmt→Si,Shared→Sj,World→Sl,Program→Sn,Paired→Sq,Heap→Sr,sizeLine→Ss,mainGlobals→Su,bootBuiltins→Sv,Around→Sw,Scope→Sx,Model→Sy,wpAny→Sz,starEach→SA,wpAny_mono→SD,wpAny_Name→SE,wpAny_truthy_bool→SF,wpAny_execs_nil→SG,wpAny_execs_cons→SH,wpAny_assign_Name→SJ,PassesOwn→SK,wpAny_passesOwn→SL,wpAny_pure→SM,wpAny_bind→SN,wpAny_pyIter_list→SR,foldedSetIterable→SU,binaryOp→SV,compareOp→SW,CmpOp→SY,behindInMarks→SZ,sizeLine_eq→S5,Result→S6,codeAny→S8,attributeBase→S9,callWith→Tb,keywordEach→Tc,cLine→Td,FuncData→Te,BindsTo→Tf,wpAny_call→Tg,codeAny_mono→Th,wpAny_Call_Name_kw→Ti,wpAny_newFunctionEnv_cells→Tj,concat_meets→Tl,noFill_tuple_add→Tn,seq_tuple_add→To,IsPart→Tp,wpAny_field→Tq,wpAny_holding→Tr,wpAny_callSpecial?_slot→Ts,wpAny_call_entry→Tt,wpAny_typeOf→Tu,wpAny_newObj_type→Tv,typeIs_str→Tw,Keyword→Tx,DictEntry→Tz,wpAny_specialOf→TB,wpAny_comprehension_free→TC,wpAny_rule→TF,wpAny_getItem_str_slice→TH,post_val_or_str→TJ,wpAny_seqItems→TK,IsZip→TL,IsPair→TN,wpAny_setField_rec→TQ,wpAny_onRaise→TR,wpAny_updateSeq_pair→TU,wpAny_letGo→TV,wpAny_attempt→TY,codeAny_call_builtin→TZ,wpAny_pyNext_ascii_item→T4
open PySem.W renaming instObj→QP,methodObj→QQ,Frag→QR,lookIn→QS,plainGet→QT,hasDictIn→QU,findIn→QV,handedIn→QW,plainGet_of→QX,isFn→QY,plainOver→QZ,takerIn→Ra,any_some→Rb,makesIn→Rc,typeIn→Rf,InitBack→Rg,emptyDict→Rh,make_core→Ri,makes_of→Rj,looks_findIn→Rk,Looks→Rl,keepIn→Rm,callWith_K→Rn,cellsFrom_some→Ro,fnOf→Rp,codeIn→Rq,codeRec_of→Rr,OpenLaw→Rt,nsIn→Ru,notCls→Rv,kitOne→Rw,kia_one→Rx,clsIn→Ry,instIn→Rz,subIn→RA,specialIn→RB,takesIn→RC,mroIn→RD,isIn→RE,tailIn→RF,nsOkIn→RG,exmOne→RH,kitCls→RJ,callWith_K0→RK,mg_of→RL,looks_findIn→T1,Looks→T2
open PySem.Heap renaming get?_push_size→RM,lt_size→RN,SameBut→RO,get?_push_of_some→RP,size_push→RQ,get?_update_other→RT,FlyingW→RU,get?_update_self→RV
open PyProof.Rows renaming callWith_type1→RW,slot_tuple_getitem→RX,envOfC→RY,IsTup→RZ,Call_→R0,boot_int→R1,boot_str→R3,boot_tuple→R4,Keyed→T3
open PySem.F renaming slot_tuple_add→R5,entry_tuple_add→R6,args_tuple_add_2→R7,excBase_ValueError→R8,plainAttrs_str→R9,slot_str_split→Sa,slot_list_append→Sb,type_list_append→Sd
set_option maxHeartbeats 1000000
local macro_rules | `(‹2›)=>`(⟨rfl, rfl, rfl, by decide +kernel, rfl, by decide +kernel, by decide +kernel⟩)
local macro_rules | `(‹0›)=>`(by omega)
namespace L2
open PySem PySem.Spec PyProof.Rows
noncomputable abbrev gj:=List (Option Nat)
noncomputable abbrev bg:=Str->Option Se
noncomputable abbrev n8:=List (Str×Sf)
noncomputable abbrev aM:=List (Sg×Obj)
noncomputable abbrev lQ:=List (Str×Sg)
noncomputable abbrev aF:=List Sh
noncomputable abbrev cS:=List Si
noncomputable abbrev aP:=List Se
noncomputable abbrev ap:=List Sg
noncomputable abbrev et:=Option Int
noncomputable abbrev bx:=List Nat
noncomputable abbrev bf:=Se->Sj->Prop
noncomputable abbrev iH:=Sj->Prop
noncomputable abbrev ah:=List Str
noncomputable abbrev Key:=Sum Int Str
noncomputable def qz:Key->Se->Bool
 |.inl k,v=>Value.isInt k v
 |.inr x,v=>Value.isStrOf x v
noncomputable def Mp(w:Sl):Key->Int
 |.inl k=>hashInt k
 |.inr x=>hashStr w x
theorem cG:∀{k:Key}{v:Se},qz k v=true->(∃i t,k=Sum.inl i/\v=Value.int i t)\/(∃x t,k=Sum.inr x/\v=Value.str x t)
 |.inl i,v,h=>by
  obtain⟨t,e⟩:=Value.isInt_shape (k:=i) (v:=v) h;exact .inl ⟨i,t,rfl,e⟩
 |.inr x,v,h=>by
  obtain⟨t,e⟩:=Value.isStrOf_shape (x:=x) (v:=v) h;exact .inr ⟨x,t,rfl,e⟩
theorem yd(i:Int)(t:Tok):qz (.inl i) (.int i t)=true:=by simp[qz,Value.isInt]
theorem yA(x:Str)(t:Tok):qz (.inr x) (.str x t)=true:=by simp[qz,Value.isStrOf]
theorem GV(a b:Int):decide ((Sum.inl a:Key)=Sum.inl b)=(a==b):=by
 by_cases e:a=b
 ·subst e;simp
 ·have h:¬(Sum.inl a:Key)=Sum.inl b:=λq=>e (Sum.inl.inj q);rw[decide_eq_false h];exact(beq_eq_false_iff_ne.mpr e).symm
theorem GY(a b:Str):decide ((Sum.inr a:Key)=Sum.inr b)=decide (a=b):=by
 by_cases e:a=b
 ·subst e;simp
 ·have h:¬(Sum.inr a:Key)=Sum.inr b:=λq=>e (Sum.inr.inj q);rw[decide_eq_false h,decide_eq_false e]
theorem G5(a:Int)(b:Str):decide ((Sum.inl a:Key)=Sum.inr b)=false:=decide_eq_false (λq=>nomatch q)
theorem Iy(a:Str)(b:Int):decide ((Sum.inr a:Key)=Sum.inl b)=false:=decide_eq_false (λq=>nomatch q)
noncomputable def fX(prog:Sn)(w:Sl):PySem.KeyKind prog w Key where
 is:=qz
 hash:=Mp w
 inj:=λv a b ha hb=>by
  rcases cG ha with⟨i,t,rfl,rfl⟩|⟨x,t,rfl,rfl⟩
  ·rcases cG hb with⟨j,u,rfl,e⟩|⟨y,u,rfl,e⟩
   ·injection e with e1 _;rw[e1]
   ·exact nomatch e
  ·rcases cG hb with⟨j,u,rfl,e⟩|⟨y,u,rfl,e⟩
   ·exact nomatch e
   ·injection e with e1 _;rw[e1]
 byValue:=λk v h=>by
  rcases cG h with⟨i,t,rfl,rfl⟩|⟨x,t,rfl,rfl⟩<;>rfl
 pyHash:=λhv h=>by
  rcases cG hv with⟨i,t,rfl,rfl⟩|⟨x,t,rfl,rfl⟩
  ·exact wpAny_pyHash_int h
  ·exact wpAny_pyHash_str h
 eqBool:=λhu hv h=>by
  rcases cG hu with⟨i,t,rfl,rfl⟩|⟨x,t,rfl,rfl⟩
  ·rcases cG hv with⟨j,u,rfl,rfl⟩|⟨y,u,rfl,rfl⟩
   ·rw[GV]at h;exact wpAny_eqBool_int h
   ·rw[G5]at h;exact SeqAt.EqAt.int_str i t y u _ _ _ _ h
  ·rcases cG hv with⟨j,u,rfl,rfl⟩|⟨y,u,rfl,rfl⟩
   ·rw[Iy]at h;exact SeqAt.EqAt.str_int x t j u _ _ _ _ h
   ·rw[GY]at h;exact wpAny_eqBool_str h
 «strs»:=λk x t v h=>by
  rcases cG h with⟨i,u,rfl,e⟩|⟨y,u,rfl,e⟩
  ·exact nomatch e
  ·injection e with e1 _;subst e1;cases v<;>rfl
theorem tJ(prog:Sn)(w:Sl)(i:Int)(t:Tok):(fX prog w).is (.inl i) (.int i t)=true:=yd i t
theorem jr(prog:Sn)(w:Sl)(x:Str)(t:Tok):(fX prog w).is (.inr x) (.str x t)=true:=yA x t
inductive V where
 |non|bl (b:Bool)|int (i:Int)|str (x:Str)|byt (b:Array UInt8)|flt (b:UInt64)|ref (a:Sg)|ty (n:String)
 deriving DecidableEq
noncomputable abbrev ax:=List V
noncomputable def RelV:V->Se->Prop
 |.non,u=>u=Value.none
 |.bl b,u=>u=Value.bool b
 |.int i,u=>∃t,u=Value.int i t
 |.str x,u=>∃t,u=Value.str x t
 |.byt b,u=>∃t,u=Value.bytes b t
 |.flt b,u=>∃t,u=Value.float b t
 |.ref a,u=>u=Value.ref a
 |.ty n,u=>u=Value.type n
noncomputable abbrev Vals:ax->aP->Prop:=Sq RelV
theorem Vals.length{xs:ax}{us:aP}(r:Vals xs us):xs.length=us.length:=Paired.length r
theorem Vals.get:∀{xs:ax}{us:aP}{i:Nat}{x:V},Vals xs us->xs[i]?=some x->∃u,us[i]?=some u/\RelV x u
 |_,_,_,_,.nil,e=>by simp at e
 |_,_,0,_,.cons r _,e=>by simp at e;subst e;exact⟨_,rfl,r⟩
 |_,_,i+1,x,.cons _ t,e=>by
  obtain⟨u,h1,h2⟩:=Vals.get (i:=i) (x:=x) t (by simpa using e);exact⟨u,by simpa using h1,h2⟩
theorem Vals.append{xs ys:ax}{us ws:aP}(h:Vals xs us)(s:Vals ys ws):Vals (xs++ys) (us++ws):=by
 induction h with
 |nil=>exact s
 |cons r _ ih=>exact .cons r ih
theorem Vals.take{xs:ax}{us:aP}(n:Nat)(h:Vals xs us):Vals (xs.take n) (us.take n):=by
 induction h generalizing n with
 |nil=>rw[OG,OG];exact .nil
 |cons r _ ih=>
  cases n with
  |zero=>exact .nil
  |succ n=>exact .cons r (ih n)
theorem Vals.drop{xs:ax}{us:aP}(n:Nat)(h:Vals xs us):Vals (xs.drop n) (us.drop n):=by
 induction h generalizing n with
 |nil=>rw[OH,OH];exact .nil
 |cons r t ih=>
  cases n with
  |zero=>exact .cons r t
  |succ n=>exact ih n
noncomputable def yW:Option V->Option Se->Prop
 |some v,some u=>RelV v u
 |none,none=>True
 |_,_=>False
noncomputable def KV{κ:Type}:List (κ×V)->List (κ×Se)->Prop:=Sq λ(p:κ×V)(q:κ×Se)=>p.1=q.1/\RelV p.2 q.2
noncomputable def kV:Key->V
 |.inl i=>.int i
 |.inr x=>.str x
inductive HO where
  |lst (xs:ax)
  |tup (xs:ax)
  |dK (kvs:List (Key×V))|dT (kvs:List (List Key×V))
  |set (S:Int->Bool) (n:Nat)
  |ins (C dx:Sg) (fs:List (Str×V))
  |own (x:Sg)
  |xd (fs:List (Str×V))
  |met (f x:Sg)
  |rng (lo hi:Int)
  |frz (o:Obj) (u:HO)
  |tbl (ps:Array Se)
  |ext (φ:(Sg->Prop)->Sr->Prop)
noncomputable abbrev Hp:=Sg->Option HO
noncomputable def upd(H:Hp)(a:Sg)(o:HO):Hp:=λb=>if b=a then some o else H b
theorem aT{H:Hp}{a:Sg}{o:HO}:upd H a o a=some o:=by unfold upd;rw[if_pos rfl]
theorem av{H:Hp}{a b:Sg}{o:HO}(h:b≠a):upd H a o b=H b:=by unfold upd;rw[if_neg h]
theorem wC{H:Hp}{a:Sg}{o u:HO}:upd (upd H a o) a u=upd H a u:=by
 funext b;unfold upd;split<;>rfl
theorem aL{H:Hp}{a b:Sg}{o:HO}(h:H a=some o)(h':H b=none):a≠b:=by
 intro e;subst e;rw[h]at h';cases h'
noncomputable def vz(h:Sr)(a:Sg)(items:Array Se):Prop:=∃o,h.get? a=some o/\o.cls=.type "tuple"/\∃n,o.data=.seq items n/\o.dict=none
theorem vz.new(h:Sr)(items:Array Se):vz (h.push {cls:=.type "tuple",data:=.seq items}) h.objs.size items:=⟨_,RM _ rfl,rfl,_,rfl,rfl⟩
theorem vz.tup{h:Sr}{a:Sg}{items:Array Se}(x:vz h a items):IsTup h a items:=by
 obtain⟨o,e,c,n,d,_⟩:=x;exact⟨o,e,c,n,d⟩
section
variable(P:Sn)(w:Sl)
noncomputable def gE(H:Hp)(h:Sr)(a:Sg):HO->Prop
 |.lst xs=>xs.length<=Ss/\∃(its:aP)(n:Nat),Vals xs its/\h.get? a=some {cls:=.type "list",data:=.seq its.toArray n}
 |.tup xs=>xs.length<=Ss/\∃its:aP,Vals xs its/\vz h a its.toArray
 |.dK kvs=>kvs.length<=Ss/\(a==sysModules)=false/\∃vs,KV kvs vs/\h.DictOf (fX P w) a vs
 |.dT kvs=>kvs.length<=Ss/\(a==sysModules)=false/\∃xs:List (List Key×Sg×Se),
   Sq (λ(p:List Key×V)(q:List Key×Sg×Se)=>p.1=q.1/\H q.2.1=some (.tup (p.1.map kV))/\RelV p.2 q.2.2) kvs xs/\
   ∃o es ep,h.get? a=some o/\o.ExactDict/\o.data=.dict es ep/\es.toList=xs.map (entryOfKey (tupleKind (fX P w)))/\(xs.map (·.1)).Nodup
 |.set S n=>h.SetOf (intKind P w) a S n
 |.ins C dx fs=>H dx=some (.own a)/\fs.length<=1000/\dx≠a/\h.get? a=some (QP C dx)/\
   ∃mA,h.Ns1 dx mA/\(∀f,yW (fs.lookup f) (mA f))/\PySem.Within mA (fs.map (·.1))
 |.own _=>∃o,h.get? a=some o
 |.xd fs=>∃mA,h.Ns1 a mA/\∀f,yW (fs.lookup f) (mA f)
 |.rng lo hi=>∃t u v,h.get? a=some {cls:=.type "range",data:=.fields #[.int lo t,.int hi u,.int 1 v]}
 |.frz o u=>h.get? a=some o/\gE H h a u
 |.tbl ps=>h.get? a=some {cls:=.none,data:=.fields ps}
 |.met f x=>h.get? a=some (QQ (.ref f) (.ref x))
 |.ext φ=>φ (λb=>H b=some (.own a)) h/\(∃o,h.get? a=some o)/\∀(S1 S2:Sg->Prop)(h1 h2:Sr),φ S1 h1->(∀b,S1 b->S2 b)->(∀b o,(b=a\/S1 b)->h1.get? b=some o->h2.get? b=some o)->φ S2 h2
noncomputable def pQ(H:Hp)(h:Sr):Prop:=∀a o,H a=some o->gE P w H h a o
end
section
variable{P:Sn}{w:Sl}{H H':Hp}{h h':Sr}{a:Sg}{o:HO}
theorem gE.lt(x:gE P w H h a o):a<h.objs.size:=by
 cases o with
 |lst xs=>obtain⟨_,_,_,_,e⟩:=x;exact RN e
 |tup xs=>obtain⟨_,_,_,_,e,_⟩:=x;exact RN e
 |dK kvs=>obtain⟨_,_,_,_,o,_,_,e,_⟩:=x;exact RN e
 |dT kvs=>obtain⟨_,_,_,_,o,_,_,e,_⟩:=x;exact RN e
 |set S n=>obtain⟨o,_,_,_,e,_⟩:=x;exact RN e
 |ins C dx fs=>obtain⟨_,_,_,e,_⟩:=x;exact RN e
 |own y=>obtain⟨_,e⟩:=x;exact RN e
 |xd fs=>obtain⟨_,⟨_,_,_,e,_⟩,_⟩:=x;exact RN e
 |rng lo hi=>obtain⟨_,_,_,e⟩:=x;exact RN e
 |frz ob u=>obtain⟨e,_⟩:=x;exact RN e
 |tbl ps=>exact RN (show h.get? a=some _ from x)
 |met f y=>exact RN (show h.get? a=some _ from x)
 |ext φ=>obtain⟨_,⟨_,e⟩,_⟩:=x;exact RN e
theorem Paired.mapP{α β:Type}{F G:α->β->Prop}{l₁:List α}{l₂:List β}(h:Sq F l₁ l₂)(f:∀a b,F a b->G a b):Sq G l₁ l₂:=by
 induction h with
 |nil=>exact .nil
 |cons r _ ih=>exact .cons (f _ _ r) ih
theorem gE.stay(x:gE P w H h a o)(k:∀b u,(b=a\/H b=some (.own a))->h.get? b=some u->h'.get? b=some u)
  (ho:∀b,H b=some (.own a)->H' b=some (.own a)) (ht:∀b xs,H b=some (.tup xs)->H' b=some (.tup xs)):gE P w H' h' a o:=by
 induction o with
 |lst xs=>obtain⟨z,its,n,r,e⟩:=x;exact⟨z,its,n,r,k _ _ (.inl rfl) e⟩
 |tup xs=>obtain⟨z,its,r,ob,e,c⟩:=x;exact⟨z,its,r,ob,k _ _ (.inl rfl) e,c⟩
 |dK kvs=>obtain⟨z,y,vs,r,ob,es,ep,e,c⟩:=x;exact⟨z,y,vs,r,ob,es,ep,k _ _ (.inl rfl) e,c⟩
 |dT kvs=>
  obtain⟨z,y,xs,r,ob,es,ep,e,c⟩:=x;exact⟨z,y,xs,Paired.mapP r λp q z=>⟨z.1,ht _ _ z.2.1,z.2.2⟩,ob,es,ep,k _ _ (.inl rfl) e,c⟩
 |set S n=>obtain⟨ob,es,ep,t,e,c⟩:=x;exact⟨ob,es,ep,t,k _ _ (.inl rfl) e,c⟩
 |ins C dx fs=>
  obtain⟨d,z,ne,e,mA,⟨od,es,ep,e2,c⟩,r⟩:=x;exact⟨ho _ d,z,ne,k _ _ (.inl rfl) e,mA,⟨od,es,ep,k _ _ (.inr d) e2,c⟩,r⟩
 |own y=>obtain⟨ob,e⟩:=x;exact⟨ob,k _ _ (.inl rfl) e⟩
 |xd fs=>obtain⟨mA,⟨od,es,ep,e,c⟩,r⟩:=x;exact⟨mA,⟨od,es,ep,k _ _ (.inl rfl) e,c⟩,r⟩
 |rng lo hi=>obtain⟨t,u,v,e⟩:=x;exact⟨t,u,v,k _ _ (.inl rfl) e⟩
 |frz ob u ih=>obtain⟨e,q⟩:=x;exact⟨k _ _ (.inl rfl) e,ih q⟩
 |tbl ps=>
  have e:h.get? a=some {cls:=.none,data:=.fields ps}:=x;show h'.get? a=some {cls:=.none,data:=.fields ps};exact k a _ (.inl rfl) e
 |met f y=>
  have e:h.get? a=some (QQ (.ref f) (.ref y)):=x;show h'.get? a=some (QQ (.ref f) (.ref y));exact k a _ (.inl rfl) e
 |ext φ=>obtain⟨p,⟨o,e⟩,st⟩:=x;exact⟨st _ _ _ _ p ho k,⟨o,k _ _ (.inl rfl) e⟩,st⟩
theorem pQ.lt(x:pQ P w H h)(e:H a=some o):a<h.objs.size:=(x a o e).lt
theorem pQ.fresh(x:pQ P w H h)(e:h.objs.size<=a):H a=none:=by
 cases q:H a with
 |none=>rfl
 |some u=>exact absurd (OI (x.lt q) e) (OJ _)
theorem pQ.kept(x:pQ P w H h)(k:∀b u,h.get? b=some u->h'.get? b=some u):pQ P w H h':=λa o e=>
 (x a o e).stay (λb u _ q=>k b u q) (λ_ q=>q) λ_ _ q=>q
theorem pQ.laid(x:pQ P w H h)(k:∀b u,h.get? b=some u->h'.get? b=some u)(hp:h.objs.size<=a)(new:gE P w (upd H a o) h' a o):pQ P w (upd H a o) h':=λb u e=>by
 have hn:=x.fresh hp;by_cases hb:b=a
 ·subst hb;rw[aT]at e;cases e;exact new
 ·rw[av hb]at e;exact(x b u e).stay (λc v _ q=>k c v q) (λc q=>by rw[av (aL q hn)];exact q) λc xs q=>by rw[av (aL q hn)];exact q
end
noncomputable def Rd(H:Hp)(a:Sg)(u:HO):Prop:=H a=some u\/∃o,H a=some (.frz o u)
theorem Rd.ok{P:Sn}{w:Sl}{H:Hp}{h:Sr}{a:Sg}{u:HO}(r:Rd H a u)(x:pQ P w H h):gE P w H h a u:=by
 rcases r with r|⟨o,r⟩
 ·exact x a u r
 ·obtain⟨_,q⟩:=x a _ r;exact q
noncomputable def Kv:Option HO->Prop
 |some (.lst _)=>True
 |some (.dK _)=>True
 |some (.dT _)=>True
 |some (.set _ _)=>True
 |some (.ins _ _ _)=>True
 |some (.ext _)=>True
 |_=>False
section
variable{P:Sn}{w:Sl}{H:Hp}{h h':Sr}{x e:Sg}{o':HO}
theorem pQ.write(ok:pQ P w H h)(mu:Kv (H x))(he:e=x\/H e=some (.own x))(k:∀b u,b≠e->h.get? b=some u->h'.get? b=some u)(heo:∃u,h'.get? e=some u)
  (new:gE P w (upd H x o') h' x o'):pQ P w (upd H x o') h':=λb u q=>by
 have nown:∀c y,H c=some (.own y)->c≠x:=λc y r z=>by subst z;rw[r]at mu;exact mu
 have ntup:∀c xs,H c=some (.tup xs)->c≠x:=λc xs r z=>by subst z;rw[r]at mu;exact mu
 by_cases hb:b=x
 ·subst hb;rw[aT]at q;cases q;exact new
 ·rw[av hb]at q;by_cases hbe:b=e
  ·have q':H b=some (.own x):=by
    rcases he with z|z
    ·exact absurd (hbe.trans z) hb
    ·rw[hbe];exact z
   rw[q]at q';cases q';obtain⟨v,hv⟩:=heo;exact⟨v,by rw[hbe];exact hv⟩
  ·refine(ok b u q).stay (λc v hc r=>k c v ?_ r) (λc r=>by rw[av (nown c b r)];exact r) λc xs r=>by rw[av (ntup c xs r)];exact r
   rcases hc with rfl|hc
   ·exact hbe
   ·rintro rfl;rcases he with z|z
    ·exact nown c b hc z
    ·rw[hc]at z;cases z;exact hb rfl
end
structure Un(fs ex:ap)(H H':Hp)(h h':Sr):Prop where
 keep:∀b o,h.get? b=some o->H b=none->b∉fs->b∉ex->h'.get? b=some o
 slot:∀b o,h.get? b=some o->H b=none->b∈fs->b∉ex->∃sl,h'.get? b=some {o with slots:=sl}
 free:∀b o,h.get? b=some o->H b=none->b∉ex->H' b=none
 there:∀b o,h.get? b=some o->b∉ex->∃o',h'.get? b=some o'
 tups:∀b xs,H b=some (.tup xs)->H' b=some (.tup xs)
 frzs:∀b o u,H b=some (.frz o u)->H' b=some (.frz o u)
 tbls:∀b ps,H b=some (.tbl ps)->∃more,H' b=some (.tbl (ps++more))
section
variable{fs fs' ex ex':ap}{H H1 H2:Hp}{h h1 h2 h':Sr}{a x e:Sg}{o:HO}
theorem Un.any(u:Un fs ex H H1 h h1){b:Sg}{ob:Obj}(q:h.get? b=some ob)(n:H b=none)(hx:b∉ex):∃sl,h1.get? b=some {ob with slots:=sl}:=by
 by_cases hb:b∈fs
 ·exact u.slot b ob q n hb hx
 ·exact⟨ob.slots,u.keep b ob q n hb hx⟩
theorem Un.kept(k:∀b u,h.get? b=some u->h'.get? b=some u):Un fs ex H H h h':=
 ⟨λb ob q _ _ _=>k b ob q,λb ob q _ _ _=>⟨ob.slots,k b ob q⟩,λ_ _ _ n _=>n,λb ob q _=>⟨ob,k b ob q⟩,λ_ _ q=>q,λ_ _ _ q=>q,λ_ ps q=>⟨#[],by rw[q];simp⟩⟩
theorem Un.refl:Un fs ex H H h h:=Un.kept λ_ _ q=>q
theorem Un.laid(k:∀b u,h.get? b=some u->h'.get? b=some u)(hp:h.objs.size<=a)(hn:H a=none):Un fs ex H (upd H a o) h h' where
 keep:=λb u q _ _ _=>k b u q
 slot:=λb u q _ _ _=>⟨u.slots,k b u q⟩
 free:=λb u q n _=>by rw[av (OL (OI (RN q) hp))];exact n
 there:=λb u q _=>⟨u,k b u q⟩
 tups:=λb xs q=>by rw[av (aL q hn)];exact q
 frzs:=λb u xs q=>by rw[av (aL q hn)];exact q
 tbls:=λb ps q=>⟨#[],by rw[av (aL q hn),q];simp⟩
theorem Un.write(mu:Kv (H x))(he:e=x\/H e=some (.own x))(k:∀b u,b≠e->h.get? b=some u->h'.get? b=some u)(heo:∃u,h'.get? e=some u):Un fs ex H (upd H x o) h h':=by
 have hx:∀b,H b=none->b≠x:=λb n z=>by subst z;rw[n]at mu;exact mu
 have hb:∀b,H b=none->b≠e:=λb n z=>by
  subst z;rcases he with r|r
  ·exact hx b n r
  ·rw[n]at r;cases r
 have hm:∀b u,H b=some u->¬Kv (some u)->b≠x:=λb u q nm z=>by subst z;rw[q]at mu;exact nm mu
 refine⟨λb u q n _ _=>k b u (hb b n) q,λb u q n _ _=>⟨u.slots,k b u (hb b n) q⟩,λb u q n _=>by rw[av (hx b n)];exact n,λb u q _=>?_,
  λb xs q=>by rw[av (hm b _ q λz=>z)];exact q,λb u xs q=>by rw[av (hm b _ q λz=>z)];exact q,λb ps q=>⟨#[],by rw[av (hm b _ q λz=>z),q];simp⟩⟩
 by_cases hbe:b=e
 ·subst hbe;exact heo
 ·exact⟨u,k b u hbe q⟩
end
noncomputable def KN(h:Sr)(H:Hp):ap:=(List.range h.objs.size).filter λa=>(H a).isSome
noncomputable def mi(h:Sr)(H:Hp):Sr:=PySem.W.hideAll h (KN h H)
theorem zc(h:Sr)(H:Hp):(mi h H).objs.size=h.objs.size:=PySem.W.hideAll_size _ _
theorem uw{h:Sr}{H:Hp}{b:Sg}{o:Obj}(e:h.get? b=some o)(n:H b=none):(mi h H).get? b=some o:=
 PySem.W.hideAll_get _ e λhm=>by
  have q:(H b).isSome=true:=(List.mem_filter.mp hm).2;rw[n]at q;simp at q
theorem wU{h:Sr}{H:Hp}{b:Sg}{o:Obj}(e:(mi h H).get? b=some o):h.get? b=some o/\H b=none:=by
 have e':h.get? b=some o:=PySem.W.of_hideAll (KN h H) e;refine⟨e',?_⟩;cases q:H b with
 |none=>rfl
 |some x=>
  have hm:b∈KN h H:=List.mem_filter.mpr ⟨List.mem_range.mpr (RN e'),by simp[q]⟩;have z:(mi h H).get? b=none:=PySem.W.hideAll_none (KN h H) hm;rw[z]at e;cases e
noncomputable def DR(g h:Sr)(L:Sg):aM:=(List.range h.objs.size).filterMap λa=>if a=L\/(g.get? a).isSome=true then none else(h.get? a).map λo=>(a,o)
noncomputable def rest(g h:Sr)(L d:Sg):aM:=(DR g h L).filter λp=>decide (p.1≠d)
structure Mod(K:QR)(mg:bg)(base:Sr):Prop where
 kin:K.In base
 glob:base.Ns Su mg
 blt:∃mb,base.Ns builtinsNs mb/\∀x:Str,x≠"__name__"->mb x=Sv x
 nolimit:base.NoLimit
structure Cx where
 prog:Sn
 w:Sl
 K:QR
 mg:bg
 base:Sr
 A:Sw
 N:ah
 s₀:Sj
 H₀:Hp
 env:Env
 outer:List Env
 stack:List Env
 ex:ap
 fn:Str->Bool
 calm:Bool
 pn:aM
 xe:bf
noncomputable def frs(l:List Env):ap:=l.filterMap (·.frame)
noncomputable abbrev Cx.fs(X:Cx):ap:=frs X.outer
noncomputable def H0(sc:Sx)(x:Str):Prop:=sc.names.lookup x=some .local\/sc.names.lookup x=some .cell\/sc.names.lookup x=some .free
noncomputable def Loc(sc:Sx)(x:Str):Prop:=sc.names.lookup x=some .local\/sc.names.lookup x=some .cell
noncomputable def Look(env:Env)(h:Sr)(m:bg)(x:Str)(u:Se):Prop:=
 (env.kindOf x=some .local/\m x=some u)\/((env.kindOf x=some .cell\/env.kindOf x=some .free)/\∃c,env.cells.lookup x=some c/\h.IsCell c (some u))
structure Cx.Ok(X:Cx):Prop where
 mod:Mod X.K X.mg X.base
 kind:X.env.scope.kind=.function
 glob:X.env.globals=Su
 blt:X.env.builtins=builtinsNs
 above:X.s₀.heap.objs.size<=X.env.locals
 inj:∀x y c,X.env.cells.lookup x=some c->X.env.cells.lookup y=some c->x=y
 has:∀x,(X.env.kindOf x=some .cell\/X.env.kindOf x=some .free)->∃c,X.env.cells.lookup x=some c
 cab:∀x c,X.fn x=true->X.env.cells.lookup x=some c->X.s₀.heap.objs.size<=c
 hd:X.calm=true->X.A.handled=none
 frames:X.A.frames=some X.stack
 stk:X.stack=X.outer\/(X.stack=X.env::X.outer/\X.env.frame=some X.env.locals)
 exf:∀b∈X.ex,b≠X.env.locals/\∀x c,X.env.cells.lookup x=some c->c≠b
 bs:∀b o,X.base.get? b=some o->X.s₀.heap.get? b=some o/\X.H₀ b=none
 bsz:X.base.objs.size<=X.s₀.heap.objs.size
 noex:∀b o,X.base.get? b=some o->b∉X.ex
 exfs:∀b∈X.ex,b∉X.fs
 funs:X.s₀.heap.FunFrames X.base X.outer
 frf:∀b∈X.fs,X.H₀ b=none
structure Inv(X:Cx)(pins:aM)(σ:List (Option V))(H:Hp)(s:Sj):Prop where
 ok:X.Ok
 os:s.os=X.s₀.os
 bare:AllBare s.gens
 base:Un X.fs X.ex X.H₀ H X.s₀.heap s.heap
 loc:∃m,s.heap.Ns X.env.locals m/\∀(i:Nat)(x:Str)(v:V),X.N[i]?=some x->σ[i]?=some (some v)->H0 X.env.scope x->∃u,RelV v u/\Look X.env s.heap m x u
 cell:∀x c,X.env.cells.lookup x=some c->∃v,s.heap.IsCell c v
 free:H X.env.locals=none
 freeC:∀x c,X.env.cells.lookup x=some c->H c=none
 pin:∀p∈X.pn++pins,s.heap.get? p.1=some p.2/\H p.1=none/\p.1≠X.env.locals/\p.1∉X.fs/\∀v,p.2.data≠.cell v
 hok:pQ X.prog X.w H s.heap
 len:σ.length=X.N.length
section
variable{X:Cx}{pins:aM}{σ:List (Option V)}{H H':Hp}{s:Sj}{h':Sr}
theorem Cx.Ok.nofr(ok:X.Ok){b:Sg}{o:Obj}(e:X.base.get? b=some o):b∉X.fs:=λhb=>by
 have:=(ok.funs.mem hb).1
 rw[e]at this;cases this
theorem Inv.bs(I:Inv X pins σ H s):∀b o,X.base.get? b=some o->s.heap.get? b=some o/\H b=none:=λb o e=>
 ⟨I.base.keep b o (I.ok.bs b o e).1 (I.ok.bs b o e).2 (I.ok.nofr e) (I.ok.noex b o e),I.base.free b o (I.ok.bs b o e).1 (I.ok.bs b o e).2 (I.ok.noex b o e)⟩
theorem Inv.bk(I:Inv X pins σ H s):∀b o,X.base.get? b=some o->s.heap.get? b=some o:=λb o e=>(I.bs b o e).1
theorem Inv.mod(I:Inv X pins σ H s):Mod X.K X.mg X.base:=I.ok.mod
theorem Inv.kIn(I:Inv X pins σ H s):X.K.In s.heap:=I.ok.mod.kin.keeps I.bk
theorem Inv.lt(I:Inv X pins σ H s):X.env.locals<s.heap.objs.size:=let ⟨_,hn,_⟩:=I.loc;hn.lt
theorem Inv.sz(I:Inv X pins σ H s):X.s₀.heap.objs.size<=s.heap.objs.size:=OM I.ok.above (OO I.lt)
theorem Inv.nofs(I:Inv X pins σ H s){a:Sg}(h:s.heap.objs.size<=a):a∉X.fs:=λhb=>by
 obtain⟨_,o,ho,_⟩:=I.ok.funs.mem hb;exact absurd (OI (RN ho) (OM I.sz h)) (OJ _)
theorem Inv.cne(I:Inv X pins σ H s):∀x c,X.env.cells.lookup x=some c->c≠X.env.locals:=λx c e z=>by
 obtain⟨v,o,ho,hd⟩:=I.cell x c e;obtain⟨m,⟨o',es,ep,ho',hd',_⟩,_⟩:=I.loc;rw[z,ho']at ho;cases ho;rw[hd']at hd;cases hd
theorem Inv.funs(I:Inv X pins σ H s):s.heap.FunFrames X.base X.outer:=by
 have all:∀(l:List Env),(∀b∈frs l,b∈X.fs)->X.s₀.heap.FunFrames X.base l->s.heap.FunFrames X.base l:=by
  intro l
  induction l with
  |nil=>intro _ _;trivial
  |cons env r ih=>
   intro hs hl;obtain⟨hk,⟨L,o,hf,hn,ho,hd⟩,hr⟩:=hl;have hL:L∈X.fs:=hs L (by unfold frs;rw[OQ,hf];exact OS);obtain⟨sl,e⟩:=I.base.slot L o ho (I.ok.frf L hL) hL λz=>I.ok.exfs L z hL;exact⟨hk,⟨L,_,hf,hn,e,hd⟩,ih (λb hb=>hs b (by unfold frs;rw[OQ,hf];exact OT _ hb)) hr⟩
 exact all X.outer (λ_ hb=>hb) I.ok.funs
theorem Inv.stack(I:Inv X pins σ H s):s.heap.FunFrames X.base X.stack:=by
 rcases I.ok.stk with e|⟨e,hf⟩
 ·rw[e];exact I.funs
 ·rw[e];obtain⟨m,hn,_⟩:=I.loc;refine .cons (by rw[I.ok.kind];decide) hf hn ?_ I.funs;exact Heap.get?_none_of_le (OM I.ok.bsz I.ok.above)
theorem Inv.stkSub(I:Inv X pins σ H s):∀b∈frs X.stack,b∈X.env.locals::X.fs:=λb hb=>by
 rcases I.ok.stk with e|⟨e,hf⟩
 ·rw[e]at hb;exact OT _ hb
 ·rw[e]at hb;unfold frs at hb;rw[OQ,hf]at hb;exact hb
theorem Inv.stkFree(I:Inv X pins σ H s):∀b∈frs X.stack,H b=none:=λb hb=>by
 rcases List.mem_cons.mp (I.stkSub b hb)with e|hb
 ·rw[e];exact I.free
 ·obtain⟨_,o,ho,_⟩:=I.ok.funs.mem hb;exact I.base.free b o ho (I.ok.frf b hb) λz=>I.ok.exfs b z hb
theorem Inv.step{g':Array GenState}{t':Nat}{d':Drawn}{ch:ap}(I:Inv X pins σ H s)
  (hch:∀b∈ch,(b∈X.ex\/X.s₀.heap.objs.size<=b)/\b≠X.env.locals/\(∀x c,X.env.cells.lookup x=some c->c≠b)/\∀p∈X.pn++pins,p.1≠b)
  (keep:∀b o,b≠X.env.locals->b∉X.fs->b∉ch->s.heap.get? b=some o->H b=none->h'.get? b=some o)
  (slot:∀b o,b≠X.env.locals->b∈X.fs->b∉ch->s.heap.get? b=some o->H b=none->∃sl,h'.get? b=some {o with slots:=sl}) (free:∀b o,b∉ch->s.heap.get? b=some o->H b=none->H' b=none)
  (there:∀b o,b∉ch->s.heap.get? b=some o->∃o',h'.get? b=some o')
  (tups:∀b xs,H b=some (.tup xs)->H' b=some (.tup xs)) (frzs:∀b o u,H b=some (.frz o u)->H' b=some (.frz o u)) (tbls:∀b ps,H b=some (.tbl ps)->∃more,H' b=some (.tbl (ps++more)))
  (ns:∀m,s.heap.Ns X.env.locals m->h'.Ns X.env.locals m) (hok:pQ X.prog X.w H' h') (hg:AllBare g'):
  Inv X pins σ H' {s with heap:=h',gens:=g',drawn:=d',toks:=t'}:=by
 have neL:∀b o,X.s₀.heap.get? b=some o->b≠X.env.locals:=λb o e=>OL (OI (RN e) I.ok.above);have neC:∀b o,X.s₀.heap.get? b=some o->b∉X.ex->b∉ch:=λb o e hx hb=>by
  rcases(hch b hb).1 with z|z
  ·exact hx z
  ·exact absurd (OI (RN e) z) (OJ _)
 have cellK:∀x c,X.env.cells.lookup x=some c->∀v,s.heap.IsCell c v->h'.IsCell c v:=λx c e v zq=>zq.elim λo zq=>zq.elim λho hd=>by
  have nch:c∉ch:=λz=>(hch c z).2.2.1 x c e rfl;by_cases hc:c∈X.fs
  ·obtain⟨sl,q⟩:=slot c o (I.cne x c e) hc nch ho (I.freeC x c e);exact⟨_,q,hd⟩
  ·exact⟨o,keep c o (I.cne x c e) hc nch ho (I.freeC x c e),hd⟩
 refine⟨I.ok,I.os,hg,⟨λb o e n hb hx=>?_,λb o e n hb hx=>?_,λb o e n hx=>?_,λb o e hx=>?_,λb xs e=>tups b xs (I.base.tups b xs e),λb o xs e=>frzs b o xs (I.base.frzs b o xs e),λb ps e=>?_⟩,?_,λx c e=>?_,?_,λx c e=>?_,λp hp=>?_,hok,I.len⟩
 ·exact keep b o (neL b o e) hb (neC b o e hx) (I.base.keep b o e n hb hx) (I.base.free b o e n hx)
 ·obtain⟨sl,e1⟩:=I.base.slot b o e n hb hx;obtain⟨sl',e2⟩:=slot b _ (neL b o e) hb (neC b o e hx) e1 (I.base.free b o e n hx);exact⟨sl',e2⟩
 ·obtain⟨o',e1⟩:=I.base.there b o e hx;exact free b o' (neC b o e hx) e1 (I.base.free b o e n hx)
 ·obtain⟨o',e1⟩:=I.base.there b o e hx;exact there b o' (neC b o e hx) e1
 ·obtain⟨m1,e1⟩:=I.base.tbls b ps e;obtain⟨m2,e2⟩:=tbls b _ e1;exact⟨m1++m2,by rw[e2,Array.append_assoc]⟩
 ·obtain⟨m,hn,hl⟩:=I.loc;refine⟨m,ns m hn,λi x v e1 e2 e3=>?_⟩;obtain⟨u,r,l⟩:=hl i x v e1 e2 e3;refine⟨u,r,?_⟩;rcases l with l|⟨k,c,e,z⟩
  ·exact .inl l
  ·exact .inr ⟨k,c,e,cellK x c e _ z⟩
 ·obtain⟨v,z⟩:=I.cell x c e;exact⟨v,cellK x c e v z⟩
 ·obtain⟨m,⟨o,_,_,ho,_⟩,_⟩:=I.loc;exact free _ o (λz=>(hch _ z).2.1 rfl) ho I.free
 ·obtain⟨v,o,ho,hd⟩:=I.cell x c e;exact free c o (λz=>(hch c z).2.2.1 x c e rfl) ho (I.freeC x c e)
 ·obtain⟨e,n,ne,nf,d⟩:=I.pin p hp;have nch:p.1∉ch:=λz=>(hch p.1 z).2.2.2 p hp rfl;exact⟨keep p.1 p.2 ne nf nch e n,free p.1 p.2 nch e n,ne,nf,d⟩
theorem Inv.un{t':Nat}(I:Inv X pins σ H s)(u:Un X.fs [] H H' s.heap h')(hok:pQ X.prog X.w H' h'):Inv X pins σ H' {s with heap:=h',toks:=t'}:=by
 obtain⟨m,⟨o,es,ep,ho,r⟩,_⟩:=id I.loc;obtain⟨sl,hL⟩:=u.any ho I.free (by simp);exact I.step (g':=s.gens) (d':=s.drawn) (ch:=[]) (λ_ z=>nomatch z) (λb o _ hb _ e n=>u.keep b o e n hb (by simp)) (λb o _ hb _ e n=>u.slot b o e n hb (by simp)) (λb o _ e n=>u.free b o e n (by simp)) (λb o _ e=>u.there b o e (by simp)) u.tups u.frzs u.tbls (λm' hm=>by
  obtain⟨o',es',ep',ho',r'⟩:=hm;rw[ho]at ho';cases ho';exact⟨_,es',ep',hL,r'⟩) hok I.bare
theorem Inv.call{g':Array GenState}{t':Nat}{d':Drawn}{ch:ap}(I:Inv X pins σ H s)(u:Un (frs X.stack) ch H H' s.heap h')(hok:pQ X.prog X.w H' h')(hg:AllBare g')
  (hch:∀b∈ch,(b∈X.ex\/X.s₀.heap.objs.size<=b)/\b≠X.env.locals/\(∀x c,X.env.cells.lookup x=some c->c≠b)/\∀p∈X.pn++pins,p.1≠b):
  Inv X pins σ H' {s with heap:=h',gens:=g',drawn:=d',toks:=t'}:=by
 obtain⟨m,⟨o,es,ep,ho,r⟩,_⟩:=id I.loc;obtain⟨sl,hL⟩:=u.any ho I.free λz=>(hch _ z).2.1 rfl;exact I.step (ch:=ch) hch (λb o hL hb hc e n=>u.keep b o e n (λz=>(List.mem_cons.mp (I.stkSub b z)).elim hL hb) hc) (λb o _ _ hc e n=>u.any e n hc) (λb o hc e n=>u.free b o e n hc) (λb o hc e=>u.there b o e hc) u.tups u.frzs u.tbls (λm' hm=>by
  obtain⟨o',es',ep',ho',r'⟩:=hm;rw[ho]at ho';cases ho';exact⟨_,es',ep',hL,r'⟩) hok hg
theorem Inv.turned{t':Nat}{it:Sg}(I:Inv X pins σ H s)(k:∀b o,b≠it->s.heap.get? b=some o->h'.get? b=some o)(hn:H it=none)(hL:it≠X.env.locals)
  (h1:it∈X.ex\/X.s₀.heap.objs.size<=it) (h2:∀x c,X.env.cells.lookup x=some c->c≠it) (h3:∀p∈X.pn++pins,p.1≠it):Inv X pins σ H {s with heap:=h',toks:=t'}:=by
 have nit:∀b u,H b=some u->b≠it:=λb u e z=>by rw[z,hn]at e;cases e
 refine I.step (g':=s.gens) (d':=s.drawn) (ch:=[it]) (λb hb=>?_) (λb o _ _ hc e _=>k b o (λz=>hc (by simp[z])) e) (λb o _ _ hc e _=>⟨o.slots,k b o (λz=>hc (by simp[z])) e⟩) (λ_ _ _ _ n=>n)
  (λb o hc e=>⟨o,k b o (λz=>hc (by simp[z])) e⟩) (λ_ _ e=>e) (λ_ _ _ e=>e) (λb ps e=>⟨#[],by rw[e];simp⟩) (λm hm=>?_) (λb u e=>?_) I.bare
 ·have e:b=it:=by simpa using hb
  subst e;exact⟨h1,hL,h2,h3⟩
 ·obtain⟨o,es,ep,ho,r⟩:=hm;exact⟨o,es,ep,k _ o (Ne.symm hL) ho,r⟩
 ·refine(I.hok b u e).stay (λc v hc q=>k c v ?_ q) (λ_ q=>q) λ_ _ q=>q;rcases hc with z|z
  ·rw[z];exact nit b u e
  ·exact nit c _ z
theorem Inv.tok(I:Inv X pins σ H s)(t:Nat):Inv X pins σ H {s with toks:=t}:=I.un (h':=s.heap) (t':=t) Un.refl I.hok
theorem Inv.kept{t':Nat}(I:Inv X pins σ H s)(k:∀b u,s.heap.get? b=some u->h'.get? b=some u):Inv X pins σ H {s with heap:=h',toks:=t'}:=I.un (Un.kept k) (I.hok.kept k)
theorem Inv.laid{a:Sg}{o:HO}{t':Nat}(I:Inv X pins σ H s)(k:∀b u,s.heap.get? b=some u->h'.get? b=some u)(hp:s.heap.objs.size<=a)(new:gE X.prog X.w (upd H a o) h' a o):
  Inv X pins σ (upd H a o) {s with heap:=h',toks:=t'}:=I.un (Un.laid k hp (I.hok.fresh hp)) (I.hok.laid k hp new)
theorem Inv.write{x e:Sg}{o:HO}{t':Nat}(I:Inv X pins σ H s)(mu:Kv (H x))(he:e=x\/H e=some (.own x))(k:∀b u,b≠e->s.heap.get? b=some u->h'.get? b=some u)(heo:∃u,h'.get? e=some u)
  (new:gE X.prog X.w (upd H x o) h' x o):Inv X pins σ (upd H x o) {s with heap:=h',toks:=t'}:=I.un (Un.write mu he k heo) (I.hok.write mu he k heo new)
theorem Inv.pins_of{pins':aM}(I:Inv X pins σ H s)(h:∀p∈pins',s.heap.get? p.1=some p.2/\H p.1=none/\p.1≠X.env.locals/\p.1∉X.fs/\∀v,p.2.data≠.cell v):Inv X pins' σ H s:=
 ⟨I.ok,I.os,I.bare,I.base,I.loc,I.cell,I.free,I.freeC,λp hp=>(List.mem_append.mp hp).elim (λz=>I.pin p (OU _ z)) (h p),I.hok,I.len⟩
theorem uj{N:ah}(hN:N.Nodup){i j:Nat}{x:Str}(a:N[i]?=some x)(b:N[j]?=some x):i=j:=by
 obtain⟨h1,e1⟩:=List.getElem?_eq_some_iff.mp a;obtain⟨h2,e2⟩:=List.getElem?_eq_some_iff.mp b;exact(List.getElem_inj hN).mp (e1.trans e2.symm)
theorem qG{M:Sy}{A:Sw}{E:bf}{i:Nat}{x:Str}{v:V}{u:Se}{Q:Unit->iH}(I:Inv X pins σ H s)(hN:X.N.Nodup)(hi:X.N[i]?=some x)(hx:Loc X.env.scope x)(r:RelV v u)
  (h:∀s',Inv X pins (σ.set i (some v)) H s'->(∃a,RO a s.heap s'.heap/\(a=X.env.locals\/X.env.cells.lookup x=some a))->Q () s') (hf:X.fn x=true\/X.env.scope.names.lookup x=some .local:=by first|exact .inl rfl|exact .inr rfl|assumption):Sz M A (storeName X.env x u) Q E s:=by
 obtain⟨m,hn,hl⟩:=id I.loc;have hcls:(X.env.scope.kind==.class||(X.env.scope.kind==.module&&X.env.locals !=X.env.globals))=false:=by rw[I.ok.kind];rfl
 have hiσ:i<σ.length:=by rw[I.len];exact(List.getElem?_eq_some_iff.mp hi).1
 have cne:=I.cne;have tracked:∀{a:Sg}{h':Sr},(∃o,s.heap.get? a=some o/\H a=none)->RO a s.heap h'->pQ X.prog X.w H h':=λ{a h'} ha hs b ob e=>by
  obtain⟨_,_,hfree⟩:=ha;refine(I.hok b ob e).stay (λc w' hc q=>(hs.2 c ?_).trans q) (λ_ q=>q) λ_ _ q=>q;rintro rfl;rcases hc with rfl|hc
  ·rw[hfree]at e;cases e
  ·rw[hfree]at hc;cases hc
 rcases hx with hk|hk
 ·refine wpAny_storeName_local hk hn (λh' hn' hs=>?_) hcls;obtain⟨oL,_,_,hoL,_⟩:=id hn;refine h _ ⟨I.ok,I.os,I.bare,⟨λb o e n hb hx=>?_,λb o e n hb hx=>?_,I.base.free,λb o e hx=>?_,I.base.tups,I.base.frzs,I.base.tbls⟩,⟨_,hn',λj y v' e1 e2 e3=>?_⟩,λy c e=>?_,I.free,I.freeC,λp hp=>?_,tracked ⟨oL,hoL,I.free⟩ hs,by simpa using I.len⟩ ⟨_,hs,.inl rfl⟩
  ·exact(hs.2 b (OL (OI (RN e) I.ok.above))).trans (I.base.keep b o e n hb hx)
  ·obtain⟨sl,e1⟩:=I.base.slot b o e n hb hx;exact⟨sl,(hs.2 b (OL (OI (RN e) I.ok.above))).trans e1⟩
  ·obtain⟨o',e1⟩:=I.base.there b o e hx;exact⟨o',(hs.2 b (OL (OI (RN e) I.ok.above))).trans e1⟩
  ·by_cases hj:j=i
   ·subst hj;rw[hi]at e1;cases e1;rw[OV hiσ]at e2;cases e2;exact⟨u,r,.inl ⟨hk,by simp⟩⟩
   ·rw[OW (Ne.symm hj)]at e2;obtain⟨u',r',q⟩:=hl j y v' e1 e2 e3;refine⟨u',r',?_⟩;rcases q with⟨k,e⟩|⟨k,c,e,z⟩
    ·refine .inl ⟨k,?_⟩
     have:y≠x:=λe=>hj (uj hN e1 (e ▸ hi))
     simp[this,e]
    ·exact .inr ⟨k,c,e,z.sameBut hs (cne y c e)⟩
  ·obtain⟨w',z⟩:=I.cell y c e;exact⟨w',z.sameBut hs (cne y c e)⟩
  ·obtain⟨e,n,ne,nf,d⟩:=I.pin p hp;exact⟨(hs.2 p.1 ne).trans e,n,ne,nf,d⟩
 ·have hfn:X.fn x=true:=by
   rcases hf with z|z
   ·exact z
   ·rw[z]at hk;cases hk
  obtain⟨c,hc⟩:=I.ok.has x (.inl hk);obtain⟨w',z⟩:=I.cell x c hc;refine wpAny_storeName_cell I.ok.kind hk hc z (λh' hc' hs=>?_);obtain⟨oc,hoc,hocd⟩:=id z;refine h {s with heap:=h'} ⟨I.ok,I.os,I.bare,⟨λb o e n hb hx=>?_,λb o e n hb hx=>?_,I.base.free,λb o e hx=>?_,I.base.tups,I.base.frzs,I.base.tbls⟩,⟨m,hn.sameBut hs (Ne.symm (cne x c hc)),λj y v' e1 e2 e3=>?_⟩,λy c' e=>?_,I.free,I.freeC,λp hp=>?_,tracked ⟨oc,hoc,I.freeC x c hc⟩ hs,by simpa using I.len⟩ ⟨c,hs,.inr hc⟩
  ·exact(hs.2 b (OL (OI (RN e) (I.ok.cab x c hfn hc)))).trans (I.base.keep b o e n hb hx)
  ·obtain⟨sl,e1⟩:=I.base.slot b o e n hb hx;exact⟨sl,(hs.2 b (OL (OI (RN e) (I.ok.cab x c hfn hc)))).trans e1⟩
  ·obtain⟨o',e1⟩:=I.base.there b o e hx;exact⟨o',(hs.2 b (OL (OI (RN e) (I.ok.cab x c hfn hc)))).trans e1⟩
  ·by_cases hj:j=i
   ·subst hj;rw[hi]at e1;cases e1;rw[OV hiσ]at e2;cases e2;exact⟨u,r,.inr ⟨.inl hk,c,hc,hc'⟩⟩
   ·rw[OW (Ne.symm hj)]at e2;obtain⟨u',r',q⟩:=hl j y v' e1 e2 e3;refine⟨u',r',?_⟩;rcases q with q|⟨k,c',e,z'⟩
    ·exact .inl q
    ·refine .inr ⟨k,c',e,z'.sameBut hs ?_⟩;rintro rfl;exact hj (uj hN e1 (I.ok.inj _ _ _ e hc ▸ hi))
  ·by_cases hcc:c'=c
   ·subst hcc;exact⟨_,hc'⟩
   ·obtain⟨w2,z2⟩:=I.cell y c' e;exact⟨w2,z2.sameBut hs hcc⟩
  ·obtain⟨e,n,ne,nf,d⟩:=I.pin p hp;refine⟨(hs.2 p.1 ?_).trans e,n,ne,nf,d⟩;intro q;rw[q,hoc]at e;have q':oc=p.2:=Option.some.inj e;exact d w' (by rw[<-q'];exact hocd)
theorem jb{M:Sy}{A:Sw}{E:bf}{i:Nat}{x:Str}{v:V}{u:Se}{Q:Unit->iH}(I:Inv X pins σ H s)(hN:X.N.Nodup)(hi:X.N[i]?=some x)(hx:Loc X.env.scope x)(r:RelV v u)
  (h:∀s',Inv X pins (σ.set i (some v)) H s'->Q () s') (hf:X.fn x=true\/X.env.scope.names.lookup x=some .local:=by first|exact .inl rfl|exact .inr rfl|assumption):Sz M A (storeName X.env x u) Q E s:=
 qG I hN hi hx r (λs' I' _=>h s' I') hf
theorem Inv.call'{s':Sj}{ch:ap}(I:Inv X pins σ H s)(ho:s'.os=s.os)(u:Un (frs X.stack) ch H H' s.heap s'.heap)(hok:pQ X.prog X.w H' s'.heap)(hg:AllBare s'.gens)
  (hch:∀b∈ch,(b∈X.ex\/X.s₀.heap.objs.size<=b)/\b≠X.env.locals/\(∀x c,X.env.cells.lookup x=some c->c≠b)/\∀p∈X.pn++pins,p.1≠b):Inv X pins σ H' s':=by
 obtain⟨h',g',d',t',o'⟩:=s';have e:o'=s.os:=ho;subst e;exact I.call (g':=g') (t':=t') (d':=d') u hok hg hch
end
noncomputable abbrev XK:=Se->Option Sg->Hp->Prop
noncomputable abbrev St:=List (Option V)
noncomputable abbrev VK:=V->Hp->Prop
noncomputable abbrev TE:=St->Hp->VK->Prop
noncomputable abbrev TT:=St->Hp->(Bool->Hp->Prop)->Prop
noncomputable abbrev TA:=St->Hp->(ax->Hp->Prop)->Prop
structure Ends where
 nx:St->Hp->Prop
 rt:VK
 bk:St->Hp->Prop:=λ_ _=>False
 ct:St->Hp->Prop:=λ_ _=>False
noncomputable abbrev TS:=Ends->St->Hp->Prop
noncomputable def EP(X:Cx)(pins:aM)(σ:St)(Q:VK)(u:Se)(s':Sj):Prop:=∃v H',Inv X pins σ H' s'/\RelV v u/\Q v H'
noncomputable def TP(X:Cx)(pins:aM)(σ:St)(Q:Bool->Hp->Prop)(b:Bool)(s':Sj):Prop:=∃H',Inv X pins σ H' s'/\Q b H'
noncomputable def AP(X:Cx)(pins:aM)(σ:St)(Q:ax->Hp->Prop)(us:aP)(s':Sj):Prop:=∃vs H',Inv X pins σ H' s'/\Vals vs us/\Q vs H'
noncomputable def SP(X:Cx)(pins:aM)(D:Ends)(f:Flow)(s':Sj):Prop:=
 match f with
 |.next=>∃σ' H',Inv X pins σ' H' s'/\D.nx σ' H'
 |.brk=>∃σ' H',Inv X pins σ' H' s'/\D.bk σ' H'
 |.cont=>∃σ' H',Inv X pins σ' H' s'/\D.ct σ' H'
 |.ret u=>∃v σ' H',Inv X pins σ' H' s'/\RelV v u/\D.rt v H'
noncomputable def PE(X:Cx)(e:Sh)(t:TE):Prop:=
 ∀(pins:aM)(s:Sj)(σ:St)(H:Hp)(Q:VK),Inv X pins σ H s->t σ H Q->Sz (model X.prog X.w) X.A (eval e X.env) (EP X pins σ Q) X.xe s
noncomputable def PT(X:Cx)(e:Sh)(t:TT):Prop:=
 ∀(pins:aM)(s:Sj)(σ:St)(H:Hp)(Q:Bool->Hp->Prop),Inv X pins σ H s->t σ H Q->Sz (model X.prog X.w) X.A (isTrue e X.env (eval e X.env)) (TP X pins σ Q) X.xe s
noncomputable def PW(X:Cx)(e:Sh)(t:TT):Prop:=
 ∀(whole:Sem Se)(pins:aM)(s:Sj)(σ:St)(H:Hp)(Q:Bool->Hp->Prop),Inv X pins σ H s->t σ H Q->Sz (model X.prog X.w) X.A (isTrue e X.env whole) (TP X pins σ Q) X.xe s
theorem PW.pt{X:Cx}{e:Sh}{t:TT}(h:PW X e t):PT X e t:=h _
noncomputable def PA(X:Cx)(es:aF)(t:TA):Prop:=
 ∀(pos:Pos)(pins:aM)(s:Sj)(σ:St)(H:Hp)(Q:ax->Hp->Prop),Inv X pins σ H s->t σ H Q->Sz (model X.prog X.w) X.A (spliced (backTo pos (SA es X.env))) (AP X pins σ Q) X.xe s
noncomputable def PS(X:Cx)(st:Si)(t:TS):Prop:=
 ∀(pins:aM)(s:Sj)(σ:St)(H:Hp)(D:Ends),Inv X pins σ H s->t D σ H->Sz (model X.prog X.w) X.A (exec st X.env) (SP X pins D) X.xe s
noncomputable def pH(X:Cx)(st:cS)(t:TS):Prop:=
 ∀(pins:aM)(s:Sj)(σ:St)(H:Hp)(D:Ends),Inv X pins σ H s->t D σ H->Sz (model X.prog X.w) X.A (execs st X.env) (SP X pins D) X.xe s
theorem dj{α:Type}{t:Sem α}{Q Q':α->iH}{M:Sy}{A:Sw}{E:bf}{s:Sj}(h:Sz M A t Q E s)(hQ:∀a s,Q a s->Q' a s):Sz M A t Q' E s:=SD h hQ λ_ _ x=>x
section
variable{X:Cx}
noncomputable def pP(i:Nat):TE:=λσ H Q=>∃v,σ[i]?=some (some v)/\Q v H
noncomputable def tC(v:V):TE:=λ_ H Q=>Q v H
theorem Hk{i:Nat}{x:Str}{pos:Pos}(hN:X.N[i]?=some x)(hv:H0 X.env.scope x)(hd:(x==("__debug__":Str))=false:=by decide)(hcd:(x==("__classdict__":Str))=false:=by decide):PE X (.Name x pos) (pP i):=by
 intro pins s σ H Q I h;obtain⟨v,e,h⟩:=h;obtain⟨m,hn,hl⟩:=I.loc;obtain⟨u,r,l⟩:=hl i x v hN e hv;have fin:EP X pins σ Q u s:=⟨v,H,I,r,h⟩
 rcases l with⟨hk,hm⟩|⟨hk,c,hc,hcell⟩
 ·exact SE (wpAny_loadName_local I.ok.kind hk hn hm fin) hd
 ·rcases hk with hk|hk
  ·exact SE (wpAny_loadName_cell I.ok.kind hk hc hcell fin) hd
  ·exact SE (wpAny_loadName_free I.ok.kind hk hc hcell fin hcd) hd
theorem Hy{i j pos}:PE X (.Constant (.int i) j pos) (tC (.int i)):=λ_ _ _ H _ I h=>wpAny_Constant_int ⟨.int i,H,I.tok _,⟨_,rfl⟩,h⟩
theorem J3{b j pos}:PE X (.Constant (.bool b) j pos) (tC (.bl b)):=λ_ _ _ H _ I h=>Constant_bool ⟨.bl b,H,I,rfl,h⟩
theorem Iu{x j pos}:PE X (.Constant (.str x) j pos) (tC (.str x)):=λ_ _ _ H _ I h=>Calls.Constant_str ⟨.str x,H,I.tok _,⟨_,rfl⟩,h⟩
noncomputable def Gl(X:Cx)(x:Str):Prop:=X.env.kindOf x=some .globalImplicit
theorem gx{E:bf}{pins:aM}{s:Sj}{σ:St}{H:Hp}{x:Str}{u:Se}{pos:Pos}{Q:bf}(I:Inv X pins σ H s)(hg:Gl X x)(hm:X.mg x=some u)(h:Q u s)
  (hd:(x==("__debug__":Str))=false:=by decide):Sz (model X.prog X.w) X.A (eval (.Name x pos) X.env) Q E s:=
 Calls.Name_function_global I.ok.kind hg (Calls.loadGlobal_global (by rw[I.ok.glob];exact I.mod.glob.keeps I.bk) hm h) hd
theorem ka{E:bf}{pins:aM}{s:Sj}{σ:St}{H:Hp}{x:Str}{u:Se}{pos:Pos}{Q:bf}(I:Inv X pins σ H s)(hg:Gl X x)(hm:X.mg x=none)(hv:Sv x=some u)(h:Q u s)
  (hn:x≠"__name__":=by decide) (hd:(x==("__debug__":Str))=false:=by decide):Sz (model X.prog X.w) X.A (eval (.Name x pos) X.env) Q E s:=by
 obtain⟨mb,h1,h2⟩:=I.mod.blt;exact Calls.Name_function_global I.ok.kind hg (Calls.loadGlobal_builtin (by rw[I.ok.glob];exact I.mod.glob.keeps I.bk) hm (by rw[I.ok.blt];exact h1.keeps I.bk) ((h2 x hn).trans hv) h) hd
theorem jL{x:Str}{v:V}{u:Se}{pos:Pos}(hg:Gl X x)(hm:X.mg x=some u)(r:RelV v u)(hd:(x==("__debug__":Str))=false:=by decide):PE X (.Name x pos) (tC v):=
 λ_ _ _ H _ I h=>gx I hg hm ⟨v,H,I,r,h⟩ hd
theorem v8{x:Str}{v:V}{u:Se}{pos:Pos}(hg:Gl X x)(hm:X.mg x=none)(hv:Sv x=some u)(r:RelV v u)(hn:x≠"__name__":=by decide)(hd:(x==("__debug__":Str))=false:=by decide):PE X (.Name x pos) (tC v):=
 λ_ _ _ H _ I h=>ka I hg hm hv ⟨v,H,I,r,h⟩ hn hd
variable{a b:Sh}{ta tb:TE}{pos:Pos}
variable{tA tB':TT}{rest:aF}
noncomputable def KU(t u:TT):TT:=λσ H Q=>t σ H λc H1=>if c=true then u σ H1 Q else Q false H1
noncomputable def Oe(t u:TT):TT:=λσ H Q=>t σ H λc H1=>if c=true then Q true H1 else u σ H1 Q
noncomputable def LD(t:TT):TT:=λσ H Q=>t σ H λc H1=>Q (!c) H1
theorem CQ(ha:PT X a tA):PW X (.BoolOp .And [a] pos) tA:=by
 intro wh pins s σ H Q I h;refine isTrue_and (dj (ha pins s σ H Q I h) λc s1 e=>?_);cases c with
 |true=>exact isTrue_and_nil e
 |false=>exact e
theorem Ic(ha:PT X a tA):PW X (.BoolOp .Or [a] pos) tA:=by
 intro wh pins s σ H Q I h;refine isTrue_or (dj (ha pins s σ H Q I h) λc s1 e=>?_);cases c with
 |false=>exact isTrue_or_nil e
 |true=>exact e
theorem HF(ha:PT X a tA)(hb:PW X (.BoolOp .And (b::rest) pos) tB'):PW X (.BoolOp .And (a::b::rest) pos) (KU tA tB'):=by
 intro wh pins s σ H Q I h;refine isTrue_and (dj (ha pins s σ H _ I h) λc s1 zq=>zq.elim λH1 zq=>zq.elim λI1 q1=>?_);cases c with
 |true=>exact hb wh pins s1 σ H1 Q I1 q1
 |false=>exact⟨H1,I1,q1⟩
theorem J1(ha:PT X a tA)(hb:PW X (.BoolOp .Or (b::rest) pos) tB'):PW X (.BoolOp .Or (a::b::rest) pos) (Oe tA tB'):=by
 intro wh pins s σ H Q I h;refine isTrue_or (dj (ha pins s σ H _ I h) λc s1 zq=>zq.elim λH1 zq=>zq.elim λI1 q1=>?_);cases c with
 |true=>exact⟨H1,I1,q1⟩
 |false=>exact hb wh pins s1 σ H1 Q I1 q1
theorem HX(ha:PT X a tA):PT X (.UnaryOp .Not a pos) (LD tA):=by
 intro pins s σ H Q I h;exact isTrue_not (ha pins s σ H (λc H1=>Q (!c) H1) I h)
noncomputable def JW(ta tb:TE):TE:=λσ H Q=>ta σ H λx H1=>∃c,x=.bl c/\if c=true then tb σ H1 Q else Q (.bl false) H1
noncomputable def I0(ta:TE):TE:=λσ H Q=>ta σ H λx H1=>∃c,x=.bl c/\Q (.bl (!c)) H1
theorem HD{op}{t:TE}(h:PE X a t):PE X (.BoolOp op [a] pos) t:=λpins s σ H Q I hw=>BoolOp_one (h pins s σ H Q I hw)
theorem G7(ha:PE X a ta)(hb:PE X (.BoolOp .And (b::rest) pos) tb):PE X (.BoolOp .And (a::b::rest) pos) (JW ta tb):=by
 intro pins s σ H Q I h;refine BoolOp_and (dj (ha pins s σ H _ I h) λv s1 zq=>zq.elim λx zq=>zq.elim λH1 zq=>zq.elim λI1 zq=>zq.elim λr1 q1=>?_);obtain⟨c,rfl,q1⟩:=q1;cases r1;refine SF ?_;cases c with
 |true=>exact hb pins s1 σ H1 Q I1 q1
 |false=>exact⟨.bl false,H1,I1,rfl,q1⟩
theorem Ij(ha:PE X a ta):PE X (.UnaryOp .Not a pos) (I0 ta):=by
 intro pins s σ H Q I h;refine UnaryOp_ (dj (ha pins s σ H _ I h) λv s1 zq=>zq.elim λx zq=>zq.elim λH1 zq=>zq.elim λI1 zq=>zq.elim λr1 q1=>?_);obtain⟨c,rfl,q1⟩:=q1;cases r1;exact not_of (SF ⟨.bl (!c),H1,I1,rfl,q1⟩)
noncomputable def Nx(t:TT)(ta tb:TE):TE:=λσ H Q=>t σ H λc H1=>if c=true then ta σ H1 Q else tb σ H1 Q
theorem BE{c:Sh}(hc:PT X c tA)(ha:PE X a ta)(hb:PE X b tb):PE X (.IfExp c a b pos) (Nx tA ta tb):=by
 intro pins s σ H Q I h;refine wpAny_IfExp (dj (hc pins s σ H _ I h) λd s1 zq=>zq.elim λH1 zq=>zq.elim λI1 q1=>?_);cases d with
 |true=>exact ha pins s1 σ H1 Q I1 q1
 |false=>exact hb pins s1 σ H1 Q I1 q1
end
noncomputable def kg(K:QR)(H:Hp)(a:Sg)(xs:ax):Prop:=
 Rd H a (.lst xs) \/
  ∃(o:Obj)(its:Array Se)(n:Nat),K.lookup a=some o/\o.cls=.type "list"/\o.dict=none/\o.data=.seq its n/\its.size<=Ss/\Vals xs its.toList
noncomputable def lN(K:QR)(H:Hp)(a:Sg)(xs:ax):Prop:=
 Rd H a (.tup xs) \/
  ∃(o:Obj)(its:Array Se)(n:Nat),K.lookup a=some o/\o.cls=.type "tuple"/\o.data=.seq its n/\its.size<=Ss/\Vals xs its.toList
noncomputable def my:Se->Option V
 |.none=>some .non
 |.bool b=>some (.bl b)
 |.int i _=>some (.int i)
 |.str x _=>some (.str x)
 |.bytes b _=>some (.byt b)
 |.float b _=>some (.flt b)
 |.ref a=>some (.ref a)
 |.type n=>some (.ty n)
 |_=>none
theorem RelV.abs{x:V}{u:Se}(r:RelV x u):my u=some x:=by
 cases x with
 |non=>cases r;rfl
 |bl _=>cases r;rfl
 |int _=>obtain⟨t,rfl⟩:=r;rfl
 |str _=>obtain⟨t,rfl⟩:=r;rfl
 |byt _=>obtain⟨t,rfl⟩:=r;rfl
 |flt _=>obtain⟨t,rfl⟩:=r;rfl
 |ref _=>cases r;rfl
 |ty _=>cases r;rfl
theorem RelV.inj{x y:V}{u:Se}(r:RelV x u)(q:RelV y u):x=y:=Option.some.inj (r.abs.symm.trans q.abs)
theorem Vals.inj{xs ys:ax}{us:aP}(h:Vals xs us)(h':Vals ys us):xs=ys:=by
 induction h generalizing ys with
 |nil=>cases h';rfl
 |cons r _ ih=>
  cases h' with|cons r' t'=>
  rw[RelV.inj r r',ih t']
section
variable{X:Cx}{pins:aM}{σ:St}{H:Hp}{s:Sj}{a:Sg}{xs ys:ax}
theorem kg.of{K:QR}(h:H a=some (.lst xs)):kg K H a xs:=.inl (.inl h)
theorem lN.of{K:QR}(h:H a=some (.tup xs)):lN K H a xs:=.inl (.inl h)
theorem Inv.list(I:Inv X pins σ H s)(h:kg X.K H a xs):∃its:aP,Vals xs its/\PlainL s.heap a its.toArray/\xs.length<=Ss:=by
 rcases h with h|⟨o,its,n,hk,hc,hd,hs,hz,r⟩
 ·obtain⟨z,its,n,r,e⟩:=h.ok I.hok;exact⟨its,r,⟨_,n,e,rfl,rfl,rfl⟩,z⟩
 ·refine⟨its.toList,r,⟨o,n,I.kIn a o hk,hc,hd,by simpa using hs⟩,?_⟩;have e:=r.length;simp only[Array.length_toList]at e;omega
theorem Inv.tuple(I:Inv X pins σ H s)(h:lN X.K H a xs):∃its:aP,Vals xs its/\IsTup s.heap a its.toArray/\xs.length<=Ss:=by
 rcases h with h|⟨o,its,n,hk,hc,hs,hz,r⟩
 ·obtain⟨z,its,r,p⟩:=h.ok I.hok;exact⟨its,r,p.tup,z⟩
 ·refine⟨its.toList,r,⟨o,I.kIn a o hk,hc,n,by simpa using hs⟩,?_⟩;have e:=r.length;simp only[Array.length_toList]at e;omega
theorem Inv.list_inj(I:Inv X pins σ H s)(h:kg X.K H a xs)(h':kg X.K H a ys):xs=ys:=by
 obtain⟨its,r,⟨o,n,e,_,_,d⟩,_⟩:=I.list h;obtain⟨its',r',⟨o',n',e',_,_,d'⟩,_⟩:=I.list h';rw[e]at e';cases e';rw[d]at d';injection d' with d1 _
 have:its=its':=by simpa using congrArg Array.toList d1
 subst this;exact r.inj r'
theorem Inv.tuple_inj(I:Inv X pins σ H s)(h:lN X.K H a xs)(h':lN X.K H a ys):xs=ys:=by
 obtain⟨its,r,⟨o,e,_,n,d⟩,_⟩:=I.tuple h;obtain⟨its',r',⟨o',e',_,n',d'⟩,_⟩:=I.tuple h';rw[e]at e';cases e';rw[d]at d';injection d' with d1 _
 have:its=its':=by simpa using congrArg Array.toList d1
 subst this;exact r.inj r'
end
noncomputable abbrev Cx.wish(X:Cx)(E:bf):Cx:={X with xe:=E}
noncomputable abbrev Cx.nox(X:Cx):Cx:=X.wish λ_ _=>False
theorem Cx.Ok.wish{X:Cx}(ok:X.Ok)(E:bf):(X.wish E).Ok:=
 ⟨ok.mod,ok.kind,ok.glob,ok.blt,ok.above,ok.inj,ok.has,ok.cab,ok.hd,ok.frames,ok.stk,ok.exf,ok.bs,ok.bsz,ok.noex,ok.exfs,ok.funs,ok.frf⟩
theorem Cx.Ok.unwish{X:Cx}{E:bf}(ok:(X.wish E).Ok):X.Ok:=
 ⟨ok.mod,ok.kind,ok.glob,ok.blt,ok.above,ok.inj,ok.has,ok.cab,ok.hd,ok.frames,ok.stk,ok.exf,ok.bs,ok.bsz,ok.noex,ok.exfs,ok.funs,ok.frf⟩
section
variable{X:Cx}{pins:aM}{σ:St}{H:Hp}{s:Sj}{E:bf}
theorem Inv.wish(I:Inv X pins σ H s)(E:bf):Inv (X.wish E) pins σ H s:=⟨I.ok.wish E,I.os,I.bare,I.base,I.loc,I.cell,I.free,I.freeC,I.pin,I.hok,I.len⟩
theorem Inv.unwish(I:Inv (X.wish E) pins σ H s):Inv X pins σ H s:=⟨I.ok.unwish,I.os,I.bare,I.base,I.loc,I.cell,I.free,I.freeC,I.pin,I.hok,I.len⟩
theorem SP.unwish{D:Ends}{f:Flow}{s':Sj}(h:SP (X.wish E) pins D f s'):SP X pins D f s':=by
 cases f with
 |next=>obtain⟨σ',H',I,q⟩:=h;exact⟨σ',H',I.unwish,q⟩
 |brk=>obtain⟨σ',H',I,q⟩:=h;exact⟨σ',H',I.unwish,q⟩
 |cont=>obtain⟨σ',H',I,q⟩:=h;exact⟨σ',H',I.unwish,q⟩
 |ret u=>obtain⟨v,σ',H',I,r,q⟩:=h;exact⟨v,σ',H',I.unwish,r,q⟩
theorem pH.nox{st:cS}{t:TS}(h:pH X.nox st t):pH X st t:=λpins s σ H D I hw=>
 SD (h pins s σ H D (I.wish _) hw) (λ_ _ q=>q.unwish) λ_ _ z=>False.elim z
end
section
variable{X:Cx}{st:Si}{rest:cS}{t u:TS}{e:Sh}{te:TE}{pos:Pos}
noncomputable def Bo:TS:=λD σ H=>D.nx σ H
noncomputable def MU(t u:TS):TS:=λD σ H=>t {D with nx:=u D} σ H
theorem sk:pH X [] Bo:=λ_ _ σ H _ I h=>SG ⟨σ,H,I,h⟩
theorem pj(h1:PS X st t)(h2:pH X rest u):pH X (st::rest) (MU t u):=by
 intro pins s σ H D I h;refine SH (dj (h1 pins s σ H {D with nx:=u D} I h) λf s1 q=>?_);cases f with
 |next=>
  obtain⟨σ',H',I',q⟩:=q;exact h2 pins s1 σ' H' D I' q
 |ret v=>exact q
 |brk=>exact q
 |cont=>exact q
theorem sr(h1:PS X st t):pH X [st] t:=by
 intro pins s σ H D I h;refine SH (dj (h1 pins s σ H D I h) λf s1 q=>?_);cases f with
 |next=>exact SG q
 |ret v=>exact q
 |brk=>exact q
 |cont=>exact q
theorem C5:PS X (.Pass pos) Bo:=λ_ _ σ H _ I h=>wpAny_Pass ⟨σ,H,I,h⟩
theorem Inv.quiet{pins:aM}{σ:St}{H:Hp}{s:Sj}(I:Inv X pins σ H s):interactive X.env=false:=by simp[interactive,I.ok.kind]
theorem Hq{x j pos pos'}:PS X (.Expr (.Constant (.str x) j pos) pos') Bo:=λ_ s σ H _ I h=>wpAny_Expr (Calls.Constant_str (show SP X _ _ .next {s with toks:=s.toks+1}from⟨σ,H,I.tok _,h⟩)) I.quiet
noncomputable def JV(te:TE):TS:=λD σ H=>te σ H λ_ H1=>D.nx σ H1
theorem qY(he:PE X e te)(hs:swapsWith e none pos.line X.env=pure false:=by rfl):PS X (.Expr e pos) (JV te):=by
 intro pins s σ H D I h;exact wpAny_Expr_any (dj (he pins s σ H _ I h) λv s1 zq=>zq.elim λx zq=>zq.elim λH1 zq=>zq.elim λI1 zq=>zq.elim λr1 q1=>⟨σ,H1,I1,q1⟩) I.quiet hs
noncomputable def Lx(te:TE):TS:=λD σ H=>te σ H D.rt
theorem vj(he:PE X e te):PS X (.Return (some e) pos) (Lx te):=by
 intro pins s σ H D I h;exact wpAny_Return_some (dj (he pins s σ H _ I h) λv s1 zq=>zq.elim λx zq=>zq.elim λH1 zq=>zq.elim λI1 zq=>zq.elim λr1 q1=>⟨x,σ,H1,I1,r1,q1⟩)
noncomputable def MC(c:TT)(t u:TS):TS:=λD σ H=>c σ H λb H1=>if b=true then t D σ H1 else u D σ H1
theorem Gp{c:Sh}{a b:cS}{tc:TT}(hc:PT X c tc)(ha:pH X a t)(hb:pH X b u):PS X (.If c a b pos) (MC tc t u):=by
 intro pins s σ H D I h;refine wpAny_If (dj (hc pins s σ H _ I h) λd s1 zq=>zq.elim λH1 zq=>zq.elim λI1 q1=>?_);cases d with
 |true=>exact ha pins s1 σ H1 D I1 q1
 |false=>exact hb pins s1 σ H1 D I1 q1
end
noncomputable abbrev TG:=V->St->Hp->(St->Hp->Prop)->Prop
noncomputable abbrev Gn:=List V->St->Hp->(St->Hp->Prop)->Prop
noncomputable def PG(X:Cx)(target:Sh)(t:TG):Prop:=
 ∀(pins:aM)(s:Sj)(σ:St)(H:Hp)(v:V)(u:Se)(Q:St->Hp->Prop),Inv X pins σ H s->RelV v u->t v σ H Q->
  Sz (model X.prog X.w) X.A (assign target X.env u) (λ_ s'=>∃σ' H',Inv X pins σ' H' s'/\Q σ' H') X.xe s
noncomputable def Js(X:Cx)(ts:aF)(t:Gn):Prop:=
 ∀(pins:aM)(s:Sj)(σ:St)(H:Hp)(vs:ax)(us:aP)(Q:St->Hp->Prop),Inv X pins σ H s->Vals vs us->t vs σ H Q->
  Sz (model X.prog X.w) X.A (assignInOrder ((assignEach ts X.env).map (·.2)) us) (λ_ s'=>∃σ' H',Inv X pins σ' H' s'/\Q σ' H') X.xe s
section
variable{X:Cx}{pos:Pos}
noncomputable def qB(i:Nat):TG:=λv σ H Q=>Q (σ.set i (some v)) H
theorem De{i:Nat}{x:Str}(hN:X.N.Nodup)(hi:X.N[i]?=some x)(hx:Loc X.env.scope x)(hf:X.fn x=true\/X.env.scope.names.lookup x=some .local:=by first|exact .inl rfl|exact .inr rfl|assumption):PG X (.Name x pos) (qB i):=by
 intro pins s σ H v u Q I r h;exact SJ (jb I hN hi hx r (λs' I'=>⟨_,H,I',h⟩) hf)
noncomputable def KZ:Gn:=λvs σ H Q=>vs=[]/\Q σ H
noncomputable def JP(t:TG)(u:Gn):Gn:=λvs σ H Q=>∃v r,vs=v::r/\t v σ H λσ' H'=>u r σ' H' Q
theorem Dj:Js X [] KZ:=by
 intro pins s σ H vs us Q I r h;obtain⟨e,h⟩:=h;subst e;cases r;exact assignInOrder_nil ⟨σ,H,I,h⟩
theorem zx{e:Sh}{es:aF}{t:TG}{u:Gn}(h1:PG X e t)(h2:Js X es u)
  (hs:(assignEach (e::es) X.env).map (·.2)=assign e X.env::(assignEach es X.env).map (·.2):=by rfl):Js X (e::es) (JP t u):=by
 intro pins s σ H vs us Q I r h;obtain⟨v,vr,e1,h⟩:=h;subst e1;cases r with
 |cons r rr=>
  rw[hs];refine assignInOrder_cons (dj (h1 pins s σ H _ _ _ I r h) λ_ s1 zq=>zq.elim λσ1 zq=>zq.elim λH1 zq=>zq.elim λI1 q1=>?_);exact h2 pins s1 σ1 H1 _ _ Q I1 rr q1
noncomputable def L9(K:QR)(n:Nat)(t:Gn):TG:=λv σ H Q=>∃a xs,v=.ref a/\lN K H a xs/\xs.length=n/\t xs σ H Q
theorem Hl{es:aF}{k:Nat}{t:Gn}{n:Nat}(hc:X.calm=true)(h:Js X es t)
  (hn:(assignEach es X.env).length=n:=by rfl) (hst:(assignEach es X.env).findIdx? (·.1)=none:=by rfl):PG X (.Tuple es k pos) (L9 X.K n t):=by
 intro pins s σ H v u Q I r hw;obtain⟨a,xs,e1,hq,hl,hw⟩:=hw;subst e1;cases r;obtain⟨its,rv,ht,hz⟩:=I.tuple hq;refine assign_Tuple_tuple (I.ok.hd hc) ht (by simp[hn,<-hl,rv.length]) hst λh' hx=>?_;have I1:Inv X pins σ H {s with heap:=h'}:=I.kept (t':=s.toks) λb o e=>hx b o (OL (RN e)) e;exact h pins _ σ H xs _ Q I1 (by simpa using rv) hw
noncomputable def Aa(te:TE)(g:TG):TS:=λD σ H=>te σ H λx H1=>g x σ H1 D.nx
theorem GU{tg e:Sh}{te:TE}{g:TG}(he:PE X e te)(hg:PG X tg g)(hs:swapsWithSole [tg] e pos.line X.env=pure false:=by rfl)(hw:swappedStores [tg] e X.env=pure none:=by rfl)
  (h1:(assignEach [tg] X.env).map (·.2)=[assign tg X.env]:=by rfl):PS X (.Assign [tg] e pos) (Aa te g):=by
 intro pins s σ H D I h;refine wpAny_Assign_stores (dj (he pins s σ H _ I h) λv s1 zq=>zq.elim λx zq=>zq.elim λH1 zq=>zq.elim λI1 zq=>zq.elim λr1 q1=>?_) hs hw;rw[h1];exact dj (hg pins s1 σ H1 x v _ I1 r1 q1) λ_ s2 q=>q
theorem n5{i:Nat}{x:Str}{e:Sh}{te:TE}{pos':Pos}(hN:X.N.Nodup)(hi:X.N[i]?=some x)(hx:Loc X.env.scope x)(he:PE X e te)(hs:swapsWith e (some (.Name x pos')) pos.line X.env=pure false:=by rfl)(hf:X.fn x=true\/X.env.scope.names.lookup x=some .local:=by first|exact .inl rfl|exact .inr rfl|assumption):
  PS X (.Assign [.Name x pos'] e pos) (Aa te (qB i)):=by
 intro pins s σ H D I h;refine wpAny_Assign_Name (dj (he pins s σ H _ I h) λv s1 zq=>zq.elim λy zq=>zq.elim λH1 zq=>zq.elim λI1 zq=>zq.elim λr1 q1=>?_) hs;exact jb I1 hN hi hx r1 (λs2 I2=>⟨_,H1,I2,q1⟩) hf
end
section
variable{X:Cx}{pos:Pos}
noncomputable def HW(c:TT)(tb:TS):TS:=λD σ H=>∃W:Nat->St->Hp->Prop,(∃m,W m σ H)/\∀m σ H,W m σ H->
 c σ H λb H1=>if b=true then∃N:St->Hp->Prop,(∀σ' H',N σ' H'->∃m',m'<m/\W m' σ' H')/\tb {D with nx:=N,ct:=N,bk:=D.nx} σ H1 else D.nx σ H1
theorem tS{c:Sh}{body:cS}{tc:TT}{tb:TS}(hp:SK (model X.prog X.w) X.A X.env X.xe)(hc:PT X c tc)(hb:pH X body tb):PS X (.While c body [] pos) (HW tc tb):=by
 intro pins s σ H D I h;obtain⟨W,⟨m0,w0⟩,turn⟩:=h;refine wpAny_While (codeAny_whileLoop (λn s'=>∃σ' H',Inv X pins σ' H' s'/\W n σ' H') ?_ m0 ⟨σ,H,I,w0⟩);rintro n s1 ⟨σ1,H1,I1,w1⟩;refine SL hp (dj (hc pins s1 σ1 H1 _ I1 (turn n σ1 H1 w1)) λb s2 zq=>zq.elim λH2 zq=>zq.elim λI2 q2=>?_);cases b with
 |true=>
  obtain⟨N,hN,q2⟩:=q2;rw[if_pos rfl];refine SL hp (dj (hb pins s2 σ1 H2 _ I2 q2) λf s3 q3=>?_);cases f with
  |next=>
   obtain⟨σ3,H3,I3,n3⟩:=q3;obtain⟨m',hm,w3⟩:=hN σ3 H3 n3;exact⟨m',hm,σ3,H3,I3,w3⟩
  |cont=>
   obtain⟨σ3,H3,I3,n3⟩:=q3;obtain⟨m',hm,w3⟩:=hN σ3 H3 n3;exact⟨m',hm,σ3,H3,I3,w3⟩
  |brk=>exact q3
  |ret v=>exact q3
 |false=>
  rw[if_neg OX];exact SG ⟨σ1,H2,I2,q2⟩
end
structure It where
 go:Nat->Hp->Prop
 yld:Nat->Hp->V->Hp->Prop
 stop:Nat->Hp->Prop
noncomputable def oM(X:Cx)(pins:aM)(H:Hp)(b:Sg):Prop:=
 H b=none/\b≠X.env.locals/\b∉X.fs/\(b∈X.ex\/X.s₀.heap.objs.size<=b)/\(∀x c,X.env.cells.lookup x=some c->c≠b)/\∀p∈X.pn++pins,p.1≠b
theorem Inv.fpOk{X:Cx}{pins:aM}{σ:St}{H H':Hp}{s:Sj}{b:Sg}(I:Inv X pins σ H s)(hb:s.heap.objs.size<=b)(hn:H' b=none):oM X pins H' b:=by
 refine⟨hn,OY (OI I.lt hb),I.nofs hb,.inr (OM I.sz hb),λx c e z=>?_,λp hp z=>?_⟩
 ·obtain⟨v,q⟩:=I.cell x c e;exact absurd (OI q.lt (by rw[z];exact hb)) (OJ _)
 ·exact absurd (OI (RN (I.pin p hp).1) (by rw[z];exact hb)) (OJ _)
structure Turn(P:Sn)(w:Sl)(K:QR)(tg:Sh)(J:It)(fp:ap)(it:Sg)(tn:Nat->Sr->Prop):Prop where
 mem:it∈fp
 obj:∀i h,tn i h->∀b∈fp,∃o,h.get? b=some o/\∀v,o.data≠.cell v
 keep:∀i h h',tn i h->(∀b∈fp,∀o,h.get? b=some o->h'.get? b=some o)->tn i h'
 item:∀(X:Cx),X.prog=P->X.w=w->X.K=K->X.calm=true->∀(i:Nat)(pins:aM)(s:Sj)(σ:St)(H:Hp)(E:bf),Inv X pins σ H s->(∀b∈fp,oM X pins H b)->tn i s.heap->J.go i H->
  Sz (model P w) X.A (pyNext (.ref it)) (λr s1=>∃u,r=some u/\
   Sz (model P w) X.A (letOwnedTupleGo tg (.ref it) u) (λ_ s2=>∃x H',Inv X pins σ H' s2/\RelV x u/\J.yld i H x H'/\tn (i+1) s2.heap/\∀b∈fp,H' b=none) E s1) E s
 done:∀(X:Cx),X.prog=P->X.w=w->X.K=K->X.calm=true->∀(i:Nat)(pins:aM)(s:Sj)(σ:St)(H:Hp)(E:bf),Inv X pins σ H s->(∀b∈fp,oM X pins H b)->tn i s.heap->J.stop i H->
  Sz (model P w) X.A (pyNext (.ref it)) (λr s1=>r=none/\Inv X pins σ H s1) E s
 self:∀(A:Sw)(i:Nat)(s:Sj)(Q:bf)(E:bf),tn i s.heap->Q (.ref it) s->Sz (model P w) A (pyIter (.ref it)) Q E s
noncomputable abbrev TI:=St->Hp->(It->Hp->Prop)->Prop
noncomputable def PIE(X:Cx)(pins:aM)(σ:St)(tg:Sh)(R:It->Hp->Prop)(itv:Se)(s2:Sj):Prop:=
 ∃(it:Sg)(fp:ap)(tn:Nat->Sr->Prop)(J:It)(H':Hp),itv=.ref it/\Inv X pins σ H' s2/\Turn X.prog X.w X.K tg J fp it tn/\tn 0 s2.heap/\(∀b∈fp,oM X pins H' b)/\R J H'
noncomputable def PI(X:Cx)(tg iter:Sh)(wi:TI):Prop:=
 ∀(pins:aM)(s:Sj)(σ:St)(H:Hp)(R:It->Hp->Prop),Inv X pins σ H s->wi σ H R->
  Sz (model X.prog X.w) X.A (eval iter X.env) (λv s1=>Sz (model X.prog X.w) X.A (pyIter v) (PIE X pins σ tg R) X.xe s1) X.xe s
theorem ux{M:Sy}{A:Sw}{E:bf}{s:Sj}{tg:Sh}{it:Sg}{u:Se}{o:Obj}{n:String}{vs:Array Se}{Q:Unit->iH}(ho:s.heap.get? it=some o)(hc:o.cls=.type n)(hd:o.data=.fields vs)
    (hn:["enumerate","zip","dict_itemiterator","dict_reverseitemiterator","odict_iterator","itertools.zip_longest","itertools.pairwise"].contains n=false) (hQ:Q () s):Sz M A (letOwnedTupleGo tg (.ref it) u) Q E s:=by
  unfold letOwnedTupleGo;cases tg<;>first
    |exact SM hQ
    | (cases u <;> first
        |exact SM hQ
        | (refine SN (wpAny_load ho ?_)
           rw[hc,hd];show Sz M A (if(["enumerate","zip","dict_itemiterator","dict_reverseitemiterator","odict_iterator","itertools.zip_longest","itertools.pairwise"].contains n&&vs[0]?==some (rawInt _))=true then _ else _) Q E s;rw[if_neg (by intro h;rw[hn,Bool.false_and]at h;cases h)];exact SM hQ))
noncomputable def Lc(K:QR)(a:Sg):It:=
 ⟨λi H=>∃xs x,kg K H a xs/\xs[i]?=some x,λi H x H'=>H'=H/\∀xs,kg K H a xs->xs[i]?=some x,λi H=>∃xs,kg K H a xs/\xs.length<=i⟩
noncomputable def Lg(K:QR)(a:Sg):It:=
 ⟨λi H=>∃xs x,lN K H a xs/\xs[i]?=some x,λi H x H'=>H'=H/\∀xs,lN K H a xs->xs[i]?=some x,λi H=>∃xs,lN K H a xs/\xs.length<=i⟩
noncomputable def Kp(lo:Int)(n:Nat):It:=⟨λi _=>i<n,λi H x H'=>H'=H/\x=.int (lo+i),λi _=>n<=i⟩
theorem xH{P:Sn}{w:Sl}{K:QR}{tg:Sh}(a it:Sg):Turn P w K tg (Lc K a) [it] it (λi h=>h.IsListIter it a i)where
 mem:=by simp
 obj:=λi h st b hb=>by
  have e:b=it:=by simpa using hb
  subst e;obtain⟨o,e,c,d⟩:=st;exact⟨o,e,λv z=>by rw[d]at z;cases z⟩
 keep:=λi h h' st k=>st.at λo e=>k it (by simp) o e
 item:=by
  intro X hP hw hK hc i pins s σ H E I hf st hg;subst hP hw hK;obtain⟨xs,x,hq,hx⟩:=hg;obtain⟨its,rv,p,hz⟩:=I.list hq;obtain⟨u,hu,ru⟩:=rv.get hx;obtain⟨f0,f1,f2,f3,f4,f5⟩:=hf it (by simp);refine wpAny_pyNext_list_item st p.isList (x:=u) (by simpa using hu) λh' st' sb=>?_;have I1:Inv X pins σ H {s with heap:=h'}:=I.turned (t':=s.toks) (λb o hb e=>(sb.2 b hb).trans e) f0 f1 f3 f4 f5;obtain⟨o,e,c,d⟩:=id st';exact⟨u,rfl,ux (s:={s with heap:=h'}) e c d (by decide) ⟨x,H,I1,ru,⟨rfl,λys hy=>by rw[I.list_inj hy hq];exact hx⟩,st',λb hb=>(hf b hb).1⟩⟩
 done:=by
  intro X hP hw hK hc i pins s σ H E I hf st hg;subst hP hw hK;obtain⟨xs,hq,hx⟩:=hg;obtain⟨its,rv,p,hz⟩:=I.list hq;obtain⟨f0,f1,f2,f3,f4,f5⟩:=hf it (by simp);have hl:=rv.length;exact wpAny_pyNext_list_end (I.ok.hd hc) st p.isList (by simp;omega) λh' eb=>⟨rfl,I.turned (t':=s.toks) (λb o hb e=>eb b o hb e) f0 f1 f3 f4 f5⟩
 self:=λ_ _ _ _ _ st h=>wpAny_pyIter_listiter st h
theorem vx{P:Sn}{w:Sl}{K:QR}{tg:Sh}(a it:Sg):Turn P w K tg (Lg K a) [it] it (λi h=>h.IsTupleIter it a i)where
 mem:=by simp
 obj:=λi h st b hb=>by
  have e:b=it:=by simpa using hb
  subst e;obtain⟨o,e,c,d⟩:=st;exact⟨o,e,λv z=>by rw[d]at z;cases z⟩
 keep:=λi h h' st k=>st.at λo e=>k it (by simp) o e
 item:=by
  intro X hP hw hK hc i pins s σ H E I hf st hg;subst hP hw hK;obtain⟨xs,x,hq,hx⟩:=hg;obtain⟨its,rv,p,hz⟩:=I.tuple hq;obtain⟨u,hu,ru⟩:=rv.get hx;obtain⟨f0,f1,f2,f3,f4,f5⟩:=hf it (by simp);refine wpAny_pyNext_tuple_item st (show s.heap.IsTuple a its.toArray from p) (x:=u) (by simpa using hu) λh' st' sb=>?_;have I1:Inv X pins σ H {s with heap:=h'}:=I.turned (t':=s.toks) (λb o hb e=>(sb.2 b hb).trans e) f0 f1 f3 f4 f5;obtain⟨o,e,c,d⟩:=id st';exact⟨u,rfl,ux (s:={s with heap:=h'}) e c d (by decide) ⟨x,H,I1,ru,⟨rfl,λys hy=>by rw[I.tuple_inj hy hq];exact hx⟩,st',λb hb=>(hf b hb).1⟩⟩
 done:=by
  intro X hP hw hK hc i pins s σ H E I hf st hg;subst hP hw hK;obtain⟨xs,hq,hx⟩:=hg;obtain⟨its,rv,p,hz⟩:=I.tuple hq;obtain⟨f0,f1,f2,f3,f4,f5⟩:=hf it (by simp);have hl:=rv.length;exact wpAny_pyNext_tuple_end (I.ok.hd hc) st (show s.heap.IsTuple a its.toArray from p) (by simp;omega) λh' eb=>⟨rfl,I.turned (t':=s.toks) (λb o hb e=>eb b o hb e) f0 f1 f3 f4 f5⟩
 self:=λ_ _ _ _ _ st h=>wpAny_pyIter_tupleiter st h
theorem vP{P:Sn}{w:Sl}{K:QR}{tg:Sh}(it:Sg)(lo:Int)(n:Nat):Turn P w K tg (Kp lo n) [it] it (λi h=>IsRangeIter h it (lo+(i:Nat)*1) ((n:Int)-(i:Nat)) 1)where
 mem:=by simp
 obj:=λi h st b hb=>by
  have e:b=it:=by simpa using hb
  subst e;exact⟨_,st,λv z=>by
   have z':Data.fields _=Data.cell v:=z;cases z'⟩
 keep:=λi h h' st k=>k it (by simp) _ st
 item:=by
  intro X hP hw hK hc i pins s σ H E I hf st hg;subst hP hw hK;obtain⟨f0,f1,f2,f3,f4,f5⟩:=hf it (by simp);have W:=Walks.range (prog:=X.prog) (w:=X.w) (I.ok.hd hc) it lo 1 n;refine W.item i s _ _ hg st λv h' tk hv st' kk=>?_;obtain⟨t,rfl⟩:=hv;have I1:Inv X pins σ H {s with heap:=h',toks:=tk}:=I.turned (λb o hb e=>kk b o (by simpa using hb) e) f0 f1 f3 f4 f5;refine⟨_,rfl,ux (s:={s with heap:=h',toks:=tk}) (n:="range_iterator") st' rfl rfl (by decide) ⟨.int (lo+i),H,I1,⟨t,?_⟩,⟨rfl,rfl⟩,st',λb hb=>(hf b hb).1⟩⟩;rw[Int.mul_one]
 done:=by
  intro X hP hw hK hc i pins s σ H E I hf st hg;subst hP hw hK;obtain⟨f0,f1,f2,f3,f4,f5⟩:=hf it (by simp);exact wpAny_pyNext_range_end (I.ok.hd hc) st (by have:n<=i:=hg;omega) λh' eb=>⟨rfl,I.turned (t':=s.toks) (λb o hb e=>eb b o hb e) f0 f1 f3 f4 f5⟩
 self:=λ_ _ _ _ _ st h=>wpAny_pyIter_rangeiter st h
section
variable{X:Cx}{tg:Sh}
noncomputable def Jk(K:QR)(tl:TE):TI:=λσ H R=>tl σ H λx H1=>∃a,x=.ref a/\(∃xs,kg K H1 a xs)/\R (Lc K a) H1
noncomputable def Lq(K:QR)(tl:TE):TI:=λσ H R=>tl σ H λx H1=>∃a,x=.ref a/\(∃xs,lN K H1 a xs)/\R (Lg K a) H1
theorem ww{l:Sh}{tl:TE}(hl:PE X l tl):PI X tg l (Jk X.K tl):=by
 intro pins s σ H R I h;refine dj (hl pins s σ H _ I h) λv s1 zq=>zq.elim λx zq=>zq.elim λH1 zq=>zq.elim λI1 zq=>zq.elim λr1 q1=>?_;obtain⟨a,e,⟨xs,hq⟩,q⟩:=q1;subst e;cases r1;obtain⟨its,rv,p,hz⟩:=I1.list hq;refine SR p.isList ?_;refine⟨s1.heap.objs.size,[s1.heap.objs.size],_,_,H1,rfl,I1.kept (t':=s1.toks) λb o e=>RP _ e,xH a _,⟨_,RM _ rfl,rfl,rfl⟩,λb hb=>?_,q⟩;have e:b=s1.heap.objs.size:=by simpa using hb
 subst e;exact I1.fpOk (OZ _) (I1.hok.fresh (OZ _))
theorem Hs{l:Sh}{tl:TE}(hl:PE X l tl):PI X tg l (Lq X.K tl):=by
 intro pins s σ H R I h;refine dj (hl pins s σ H _ I h) λv s1 zq=>zq.elim λx zq=>zq.elim λH1 zq=>zq.elim λI1 zq=>zq.elim λr1 q1=>?_;obtain⟨a,e,⟨xs,hq⟩,q⟩:=q1;subst e;cases r1;obtain⟨its,rv,p,hz⟩:=I1.tuple hq;refine wpAny_pyIter_tuple (show s1.heap.IsTuple a its.toArray from p) ?_;refine⟨s1.heap.objs.size,[s1.heap.objs.size],_,_,H1,rfl,I1.kept (t':=s1.toks) λb o e=>RP _ e,vx a _,⟨_,RM _ rfl,rfl,rfl⟩,λb hb=>?_,q⟩;have e:b=s1.heap.objs.size:=by simpa using hb
 subst e;exact I1.fpOk (OZ _) (I1.hok.fresh (OZ _))
theorem CI{pins:aM}{σ:St}{H:Hp}{s:Sj}{R:It->Hp->Prop}{E:bf}{lo hi:Int}{t u v:Tok}{tk:Nat}(I:Inv X pins σ H s)(h1:-(2^62)<=lo)(h2:lo<2^62)(h3:-(2^62)<=hi)(h4:hi<2^62)
  (q:R (Kp lo (hi-lo).toNat) H):Sz (model X.prog X.w) X.A (pyIter (.ref s.heap.objs.size)) (PIE X pins σ tg R) E {s with heap:=s.heap.push {cls:=.type "range",data:=.fields #[.int lo t,.int hi u,.int 1 v]},toks:=tk}:=by
 refine wpAny_pyIter_range (IsRange.new ..) (small_one h1 h2 h3 h4) ?_;have I1:Inv X pins σ H {s with heap:=s.heap.push {cls:=.type "range",data:=.fields #[.int lo t,.int hi u,.int 1 v]},toks:=tk}:=I.kept λb o e=>RP _ e;refine⟨(s.heap.push {cls:=.type "range",data:=.fields #[.int lo t,.int hi u,.int 1 v]}).objs.size,[(s.heap.push {cls:=.type "range",data:=.fields #[.int lo t,.int hi u,.int 1 v]}).objs.size],_,_,H,rfl,
  I1.kept (t':=tk) λb o e=>RP _ e,vP _ lo (hi-lo).toNat,?_,λb hb=>?_,q⟩
 ·have e1:lo+((0:Nat):Int)*1=lo:=by simp
  have e2:(((hi-lo).toNat:Nat):Int)-((0:Nat):Int)=Builtin.Range.rangeSize lo hi 1:=by rw[rangeSize_one];split<;>omega
  show IsRangeIter _ _ (lo+((0:Nat):Int)*1) ((((hi-lo).toNat:Nat):Int)-((0:Nat):Int)) 1;rw[e1,e2];exact RM _ rfl
 ·have e:b=(s.heap.push {cls:=.type "range",data:=.fields #[.int lo t,.int hi u,.int 1 v]}).objs.size:=by simpa using hb
  subst e;exact I1.fpOk (OZ _) (I1.hok.fresh (OZ _))
noncomputable def Jh(ta:TA):TI:=λσ H R=>ta σ H λvs H1=>∃j:Int,vs=[.int j]/\-(2^62)<=j/\j<2^62/\R (Kp 0 j.toNat) H1
theorem y9{a:Sh}{ta:TA}{p pos:Pos}(hg:Gl X "range")(hm:X.mg "range"=none)(ha:PA X [a] ta)(hs:SA [a] X.env=[(false,eval a X.env)]:=by rfl):PI X tg (.Call (.Name "range" p) [a] [] pos) (Jh ta):=by
 intro pins s σ H R I h;refine Call_ (ka I hg hm boot_range (RW (dj (ha pos pins s σ H _ I h) λus s1 zq=>zq.elim λvs zq=>zq.elim λH1 zq=>zq.elim λI1 zq=>zq.elim λr1 q1=>?_) hs rfl));obtain⟨j,e,q1,q2,q⟩:=q1;subst e;cases r1 with
 |cons r rr=>
  cases rr;obtain⟨t,rfl⟩:=r;exact call_range_1 (CI I1 ‹0› ‹0› q1 q2 (by simpa using q))
noncomputable def Ms(wi:TI)(g:TG)(tb:TS):TS:=λD σ H=>wi σ H λJ H1=>∃W:Nat->Nat->St->Hp->Prop,(∃m,W 0 m σ H1)/\∀i m σ H,W i m σ H->
 (J.stop i H/\D.nx σ H)\/(J.go i H/\∃N:St->Hp->Prop,(∀σ' H',N σ' H'->∃m',m'<m/\W (i+1) m' σ' H')/\∀x H',J.yld i H x H'->g x σ H' λσ2 H2=>tb {D with nx:=N,ct:=N,bk:=D.nx} σ2 H2)
noncomputable def j8(fp:ap)(h:Sr):aM:=fp.filterMap λb=>(h.get? b).map λo=>(b,o)
theorem gC{fp:ap}{h:Sr}{b:Sg}{o:Obj}(hb:b∈fp)(e:h.get? b=some o):(b,o)∈j8 fp h:=List.mem_filterMap.mpr ⟨b,hb,by rw[e];rfl⟩
theorem xq{fp:ap}{h:Sr}{p:Sg×Obj}(hp:p∈j8 fp h):p.1∈fp/\h.get? p.1=some p.2:=by
 obtain⟨b,hb,e⟩:=List.mem_filterMap.mp hp;cases q:h.get? b with
 |none=>rw[q]at e;cases e
 |some o=>
  rw[q]at e;have e':(b,o)=p:=Option.some.inj e;subst e';exact⟨hb,q⟩
theorem Inv.pinned{pins:aM}{σ:St}{H:Hp}{s:Sj}{fp:ap}(I:Inv X pins σ H s)(hf:∀b∈fp,oM X pins H b)(ho:∀b∈fp,∃o,s.heap.get? b=some o/\∀v,o.data≠.cell v):Inv X (pins++j8 fp s.heap) σ H s:=
 I.pins_of λp hp=>(List.mem_append.mp hp).elim (λz=>I.pin p (O0 _ z)) λz=>by
  obtain⟨hb,e⟩:=xq z;obtain⟨f0,f1,f2,_⟩:=hf p.1 hb;obtain⟨o,e',d⟩:=ho p.1 hb;rw[e]at e';cases e';exact⟨e,f0,f1,f2,d⟩
theorem Inv.unpinned{pins pl:aM}{σ:St}{H:Hp}{s:Sj}(I:Inv X (pins++pl) σ H s):Inv X pins σ H s:=I.pins_of λp hp=>I.pin p (O0 _ (OU _ hp))
theorem GO{iter:Sh}{body:cS}{wi:TI}{g:TG}{tb:TS}{pos:Pos}(hp:SK (model X.prog X.w) X.A X.env X.xe)(hc:X.calm=true)(hi:PI X tg iter wi)(hg:PG X tg g)(hb:pH X body tb)
  (hs:∀x,SU iter X.env x=pure x:=by intro _;rfl):PS X (.For tg iter body [] pos) (Ms wi g tb):=by
 intro pins s σ H D I h;refine wpAny_For (dj (hi pins s σ H _ I h) λv s1 h1=>dj h1 λitv s2 h2=>?_) hs;obtain⟨it,fp,tn,J,H2,e,I2,T,st2,f2,W,⟨m0,w0⟩,turn⟩:=h2;subst e;have stat:∀{H':Hp},(∀b∈fp,H' b=none)->∀b∈fp,oM X pins H' b:=λhn b hb=>⟨hn b hb,(f2 b hb).2⟩
 refine codeAny_forLoop_any (λn s'=>∃i σ' H',Inv X pins σ' H' s'/\tn i s'.heap/\(∀b∈fp,H' b=none)/\W i n σ' H') ?_ m0 ⟨0,σ,H2,I2,st2,λb hb=>(f2 b hb).1,w0⟩;rintro n s3 ⟨i,σ3,H3,I3,st3,fr3,w3⟩;rcases turn i n σ3 H3 w3 with⟨stop,qn⟩|⟨go,N,hN,step⟩
 ·refine SL hp (dj (T.done X rfl rfl rfl hc i pins s3 σ3 H3 X.xe I3 (stat fr3) st3 stop) λr s4 zq=>zq.elim λhr I4=>?_);subst hr;exact SG ⟨σ3,H3,I4,qn⟩
 ·refine SL hp (dj (T.item X rfl rfl rfl hc i pins s3 σ3 H3 X.xe I3 (stat fr3) st3 go) λr s4 zq=>zq.elim λu zq=>zq.elim λhr h4=>?_);subst hr;refine SL hp (dj h4 λ_ s5 zq=>zq.elim λx zq=>zq.elim λH5 zq=>zq.elim λI5 zq=>zq.elim λr5 zq=>zq.elim λy5 zq=>zq.elim λst5 fr5=>?_);have I5':=I5.pinned (stat fr5) (T.obj _ _ st5);refine SL hp (dj (hg _ s5 σ3 H5 x u _ I5' r5 (step x H5 y5)) λ_ s6 zq=>zq.elim λσ6 zq=>zq.elim λH6 zq=>zq.elim λI6 q6=>?_);refine SL hp (dj (hb _ s6 σ6 H6 _ I6 q6) λf s7 q7=>?_);have again:∀{σ7:St}{H7:Hp},Inv X (pins++j8 fp s5.heap) σ7 H7 s7->N σ7 H7->∃m,m<n/\∃i σ' H',Inv X pins σ' H' s7/\tn i s7.heap/\(∀b∈fp,H' b=none)/\W i m σ' H':=λ{σ7 H7} I7 n7=>by
   obtain⟨m',hm,w7⟩:=hN σ7 H7 n7;refine⟨m',hm,i+1,σ7,H7,I7.unpinned,T.keep _ _ _ st5 λb hb o e=>(I7.pin (b,o) (O0 _ (O0 _ (gC hb e)))).1,λb hb=>?_,w7⟩;obtain⟨o,e,d⟩:=T.obj _ _ st5 b hb;exact(I7.pin (b,o) (O0 _ (O0 _ (gC hb e)))).2.1
  cases f with
  |next=>obtain⟨σ7,H7,I7,n7⟩:=q7;exact again I7 n7
  |cont=>obtain⟨σ7,H7,I7,n7⟩:=q7;exact again I7 n7
  |brk=>obtain⟨σ7,H7,I7,q7⟩:=q7;exact⟨σ7,H7,I7.unpinned,q7⟩
  |ret v=>obtain⟨x7,σ7,H7,I7,r7,q7⟩:=q7;exact⟨x7,σ7,H7,I7.unpinned,r7,q7⟩
end
noncomputable abbrev R2:=V->V->Hp->VK->Prop
noncomputable def iZ(X:Cx)(f:Se->Se->Sem Se)(r:R2):Prop:=
 ∀(pins:aM)(s:Sj)(σ:St)(H:Hp)(x y:V)(v u:Se)(Q:VK),Inv X pins σ H s->RelV x v->RelV y u->r x y H Q->
  Sz (model X.prog X.w) X.A (f v u) (EP X pins σ Q) X.xe s
noncomputable def Mq(X:Cx)(f:Se->Sem Se)(r:V->Hp->VK->Prop):Prop:=
 ∀(pins:aM)(s:Sj)(σ:St)(H:Hp)(x:V)(v:Se)(Q:VK),Inv X pins σ H s->RelV x v->r x H Q->
  Sz (model X.prog X.w) X.A (f v) (EP X pins σ Q) X.xe s
noncomputable def fw(X:Cx)(f:Se)(r:ax->Hp->VK->Prop):Prop:=
 ∀(pins:aM)(s:Sj)(σ:St)(H:Hp)(xs:ax)(us:aP)(Q:VK),Inv X pins σ H s->Vals xs us->r xs H Q->
  Sz (model X.prog X.w) X.A (call f us) (EP X pins σ Q) X.xe s
noncomputable def MH(X:Cx)(r:V->Hp->(Bool->Hp->Prop)->Prop):Prop:=
 ∀(pins:aM)(s:Sj)(σ:St)(H:Hp)(x:V)(v:Se)(Q:Bool->Hp->Prop),Inv X pins σ H s->RelV x v->r x H Q->
  Sz (model X.prog X.w) X.A (truthy v) (TP X pins σ Q) X.xe s
noncomputable def IY(r:R2)(ta tb:TE):TE:=λσ H Q=>ta σ H λx H1=>tb σ H1 λy H2=>r x y H2 Q
noncomputable def Ng(r:V->Hp->VK->Prop)(ta:TE):TE:=λσ H Q=>ta σ H λx H1=>r x H1 Q
noncomputable def rI(C:Int->Int->Prop)(g:Int->Int->V):R2:=λx y H Q=>∃i j,x=.int i/\y=.int j/\C i j/\Q (g i j) H
noncomputable def D9(g:Int->Int->V):R2:=λx y H Q=>∃i j,x=.int i/\y=.int j/\Q (g i j) H
noncomputable def rU(g:Int->V):V->Hp->VK->Prop:=λx H Q=>∃i,x=.int i/\Q (g i) H
section
variable{X:Cx}{a b c:Sh}{ta tb tc:TE}{pos:Pos}
theorem Ih(ha:PE X a ta)(hb:PE X b tb){pins:aM}{s:Sj}{σ:St}{H:Hp}{R:V->V->Hp->Prop}(I:Inv X pins σ H s)
  (h:ta σ H λx H1=>tb σ H1 λy H2=>R x y H2) {Q:bf} {f:Se->Se->Sem Se}
  (hf:∀v u s2 x y H2,Inv X pins σ H2 s2->RelV x v->RelV y u->R x y H2->Sz (model X.prog X.w) X.A (f v u) Q X.xe s2):
  Sz (model X.prog X.w) X.A (eval a X.env) (λv s₁=>Sz (model X.prog X.w) X.A (eval b X.env) (λu s₂=>Sz (model X.prog X.w) X.A (f v u) Q X.xe s₂) X.xe s₁) X.xe s:=by
 refine dj (ha pins s σ H _ I h) λv s1 zq=>zq.elim λx zq=>zq.elim λH1 zq=>zq.elim λI1 zq=>zq.elim λr1 q1=>?_;refine dj (hb pins s1 σ H1 _ I1 q1) λu s2 zq=>zq.elim λy zq=>zq.elim λH2 zq=>zq.elim λI2 zq=>zq.elim λr2 q2=>?_;exact hf v u s2 x y H2 I2 r1 r2 q2
theorem JM{op:Operator}{r:R2}(ho:iZ X (SV op) r)(ha:PE X a ta)(hb:PE X b tb):PE X (.BinOp a op b pos) (IY r ta tb):=by
 intro pins s σ H Q I h;exact wpAny_BinOp (Ih ha hb I h λv u s2 x y H2 I2 rx ry q=>ho pins s2 σ H2 x y v u Q I2 rx ry q)
theorem Jv{op:UnaryOp}{r:V->Hp->VK->Prop}(ho:Mq X (unaryOp op) r)(ha:PE X a ta):PE X (.UnaryOp op a pos) (Ng r ta):=by
 intro pins s σ H Q I h;exact UnaryOp_ (dj (ha pins s σ H _ I h) λv s1 zq=>zq.elim λx zq=>zq.elim λH1 zq=>zq.elim λI1 zq=>zq.elim λr1 q1=>ho pins s1 σ H1 x v Q I1 r1 q1)
theorem KR{f:Se->Se->Sem Se}{C:Int->Int->Prop}{g:Int->Int->Int}
  (rule:∀(i j:Int)(t u:Tok)(s:Sj)(Q:bf)(E:bf),C i j->Q (.int (g i j) s.toks) {s with toks:=s.toks+1}->Sz (model X.prog X.w) X.A (f (.int i t) (.int j u)) Q E s):
  iZ X f (rI C λi j=>.int (g i j)):=by
 intro pins s σ H x y v u Q I rx ry h;obtain⟨i,j,rfl,rfl,hc,q⟩:=h;obtain⟨t,rfl⟩:=rx;obtain⟨t',rfl⟩:=ry;exact rule i j t t' s _ _ hc ⟨.int (g i j),H,I.tok _,⟨_,rfl⟩,q⟩
theorem Jd{f:Se->Se->Sem Se}{g:Int->Int->Int}
  (rule:∀(i j:Int)(t u:Tok)(s:Sj)(Q:bf)(E:bf),Q (.int (g i j) s.toks) {s with toks:=s.toks+1}->Sz (model X.prog X.w) X.A (f (.int i t) (.int j u)) Q E s):
  iZ X f (D9 λi j=>.int (g i j)):=by
 intro pins s σ H x y v u Q I rx ry h;obtain⟨i,j,rfl,rfl,q⟩:=h;obtain⟨t,rfl⟩:=rx;obtain⟨t',rfl⟩:=ry;exact rule i j t t' s _ _ ⟨.int (g i j),H,I.tok _,⟨_,rfl⟩,q⟩
theorem Jf{f:Se->Se->Sem Se}{g:Int->Int->Bool}
  (rule:∀(i j:Int)(t u:Tok)(s:Sj)(Q:bf)(E:bf),Q (.bool (g i j)) s->Sz (model X.prog X.w) X.A (f (.int i t) (.int j u)) Q E s):
  iZ X f (D9 λi j=>.bl (g i j)):=by
 intro pins s σ H x y v u Q I rx ry h;obtain⟨i,j,rfl,rfl,q⟩:=h;obtain⟨t,rfl⟩:=rx;obtain⟨t',rfl⟩:=ry;exact rule i j t t' s _ _ ⟨.bl (g i j),H,I,rfl,q⟩
noncomputable def J4(i j:Int):Prop:=0<=j/\j<=1000000/\i.natAbs<2^64
noncomputable def Hu(i j:Int):Prop:=(-(2^64)<i/\i<2^64)\/(-(2^64)<j/\j<2^64)
theorem Hu.ok{i j:Int}(h:Hu i j):IntMulOk i j:=by
 rcases h with⟨h1,h2⟩|⟨h1,h2⟩
 ·exact .of_left (intBits_le_64 h1 h2)
 ·exact .of_right (intBits_le_64 h1 h2)
theorem Hf:iZ X (SV .Add) (D9 λi j=>.int (i+j)):=Jd λ_ _ _ _ _ _ _ q=>add_int q
theorem GZ:iZ X (SV .Sub) (D9 λi j=>.int (i-j)):=Jd λ_ _ _ _ _ _ _ q=>sub_int q
theorem HS:iZ X (SV .Mult) (rI Hu λi j=>.int (i*j)):=KR λ_ _ _ _ _ _ _ hc q=>mul_int q hc.ok
theorem HP:iZ X (SV .Mod) (rI (λ_ j=>0<j) λi j=>.int (i%j)):=KR λi j _ _ _ _ _ hc q=>by
 have h1:(0:Int)<j:=hc;exact mod_int' ‹0› (by rw[Int.fmod_eq_emod_of_nonneg i ‹0›];exact q)
theorem Ha:iZ X (SV .Pow) (rI J4 λi j=>.int (i^j.toNat)):=KR λ_ _ _ _ _ _ _ hc q=>pow_int_small hc.1 hc.2.1 hc.2.2 q
theorem Oc{f:Se->Sem Se}{g:Int->Int}
  (rule:∀(i:Int)(t:Tok)(s:Sj)(Q:bf)(E:bf),Q (.int (g i) s.toks) {s with toks:=s.toks+1}->Sz (model X.prog X.w) X.A (f (.int i t)) Q E s):
  Mq X f (rU λi=>.int (g i)):=by
 intro pins s σ H x v Q I rx h;obtain⟨i,rfl,q⟩:=h;obtain⟨t,rfl⟩:=rx;exact rule i t s _ _ ⟨.int (g i),H,I.tok _,⟨_,rfl⟩,q⟩
theorem Hg:Mq X (unaryOp .USub) (rU λi=>.int (-i)):=Oc λ_ _ _ _ _ q=>neg_int q
end
section
variable{X:Cx}{a b c:Sh}{ta tb tc:TE}{pos:Pos}
theorem B2{pins:aM}{σ:St}{H:Hp}{s:Sj}{Q:VK}{k k':Bool}(I:Inv X pins σ H s)(q:Q (.bl k) H)(e:k=k'):EP X pins σ Q (.bool k') s:=by
 subst e;exact⟨.bl k,H,I,rfl,q⟩
theorem JS:iZ X (SW .Lt) (D9 λi j=>.bl (decide (i<j))):=Jf λ_ _ _ _ _ _ _ q=>lt_int q
theorem qH:iZ X (SW .LtE) (D9 λi j=>.bl (decide (i<=j))):=Jf λ_ _ _ _ _ _ _ q=>le_int q
theorem y8:iZ X (SW .Lt) (λx y H Q=>∃i j,x=.str i/\y=.str j/\Q (.bl (decide (i.cps.toList<j.cps.toList))) H):=by
 intro pins s σ H x y v u Q I rx ry h;obtain⟨i,j,rfl,rfl,q⟩:=h;obtain⟨t,rfl⟩:=rx;obtain⟨t',rfl⟩:=ry;exact lt_str (B2 I q rfl)
theorem jA(b:Sh){op:SY}(h:op≠.In:=by decide)(h2:op≠.NotIn:=by decide):SZ op b=false:=by
 have e1:(op==CmpOp.In)=false:=by cases op<;>first|rfl|exact absurd rfl h
 have e2:(op==CmpOp.NotIn)=false:=by cases op<;>first|rfl|exact absurd rfl h2
 cases b<;>simp[SZ,e1,e2]
theorem v7{op:SY}{r:R2}(ho:iZ X (SW op) r)(ha:PE X a ta)(hb:PE X b tb)(hm:SZ op b=false):PE X (.Compare a [op] [b] pos) (IY r ta tb):=by
 intro pins s σ H Q I h;exact wpAny_Compare1 (Ih ha hb I h λv u s2 x y H2 I2 rx ry q=>ho pins s2 σ H2 x y v u Q I2 rx ry q) hm
noncomputable def BO(t:TE):TT:=λσ H Q=>t σ H λx H'=>∃k,x=.bl k/\Q k H'
theorem wW{op:SY}{r:R2}(ho:iZ X (SW op) r)(ha:PE X a ta)(hb:PE X b tb)(hm:SZ op b=false):PT X (.Compare a [op] [b] pos) (BO (IY r ta tb)):=by
 intro pins s σ H Q I h;refine wpAny_isTrue_Compare1 (dj (ha pins s σ H _ I h) λv s1 zq=>zq.elim λx zq=>zq.elim λH1 zq=>zq.elim λI1 zq=>zq.elim λr1 q1=>dj (hb pins s1 σ H1 _ I1 q1) λu s2 zq=>zq.elim λy zq=>zq.elim λH2 zq=>zq.elim λI2 zq=>zq.elim λr2 q2=>
  dj (ho pins s2 σ H2 x y v u _ I2 r1 r2 q2) λc s3 zq=>zq.elim λz zq=>zq.elim λH3 zq=>zq.elim λI3 zq=>zq.elim λr3 zq=>zq.elim λk zq=>zq.elim λe q3=>?_) hm
 subst e;cases r3;exact SF ⟨H3,I3,q3⟩
noncomputable def vq(r r':R2)(ta tb tc:TE):TE:=λσ H Q=>ta σ H λx H1=>tb σ H1 λy H2=>r x y H2 λz H3=>∃k,z=.bl k/\
 (if k=true then tc σ H3 λw' H4=>r' y w' H4 Q else Q (.bl false) H3)
theorem zH{op op':SY}{r r':R2}(ho:iZ X (SW op) r)(ho':iZ X (SW op') r')(ha:PE X a ta)(hb:PE X b tb)(hc:PE X c tc)
  (hm:lastMarks [op,op'] [b,c]=false:=by with_unfolding_all rfl):PE X (.Compare a [op,op'] [b,c] pos) (vq r r' ta tb tc):=by
 intro pins s σ H Q I h;refine Compare_chain (dj (ha pins s σ H _ I h) λv s1 zq=>zq.elim λx zq=>zq.elim λH1 zq=>zq.elim λI1 zq=>zq.elim λr1 q1=>chain_link (dj (hb pins s1 σ H1 _ I1 q1) λu s2 zq=>zq.elim λy zq=>zq.elim λH2 zq=>zq.elim λI2 zq=>zq.elim λr2 q2=>
  dj (ho pins s2 σ H2 x y v u _ I2 r1 r2 q2) λd s3 zq=>zq.elim λz zq=>zq.elim λH3 zq=>zq.elim λI3 zq=>zq.elim λr3 zq=>zq.elim λk zq=>zq.elim λe q3=>?_)) hm
 subst e;cases r3;refine SF ?_;cases k with
 |false=>exact ite_ff ⟨.bl false,H3,I3,rfl,q3⟩
 |true=>exact ite_tt (chain_last (dj (hc pins s3 σ H3 _ I3 q3) λw' s4 zq=>zq.elim λz' zq=>zq.elim λH4 zq=>zq.elim λI4 zq=>zq.elim λr4 q4=>ho' pins s4 σ H4 y z' u w' Q I4 r2 r4 q4))
theorem Ah{op op':SY}{r r':R2}(ho:iZ X (SW op) r)(ho':iZ X (SW op') r')(ha:PE X a ta)(hb:PE X b tb)(hc:PE X c tc)
  (hm:lastMarks [op,op'] [b,c]=false:=by with_unfolding_all rfl):PT X (.Compare a [op,op'] [b,c] pos) (BO (vq r r' ta tb tc)):=by
 intro pins s σ H Q I h;refine isTrue_chain (dj (ha pins s σ H _ I h) λv s1 zq=>zq.elim λx zq=>zq.elim λH1 zq=>zq.elim λI1 zq=>zq.elim λr1 q1=>test_link (dj (hb pins s1 σ H1 _ I1 q1) λu s2 zq=>zq.elim λy zq=>zq.elim λH2 zq=>zq.elim λI2 zq=>zq.elim λr2 q2=>
  dj (ho pins s2 σ H2 x y v u _ I2 r1 r2 q2) λd s3 zq=>zq.elim λz zq=>zq.elim λH3 zq=>zq.elim λI3 zq=>zq.elim λr3 zq=>zq.elim λk zq=>zq.elim λe q3=>?_)) hm
 subst e;cases r3;refine SF ?_;cases k with
 |false=>
  obtain⟨k',e',q'⟩:=q3;cases e';exact ite_ff ⟨H3,I3,q'⟩
 |true=>
  refine ite_tt (test_last (dj (hc pins s3 σ H3 _ I3 q3) λw' s4 zq=>zq.elim λz' zq=>zq.elim λH4 zq=>zq.elim λI4 zq=>zq.elim λr4 q4=>dj (ho' pins s4 σ H4 y z' u w' _ I4 r2 r4 q4) λd' s5 zq=>zq.elim λz2 zq=>zq.elim λH5 zq=>zq.elim λI5 zq=>zq.elim λr5 zq=>zq.elim λk2 zq=>zq.elim λe2 q5=>?_));subst e2;cases r5;exact SF ⟨H5,I5,q5⟩
noncomputable def Jr(K:QR)(x:V)(H:Hp)(k:Bool):Prop:=
 match x with
 |.non=>k=false
 |.bl b=>k=b
 |.int i=>k=(i !=0)
 |.str y=>y.length<=Ss/\k=((y.length:Int) !=0)
 |.byt y=>y.size<=Ss/\k=((y.size:Int) !=0)
 |.ref p=>(∃xs,kg K H p xs/\k=!xs.isEmpty)\/(∃xs,lN K H p xs/\k=!xs.isEmpty)\/∃kvs,H p=some (.dK kvs)/\k=!kvs.isEmpty
 |_=>False
theorem vm{κ:Type}{kvs:List (κ×V)}{vs:List (κ×Se)}(r:KV kvs vs):(!vs.isEmpty)=!kvs.isEmpty:=by
 cases r<;>rfl
theorem oj{xs:ax}{its:aP}(r:Vals xs its):(!its.toArray.isEmpty)=!xs.isEmpty:=by
 cases r<;>simp
theorem mD:(Ss:Nat)<2^63:=by rw[S5];decide
theorem G8:MH X (λx H Q=>∃k,Jr X.K x H k/\Q k H):=by
 intro pins s σ H x v Q I rx h;obtain⟨k,e,q⟩:=h;have hl:=mD;have hs:Ss=16777216:=S5;cases x with
 |non=>
  cases rx;have e':k=false:=e;subst e';exact truthy_none ⟨H,I,q⟩
 |bl b=>
  cases rx;have e':k=b:=e;subst e';exact SF ⟨H,I,q⟩
 |int i=>
  obtain⟨t,rfl⟩:=rx;have e':k=(i !=0):=e;subst e';exact PySem.P.truthy_int ⟨H,I,q⟩
 |str y=>
  obtain⟨t,rfl⟩:=rx;obtain⟨hy,e'⟩:y.length<=Ss/\k=((y.length:Int) !=0):=e;subst e';exact PySem.P.truthy_str ‹0› ⟨H,I.tok _,q⟩
 |byt y=>
  obtain⟨t,rfl⟩:=rx;obtain⟨hy,e'⟩:y.size<=Ss/\k=((y.size:Int) !=0):=e;subst e';exact PySem.W.truthy_bytes ‹0› ⟨H,I.tok _,q⟩
 |ref p=>
  cases rx;have e':(∃xs,kg X.K H p xs/\k=!xs.isEmpty)\/(∃xs,lN X.K H p xs/\k=!xs.isEmpty)\/∃kvs,H p=some (.dK kvs)/\k=!kvs.isEmpty:=e;rcases e' with⟨xs,hx,e'⟩|⟨xs,hx,e'⟩|⟨kvs,hx,e'⟩
  ·subst e';obtain⟨its,r,pl,hz⟩:=I.list hx;have hlen:=r.length;exact wpAny_truthy_list pl.isList (by simp only[O2];omega) ⟨H,I.tok _,by rw[oj r];exact q⟩
  ·subst e';obtain⟨its,r,pl,hz⟩:=I.tuple hx;have hlen:=r.length;exact truthy_tuple pl (by simp only[O2];omega) ⟨H,I.tok _,by rw[oj r];exact q⟩
  ·subst e';obtain⟨hz,hS,vs,r,m⟩:kvs.length<=Ss/\(p==sysModules)=false/\∃vs,KV kvs vs/\s.heap.DictOf (fX X.prog X.w) p vs:=I.hok p _ hx;have hlen:kvs.length=vs.length:=Paired.length r;exact wpAny_truthy_dict hS m ‹0› ⟨H,I.tok _,by rw[vm r];exact q⟩
 |_=>exact(show False from e).elim
theorem Cw(ha:PE X a ta)(he:∀whole,isTrue a X.env whole=(do let v<-whole;standAt a.pos;holding [v] (truthy v))):
  PT X a (λσ H Q=>ta σ H λx H'=>∃k,Jr X.K x H' k/\Q k H'):=by
 intro pins s σ H Q I h;exact isTrue_plain (dj (ha pins s σ H _ I h) λv s1 zq=>zq.elim λx zq=>zq.elim λH1 zq=>zq.elim λI1 zq=>zq.elim λr1 q1=>G8 pins s1 σ H1 x v Q I1 r1 q1) (he _)
theorem vw:iZ X (SV .Add) (λx y H Q=>∃i j,x=.str i/\y=.str j/\i.length+j.length<=Ss/\Q (.str (i++j)) H):=by
 intro pins s σ H x y v u Q I rx ry h;obtain⟨i,j,rfl,rfl,hz,q⟩:=h;obtain⟨t,rfl⟩:=rx;obtain⟨t',rfl⟩:=ry;exact add_str (λt' tk=>⟨.str (i++j),H,I.tok _,⟨_,rfl⟩,q⟩) hz
theorem vals1{x:V}{us:aP}(r:Vals [x] us):∃u,us=[u]/\RelV x u:=by
 cases r with
 |cons r1 r2=>cases r2;exact⟨_,rfl,r1⟩
theorem vals2{x y:V}{us:aP}(r:Vals [x,y] us):∃u w',us=[u,w']/\RelV x u/\RelV y w':=by
 cases r with
 |cons r1 r2=>
  cases r2 with
  |cons r3 r4=>cases r4;exact⟨_,_,rfl,r1,r3⟩
theorem xG(hc:X.calm=true):fw X (.builtin "max") (λxs H Q=>∃i j,xs=[.int i,.int j]/\Q (.int (if j>i then j else i)) H):=by
 intro pins s σ H xs us Q I r h;obtain⟨i,j,rfl,q⟩:=h;obtain⟨u,w',rfl,⟨t,rfl⟩,⟨t',rfl⟩⟩:=vals2 r;refine max_two_ints (I.ok.hd hc) λh' tk k=>⟨_,H,I.kept k,?_,q⟩
 by_cases hj:j>i
 ·rw[if_pos hj,if_pos hj];exact⟨_,rfl⟩
 ·rw[if_neg hj,if_neg hj];exact⟨_,rfl⟩
theorem yf(hc:X.calm=true):fw X (.builtin "min") (λxs H Q=>∃i j,xs=[.int i,.int j]/\Q (.int (if j<i then j else i)) H):=by
 intro pins s σ H xs us Q I r h;obtain⟨i,j,rfl,q⟩:=h;obtain⟨u,w',rfl,⟨t,rfl⟩,⟨t',rfl⟩⟩:=vals2 r;refine min_two_ints (I.ok.hd hc) λh' tk k=>⟨_,H,I.kept k,?_,q⟩
 by_cases hj:j<i
 ·rw[if_pos hj,if_pos hj];exact⟨_,rfl⟩
 ·rw[if_neg hj,if_neg hj];exact⟨_,rfl⟩
theorem ro:fw X (.type "str") (λxs H Q=>∃i,xs=[.int i]/\i.natAbs.log2<1920/\Q (.str (toString i)) H):=by
 intro pins s σ H xs us Q I r h;obtain⟨i,rfl,hz,q⟩:=h;obtain⟨u,rfl,t,rfl⟩:=vals1 r;exact PySem.P.str_of_int hz ⟨.str _,H,I.tok _,⟨_,rfl⟩,q⟩
end
structure xV(h:Sr)(x dx C:Sg)(mA:bg):Prop where
 obj:h.get? x=some (QP C dx)
 ns:h.Ns1 dx mA
 ne:dx≠x
theorem yz{h:Sr}{dx:Sg}{mA:bg}(n:h.Ns1 dx mA):∃od,h.get? dx=some od/\∀name,QS name od=some (mA name):=by
 obtain⟨o,es,ep,ho,hd,hk,_,hm⟩:=n;refine⟨o,ho,λname=>?_⟩;have e:=hm name;unfold nsFind findBy at e;rw[<-Array.find?_toList]at e;unfold QS;rw[hd];dsimp only;split
 ·rename_i y q;rw[q]at e;exact congrArg some e
 ·rename_i q;rw[q]at e;have a:es.toList.any (·.refKey)=false:=by
   rw[List.any_eq_false];intro y hy;obtain⟨z,t,hkey⟩:=hk y (Array.mem_toList_iff.mp hy);simp[DictEntry.refKey,hkey]
  have a':¬es.toList.any (·.refKey)=true:=by rw[a];exact OX
  rw[if_neg a'];exact congrArg some e
theorem xV.look{h:Sr}{x dx C:Sg}{mA:bg}(I:xV h x dx C mA):∃od,PySem.W.InstAt h x (QP C dx) C (some od)/\∀name,QS name od=some (mA name):=
 let ⟨od,ho,hl⟩:=yz I.ns
 ⟨od,⟨I.obj,rfl,rfl,ho⟩,hl⟩
section
variable{prog:Sn}{w:Sl}{A:Sw}{E:bf}{s:Sj}{K:QR}{x dx C f:Sg}{mA:bg}{name:Str}{v:Se}
theorem DJ{expr:Bool}{Q:bf}(X:K.In s.heap)(I:xV s.heap x dx C mA)(hg:QT K C name=true)(hh:QU K C=true)
  (ha:QV K (.ref C) name=some none) (hv:mA name=some v) (hv':QW v=true) (h:Q v {s with toks:=s.toks+1}):
  Sz (model prog w) A (getAttr (.ref x) name expr) Q E s:=by
 obtain⟨od,J,hl⟩:=I.look;exact PySem.W.get_value X J (QX hg).1 (PySem.W.findObj_own hh ha rfl (by rw[hl,hv])) hv' h
theorem Cb{pl:Sem Bool}{Q:Se×List Se->iH}(X:K.In s.heap)(I:xV s.heap x dx C mA)(hg:QT K C name=true)
  (hf:QV K (.ref C) name=some (some (.ref f))) (ht:QY K (.ref f)=true) (hv:mA name=none) (h:Q (.ref f,[.ref x]) s):
  Sz (model prog w) A (getMethod (.ref x) name pl) Q E s:=by
 obtain⟨od,J,hl⟩:=I.look;exact PySem.W.method_fn X J (QX hg).1 (QX hg).2 hf (beq_iff_eq.mp ht) (by show(QS name od).map (·.isSome)=some false;rw[hl,hv];rfl) h
theorem Ey{ns:ah}{Q:Unit->iH}(X:K.In s.heap)(I:xV s.heap x dx C mA)
  (hs:QV K (.ref C) "__setattr__"=some (some (.builtin "object.__setattr__"))) (hp:QZ K C=true) (ht:Ra K C name=some none) (hh:QU K C=true)
  (hw:PySem.Within mA ns) (hsz:ns.length<=Ss)
  (h:∀h',xV h' x dx C (λy=>if y=name then some v else mA y)->RO dx s.heap h'->Q () {s with heap:=h',toks:=s.toks+2}):
  Sz (model prog w) A (setAttr (.ref x) name v) Q E s:=by
 obtain⟨od,J,hl⟩:=I.look;refine PySem.W.set_plain X J hs (PySem.W.osa_open (s:={s with toks:=s.toks+1}) (r:=none) X J hp ht λb=>?_);obtain⟨cd,hc,hd'⟩:=Rb hh;have hx:s.heap.get? x=some ⟨.ref C,some dx,.plain,#[]⟩:=I.obj;refine SN (SM (SN (SN (wpAny_loadPart hx (SN (PySem.W.Looks.here (s:={s with toks:=s.toks+1}) (PySem.W.looks_clsIn X hc) ?_))))));rw[hd'];refine SM (a:=some dx) (SN (SM (SN ?_)));refine wpAny_nsSet1 (s:={s with toks:=s.toks+1}) I.ns λh' hn2 hs2=>?_;obtain⟨oD,esD,epD,hoD,hdD,hcD⟩:=hn2.count (PySem.Within.cons name v hw);refine SN (wpAny_lookBehind hoD (by rw[hdD];exact pastItsLine_dict (OM hcD (by rw[O3];omega))) ?_);exact SM (h _ ⟨(hs2.2 _ (Ne.symm I.ne)).trans I.obj,hn2,I.ne⟩ hs2)
theorem BF{R:S6->iH}{vs:aP}{kw:List (Str×Se)}(X:K.In s.heap)(hm:Rc K C=true)
  (hi:QV K (.ref C) "__init__"=some (some (.ref f))) (hf:Rf K (.ref f)=some (.type "function"))
  (h:S8 (model prog w) (A.under (.builtin "type.__call__" ⟨.ref C::vs,kw⟩)) (.call (.ref f) ⟨.ref (s.heap.objs.size+1)::vs,kw⟩) (Rg (s.heap.objs.size+1) R)
   {s with heap:=(s.heap.push Rh).push (QP C s.heap.objs.size)}):
  S8 (model prog w) A (.call (.ref C) ⟨vs,kw⟩) R s:=by
 obtain⟨hh,g,d,t,os⟩:=s;exact Ri (Rj X hm) (Rk X hi) (λself=>PySem.W.bind_fn X self hf) (.inl rfl) h
theorem yq{R:S6->iH}(X:K.In s.heap)(hm:Rc K C=true)
  (hi:QV K (.ref C) "__init__"=some (some (.builtin "object.__init__")))
  (hb:∀self,Rl (model prog w) s.heap (bindSpecial (.builtin "object.__init__") self) (.builtin "object.__init__",[self]))
  (h:S8 (model prog w) (A.under (.builtin "type.__call__" ⟨[.ref C],[]⟩)) (.call (.builtin "object.__init__") ⟨[.ref (s.heap.objs.size+1)],[]⟩) (Rg (s.heap.objs.size+1) R)
   {s with heap:=(s.heap.push Rh).push (QP C s.heap.objs.size)}):
  S8 (model prog w) A (.call (.ref C) ⟨[],[]⟩) R s:=by
 obtain⟨hh,g,d,t,os⟩:=s;exact Ri (Rj X hm) (Rk X hi) hb (.inr ⟨rfl,rfl⟩) h
end
noncomputable def iX(f:Str)(v:V):List (Str×V)->List (Str×V)
 |[]=>[(f,v)]
 |(g,x)::r=>if g=f then(g,v)::r else(g,x)::iX f v r
theorem mP(f g:Str)(v:V):∀fs:List (Str×V),(iX f v fs).lookup g=if g=f then some v else fs.lookup g
 |[]=>by
  show List.lookup g [(f,v)]=_;by_cases h:g=f
  ·have hb:(g==f)=true:=beq_iff_eq.mpr h;simp only[List.lookup,hb,if_pos h]
  ·have hb:(g==f)=false:=beq_eq_false_iff_ne.mpr h;simp only[List.lookup,hb,if_neg h]
 |(k,x)::r=>by
  have ih:=mP f g v r;rw[show iX f v ((k,x)::r)=(if k=f then(k,v)::r else(k,x)::iX f v r)from rfl];by_cases hk:k=f
  ·rw[if_pos hk];by_cases h:g=k
   ·have hb:(g==k)=true:=beq_iff_eq.mpr h;simp only[List.lookup,hb,if_pos (h.trans hk)]
   ·have hb:(g==k)=false:=beq_eq_false_iff_ne.mpr h;simp only[List.lookup,hb,if_neg (λe:g=f=>h (e.trans hk.symm))]
  ·rw[if_neg hk];by_cases h:g=k
   ·have hb:(g==k)=true:=beq_iff_eq.mpr h;simp only[List.lookup,hb,if_neg (λe:g=f=>hk (h.symm.trans e))]
   ·have hb:(g==k)=false:=beq_eq_false_iff_ne.mpr h;simp only[List.lookup,hb];exact ih
theorem lS(f:Str)(v:V):∀fs:List (Str×V),f∈(iX f v fs).map (·.1)/\∀g,g∈fs.map (·.1)->g∈(iX f v fs).map (·.1)
 |[]=>⟨by simp[iX],λg h=>by simp at h⟩
 |(k,x)::r=>by
  obtain⟨i1,i2⟩:=lS f v r;rw[show iX f v ((k,x)::r)=(if k=f then(k,v)::r else(k,x)::iX f v r)from rfl];by_cases hk:k=f
  ·rw[if_pos hk];subst hk;exact⟨by simp,λg h=>by simpa using h⟩
  ·rw[if_neg hk];refine⟨?_,λg h=>?_⟩
   ·rw[O5];exact OT _ i1
   ·rw[O5]at h ⊢;rcases List.mem_cons.mp h with e|e
    ·exact List.mem_cons.mpr (.inl e)
    ·exact OT _ (i2 g e)
theorem mK(f:Str)(v:V):∀fs:List (Str×V),(iX f v fs).length<=fs.length+1
 |[]=>by simp[iX]
 |(k,x)::r=>by
  have ih:=mK f v r;rw[show iX f v ((k,x)::r)=(if k=f then(k,v)::r else(k,x)::iX f v r)from rfl];by_cases hk:k=f
  ·rw[if_pos hk,O3,O3];omega
  ·rw[if_neg hk,O3,O3];omega
theorem yW.some_of{v:V}{o:Option Se}(r:yW (some v) o):∃u,o=some u/\RelV v u:=by
 cases o with
 |none=>exact(show False from r).elim
 |some u=>exact⟨u,rfl,r⟩
theorem yW.none_of{o:Option Se}(r:yW none o):o=none:=by
 cases o with
 |none=>rfl
 |some u=>exact(show False from r).elim
theorem yU{v:V}{u:Se}(r:RelV v u):QW u=true:=by
 cases v with
 |non=>cases(show u=Value.none from r);rfl
 |bl b=>cases(show u=Value.bool b from r);rfl
 |int i=>obtain⟨t,e⟩:=(show∃t,u=Value.int i t from r);cases e;rfl
 |str x=>obtain⟨t,e⟩:=(show∃t,u=Value.str x t from r);cases e;rfl
 |byt b=>obtain⟨t,e⟩:=(show∃t,u=Value.bytes b t from r);cases e;rfl
 |flt b=>obtain⟨t,e⟩:=(show∃t,u=Value.float b t from r);cases e;rfl
 |ref a=>cases(show u=Value.ref a from r);rfl
 |ty n=>cases(show u=Value.type n from r);rfl
section
variable{P:Sn}{w:Sl}{H H':Hp}{h h':Sr}{a C dx:Sg}{fs fs':List (Str×V)}
theorem nK(hok:pQ P w H h)(e:H a=some (.ins C dx fs)):∃mA,xV h a dx C mA/\(∀f,yW (fs.lookup f) (mA f))/\PySem.Within mA (fs.map (·.1))/\fs.length<=1000/\H dx=some (.own a):=by
 obtain⟨d,z,ne,ob,mA,n,r,q⟩:=(show gE P w H h a (.ins C dx fs)from hok a _ e)
 exact⟨mA,⟨ob,n,ne⟩,r,q,z,d⟩
end
structure ik(K:QR)(C:Sg):Prop where
 pg:QT K C Str.empty=true
 hd:QU K C=true
 po:QZ K C=true
 sa:QV K (.ref C) "__setattr__"=some (some (.builtin "object.__setattr__"))
theorem ik.get{K:QR}{C:Sg}(c:ik K C)(f:Str):QT K C f=true:=c.pg
noncomputable def dR(K:QR)(C:Sg)(f:Str):Prop:=QV K (.ref C) f=some none
theorem dR.taker{K:QR}{C:Sg}{f:Str}(n:dR K C f):Ra K C f=some none:=by
 unfold Ra;rw[show QV K (.ref C) f=some none from n];rfl
structure Meth(K:QR)(C:Sg)(m:Str)(f:Sg):Prop where
 at_:QV K (.ref C) m=some (some (.ref f))
 fn:QY K (.ref f)=true
 kp:Rm K (.ref f)=true
section
variable{X:Cx}{pins:aM}{σ:St}{H:Hp}{s:Sj}{a C dx:Sg}{fs:List (Str×V)}{f:Str}{v:V}{A:Sw}{E:bf}
theorem vn{b:Bool}{Q:bf}(I:Inv X pins σ H s)(e:H a=some (.ins C dx fs))(c:ik X.K C)(n:dR X.K C f)(l:fs.lookup f=some v)
  (h:∀u s',Inv X pins σ H s'->RelV v u->Q u s'):Sz (model X.prog X.w) A (getAttr (.ref a) f b) Q E s:=by
 obtain⟨mA,O,r,_,_,_⟩:=nK I.hok e;obtain⟨u,hu,ru⟩:=yW.some_of (v:=v) (o:=mA f) (by rw[<-l];exact r f);exact DJ I.kIn O (c.get f) c.hd n hu (yU ru) (h u _ (I.tok _) ru)
theorem uK{m:Str}{g:Sg}{pl:Sem Bool}{Q:Se×List Se->iH}(I:Inv X pins σ H s)(e:H a=some (.ins C dx fs))(c:ik X.K C)(k:Meth X.K C m g)(l:fs.lookup m=none)
  (h:Q (.ref g,[.ref a]) s):Sz (model X.prog X.w) A (getMethod (.ref a) m pl) Q E s:=by
 obtain⟨mA,O,r,_,_,_⟩:=nK I.hok e;have hn:mA m=none:=yW.none_of (by rw[<-l];exact r m);exact Cb I.kIn O (c.get m) k.at_ k.fn hn h
theorem vy{y:V}{u:Se}{Q:Unit->iH}(I:Inv X pins σ H s)(e:H a=some (.ins C dx fs))(c:ik X.K C)(n:dR X.K C f)(hl:fs.length<1000)(ry:RelV y u)
  (h:∀s',Inv X pins σ (upd H a (.ins C dx (iX f y fs))) s'->Q () s'):Sz (model X.prog X.w) A (setAttr (.ref a) f u) Q E s:=by
 obtain⟨mA,O,r,wi,_,ho⟩:=nK I.hok e;have hz:(fs.map (·.1)).length<=Ss:=by rw[O6,S5];omega
 refine Ey I.kIn O c.sa c.po n.taker c.hd wi hz λh' O' sb=>h _ ?_;have hd:∃o,h'.get? dx=some o:=let ⟨o,_,_,e',_⟩:=O'.ns;⟨o,e'⟩
 refine I.write (x:=a) (e:=dx) (by rw[e];exact True.intro) (.inr ho) (λb q hb z=>(sb.2 b hb).trans z) hd ?_;refine⟨by rw[av O.ne];exact ho,?_,O.ne,O'.obj,_,O'.ns,λg=>?_,λg hg=>?_⟩
 ·have:=mK f y fs;omega
 ·show yW ((iX f y fs).lookup g) (if g=f then some u else mA g);rw[mP];by_cases q:g=f
  ·rw[if_pos q,if_pos q];exact ry
  ·rw[if_neg q,if_neg q];exact r g
 ·by_cases q:g=f
  ·rw[q];exact(lS f y fs).1
  ·refine(lS f y fs).2 g (wi g λz=>hg ?_);show(if g=f then some u else mA g)=none;rw[if_neg q];exact z
theorem Inv.made(I:Inv X pins σ H s):Inv X pins σ (upd (upd H s.heap.objs.size (.own (s.heap.objs.size+1))) (s.heap.objs.size+1) (.ins C s.heap.objs.size []))
  {s with heap:=(s.heap.push Rh).push (QP C s.heap.objs.size)}:=by
 have e1:(s.heap.push Rh).get? s.heap.objs.size=some Rh:=RM s.heap rfl;have e2:((s.heap.push Rh).push (QP C s.heap.objs.size)).get? (s.heap.objs.size+1)=some (QP C s.heap.objs.size):=by
  have:=RM (s.heap.push Rh) (o:=QP C s.heap.objs.size) rfl
  rwa [RQ]at this
 have e3:(s.heap.push Rh).Ns s.heap.objs.size (λ_=>none):=⟨Rh,#[],_,e1,rfl,(λe he=>absurd he (by simp)),λ_=>rfl⟩
 have I1:=I.laid (a:=s.heap.objs.size) (o:=.own (s.heap.objs.size+1)) (h':=s.heap.push Rh) (t':=s.toks) (λb u q=>RP _ q) (OZ _) ⟨_,e1⟩;refine I1.laid (a:=s.heap.objs.size+1) (o:=.ins C s.heap.objs.size []) (t':=s.toks) (λb u q=>RP _ q) (O7 (RQ _ _)) ?_;have ne:s.heap.objs.size≠s.heap.objs.size+1:=OL (O8 _);refine⟨by rw[av ne,aT],O9 _,ne,e2,λ_=>none,(Heap.Ns1.of_empty e3).at λo q=>RP _ q,λ_=>True.intro,λy hy=>absurd rfl hy⟩
theorem Dr{prog:Sn}{w:Sl}{env:Env}{e:Sh}{f:Str}{pos:Pos}{s:Sj}{Q:bf}(hb:S9 e f env (eval e env)=eval e env)
  (h:Sz (model prog w) A (eval e env) (λo s₁=>Sz (model prog w) A (getAttr o f true) Q E s₁) E s):Sz (model prog w) A (eval (.Attribute e f pos) env) Q E s:=
 Attribute_any_ h (by rw[arm_eval_Attribute,hb])
end
noncomputable def MB(K:QR)(ta:TE)(f:Str):TE:=λσ H Q=>ta σ H λx H1=>∃a C dx fs v,x=.ref a/\H1 a=some (.ins C dx fs)/\ik K C/\dR K C f/\fs.lookup f=some v/\Q v H1
noncomputable def MX(K:QR)(ta tv:TE)(f:Str):TS:=λD σ H=>tv σ H λy H1=>ta σ H1 λx H2=>∃a C dx fs,x=.ref a/\H2 a=some (.ins C dx fs)/\ik K C/\dR K C f/\fs.length<1000/\
 D.nx σ (upd H2 a (.ins C dx (iX f y fs)))
section
variable{X:Cx}{o e value:Sh}{f:Str}{pos pos' tpos:Pos}{ta tv:TE}
theorem GH(he:PE X e ta)(hb:S9 e f X.env (eval e X.env)=eval e X.env):PE X (.Attribute e f pos) (MB X.K ta f):=by
 intro pins s σ H Q I h;refine Dr hb (dj (he pins s σ H _ I h) λu s1 zq=>zq.elim λx zq=>zq.elim λH1 zq=>zq.elim λI1 zq=>zq.elim λrx zq=>zq.elim λa zq=>zq.elim λC zq=>zq.elim λdx zq=>zq.elim λfs zq=>zq.elim λv zq=>zq.elim λex zq=>zq.elim λea zq=>zq.elim λc zq=>zq.elim λn zq=>zq.elim λl q=>?_);subst ex;obtain rfl:u=Value.ref a:=rx;exact vn I1 ea c n l λu' s2 I2 ru=>⟨v,H1,I2,ru,q⟩
theorem zB(ha:PE X o ta)(hv:PE X value tv)(hs:swapsWith value (some (.Attribute o f pos')) pos.line X.env=pure false):PS X (.Assign [.Attribute o f pos'] value pos) (MX X.K ta tv f):=by
 intro pins s σ H D I h;refine plainObj_wpAny_Assign_Attribute (dj (hv pins s σ H _ I h) λu s1 zq=>zq.elim λy zq=>zq.elim λH1 zq=>zq.elim λI1 zq=>zq.elim λry q=>dj (ha pins s1 σ H1 _ I1 q) λov s2 h2=>?_) hs;obtain⟨x,H2,I2,rx,a,C,dx,fs,ex,ea,c,n,l,q2⟩:=h2;subst ex;obtain rfl:ov=Value.ref a:=rx;exact vy I2 ea c n l ry λs3 I3=>⟨σ,_,I3,q2⟩
theorem tY{pl:Sem Bool}{m:Str}{apos:Pos}{args:aF}{pins:aM}{s:Sj}{σ:St}{H:Hp}{Q:bf}{te:TE}(he:PE X e te)(I:Inv X pins σ H s)
  (h:te σ H fun x H1=>∃ a C dx fs g,x=.ref a/\H1 a=some (.ins C dx fs)/\ik X.K C/\Meth X.K C m g/\fs.lookup m=none /\
   ∀s1,Inv X pins σ H1 s1->Sz (model X.prog X.w) X.A (Tb pos (.ref g) [.ref a] (backTo pos (SA args X.env)) (backToKw pos (Tc [] X.env))) Q X.xe s1)
  (ht:eval (.Call (.Attribute e m apos) args [] pos) X.env=(do
   let ov<-eval e X.env
   standAt apos.atName
   let (f,first)<-holding [ov] (getMethod ov m pl)
   Tb pos f first (backTo pos (SA args X.env)) (backToKw pos (Tc [] X.env)))):
  Sz (model X.prog X.w) X.A (eval (.Call (.Attribute e m apos) args [] pos) X.env) Q X.xe s:=by
 refine PySem.W.methodCall_KW (pl:=pl) (dj (he pins s σ H _ I h) λu s1 zq=>zq.elim λx zq=>zq.elim λH1 zq=>zq.elim λI1 zq=>zq.elim λrx zq=>zq.elim λa zq=>zq.elim λC zq=>zq.elim λdx zq=>zq.elim λfs zq=>zq.elim λg zq=>zq.elim λex zq=>zq.elim λea zq=>zq.elim λc zq=>zq.elim λk zq=>zq.elim λl q=>?_) ht;subst ex;obtain rfl:u=Value.ref a:=rx;exact uK I1 ea c k l (q s1 I1)
end
structure dq(k:Nat)(A:Sw):Prop where
 hd:A.handled=none
 dp:A.depth+3*k+5<recursionLimit
 un:A.units+16*k+200<Td
theorem dq.mono{j k:Nat}{A:Sw}(r:dq k A)(h:j<=k):dq j A:=⟨r.hd,by have:=r.dp;omega,by have:=r.un;omega⟩
theorem dq.deeper{k:Nat}{A:Sw}(r:dq (k+1) A)(env:Env):dq k (A.deeper env):=
 ⟨r.hd,by have:=r.dp;show A.depth+1+3*k+5<_;omega,by have:=r.un;show A.units+3+16*k+200<_;omega⟩
theorem vo{A:Sw}{C:Sg}{us:aP}{kw:List (Str×Se)}:(A.under (.builtin "type.__call__" ⟨.ref C::us,kw⟩)).depth=A.depth+1:=by
 first|rfl|simp[Around.under,Code.weight,Code.isCreation,Code.isGuard,Code.isCaller,Code.frames,Code.isFrame,guardIds]
theorem vJ{A:Sw}{C:Sg}{us:aP}{kw:List (Str×Se)}:(A.under (.builtin "type.__call__" ⟨.ref C::us,kw⟩)).units=A.units+1:=by
 first|rfl|simp[Around.under,Code.cUnits,Code.frames,Code.isFrame]
theorem dq.make{k:Nat}{A:Sw}(r:dq (k+1) A)(C:Sg)(us:aP)(kw:List (Str×Se)):dq k (A.under (.builtin "type.__call__" ⟨.ref C::us,kw⟩)):=
 ⟨r.hd,by have:=r.dp;rw[vo];omega,by have:=r.un;rw[vJ];omega⟩
theorem dq.depth{k:Nat}{A:Sw}(r:dq k A):A.depth<recursionLimit:=by have:=r.dp;omega
theorem dq.units{k:Nat}{A:Sw}(r:dq k A):A.units+64<Td:=by have:=r.un;omega
noncomputable def Ka:TA:=λ_ H Q=>Q [] H
noncomputable def B5(ta:TE)(tr:TA):TA:=λσ H Q=>ta σ H λx H1=>tr σ H1 λxs H2=>Q (x::xs) H2
section
variable{X:Cx}{e:Sh}{es:aF}{te:TE}{t:TA}{pos:Pos}
theorem kx:PA X [] Ka:=λ_ _ _ _ H Q I h=>Calls.spliced_nil ⟨[],H,I,.nil,h⟩
theorem eZ(ha:PE X e te)(hr:PA X es t)(hs:SA (e::es) X.env=(false,eval e X.env)::SA es X.env:=by rfl):PA X (e::es) (B5 te t):=by
 intro pos pins s σ H Q I h;rw[hs];show Sz _ _ (spliced ((false,eval e X.env)::backTo pos (SA es X.env))) _ _ s;refine Calls.spliced_cons (dj (ha pins s σ H _ I h) λu s1 zq=>zq.elim λx zq=>zq.elim λH1 zq=>zq.elim λI1 zq=>zq.elim λr1 q1=>?_);exact dj (hr pos pins s1 σ H1 _ I1 q1) λus s2 zq=>zq.elim λxs zq=>zq.elim λH2 zq=>zq.elim λI2 zq=>zq.elim λr2 q2=>⟨x::xs,H2,I2,.cons r1 r2,q2⟩
noncomputable def ML(t:TA):TE:=λσ H Q=>t σ H λxs H1=>xs.length<=Ss/\∀p,H1 p=none->Q (.ref p) (upd H1 p (.tup xs))
noncomputable def Md(t:TA):TE:=λσ H Q=>t σ H λxs H1=>xs.length<=Ss/\∀p,H1 p=none->Q (.ref p) (upd H1 p (.lst xs))
theorem GC{x1}(h:PA X es t):PE X (.Tuple es x1 pos) (ML t):=by
 intro pins s σ H Q I hq;refine wpAny_Tuple_spliced (dj (h pos pins s σ H _ I hq) λus s1 zq=>zq.elim λxs zq=>zq.elim λH1 zq=>zq.elim λI1 zq=>zq.elim λr zq=>zq.elim λz q=>⟨by rw[<-r.length];exact z,?_⟩);have hf:H1 s1.heap.objs.size=none:=I1.hok.fresh (OZ _);refine⟨.ref s1.heap.objs.size,upd H1 s1.heap.objs.size (.tup xs),I1.laid (t':=s1.toks) (λb u e=>RP _ e) (OZ _) ?_,rfl,q _ hf⟩;exact⟨z,us,r,⟨_,RM _ rfl,rfl,_,rfl,rfl⟩⟩
theorem B9(h:PA X es t):PE X (.List es pos) (Md t):=by
 intro pins s σ H Q I hq;refine wpAny_List_spliced (dj (h pos pins s σ H _ I hq) λus s1 zq=>zq.elim λxs zq=>zq.elim λH1 zq=>zq.elim λI1 zq=>zq.elim λr zq=>zq.elim λz q=>⟨by rw[<-r.length];exact z,?_⟩);have hf:H1 s1.heap.objs.size=none:=I1.hok.fresh (OZ _);refine⟨.ref s1.heap.objs.size,upd H1 s1.heap.objs.size (.lst xs),I1.laid (t':=s1.toks) (λb u e=>RP _ e) (OZ _) ?_,rfl,q _ hf⟩;exact⟨z,us,0,r,RM _ rfl⟩
end
noncomputable abbrev Sp:=List V->Hp->VK->XK->Prop
noncomputable abbrev sZ:=List Env->Hp->Sj->XK->bf
structure yI(P:Sn)(w:Sl)(K:QR)(mg:bg)(base:Sr)(A:Sw)(outer:List Env)(s:Sj)(H:Hp):Prop where
 frames:A.frames=some outer
 mod:Mod K mg base
 bs:∀b o,base.get? b=some o->s.heap.get? b=some o/\H b=none
 bsz:base.objs.size<=s.heap.objs.size
 funs:s.heap.FunFrames base outer
 frf:∀b∈frs outer,H b=none
 hok:pQ P w H s.heap
 bare:AllBare s.gens
noncomputable def CE(outer:List Env)(P:Sn)(w:Sl)(H:Hp)(s:Sj)(Q:VK)(u:Se)(s':Sj):Prop:=
 ∃v H',s'.os=s.os/\AllBare s'.gens/\Un (frs outer) [] H H' s.heap s'.heap/\pQ P w H' s'.heap/\RelV v u/\Q v H'
noncomputable def CR(CX:sZ)(outer:List Env)(P:Sn)(w:Sl)(H:Hp)(s:Sj)(Q:VK)(E:XK)(r:S6)(s':Sj):Prop:=
 match r with
 |.ok (.ret u)=>CE outer P w H s Q u s'
 |.ok _=>False
 |.error e=>CX outer H s E e s'
structure fG(P:Sn)(w:Sl)(K:QR)(mg:bg)(base:Sr)(CX:sZ)(k:Nat)(f:Sg)(fd:Te)(ps:ah)(sp:Sp):Prop where
 len:∀vs H Q E,sp vs H Q E->vs.length=ps.length
 run:∀(A:Sw)(outer:List Env)(s:Sj)(H:Hp)(args:Args)(us:aP)(vs:ax)(Q:VK)(E:XK),dq k A->yI P w K mg base A outer s H->Tf s fd args (ps.zip us)->Vals vs us->sp vs H Q E->
  S8 (model P w) A (.call (.ref f) args) (CR CX outer P w H s Q E) s
theorem fG.mono{P:Sn}{w:Sl}{K:QR}{mg:bg}{base:Sr}{CX:sZ}{j k:Nat}{f:Sg}{fd:Te}{ps:ah}{sp:Sp}(F:fG P w K mg base CX j f fd ps sp)(h:j<=k):
  fG P w K mg base CX k f fd ps sp:=⟨F.len,λA outer s H args us vs Q E hr=>F.run A outer s H args us vs Q E (hr.mono h)⟩
theorem yI.make{P:Sn}{w:Sl}{K:QR}{mg:bg}{base:Sr}{A:Sw}{outer:List Env}{s:Sj}{H:Hp}(e:yI P w K mg base A outer s H)(C:Sg)(us:aP)(kw:List (Str×Se)):
  yI P w K mg base (A.under (.builtin "type.__call__" ⟨.ref C::us,kw⟩)) outer s H:=⟨by first|exact e.frames|(simpa [Around.under,Code.envs,Code.isFrame,pushEnvs]using e.frames),e.mod,e.bs,e.bsz,e.funs,e.frf,e.hok,e.bare⟩
section
variable{X:Cx}{pins:aM}{σ:St}{H:Hp}{s s':Sj}
theorem Inv.env0(I:Inv X pins σ H s):yI X.prog X.w X.K X.mg X.base X.A X.stack s H:=
 ⟨I.ok.frames,I.ok.mod,I.bs,OM I.ok.bsz I.sz,I.stack,I.stkFree,I.hok,I.bare⟩
theorem Inv.after{Q:VK}{u:Se}(I:Inv X pins σ H s)(h:CE X.stack X.prog X.w H s Q u s'):EP X pins σ Q u s':=by
 obtain⟨v,H',os,bare,un,hok,r,q⟩:=h;obtain⟨hh,g,d,t,os'⟩:=s';obtain rfl:os'=s.os:=os;exact⟨v,H',I.call (h':=hh) (g':=g) (d':=d) (t':=t) (ch:=[]) un hok bare (λb z=>absurd z (by simp)),r,q⟩
end
noncomputable def J9(C:Sg)(sp:Sp)(dvs:ax)(E:XK)(t:TA):TE:=λσ H Q=>t σ H λvs H1=>∀x dx,H1 x=none->H1 dx=none->dx≠x->
 sp (.ref x::(vs++dvs)) (upd (upd H1 dx (.own x)) x (.ins C dx [])) (λv H2=>v=.non/\Q (.ref x) H2) E
noncomputable def Binds(K:QR)(fd:Te)(ps:ah)(ds:aP):Prop:=
 ∀(s:Sj)(us:aP),K.In s.heap->(us++ds).length=ps.length->Tf s fd ⟨us,[]⟩ (ps.zip (us++ds))
theorem Binds.all{K:QR}{fd:Te}{ps:ah}(h:∀us:aP,us.length=ps.length->bindArgs fd ⟨us,[]⟩=pure (ps.zip us)):Binds K fd ps []:=λs us _ hl=>by
 rw[Pa]at hl ⊢;exact .of_eq (h us hl)
noncomputable def vE(CX:sZ)(X:Cx)(E:XK):Prop:=∀(pins:aM)(σ:St)(H:Hp)(s:Sj)(e:Se)(s':Sj),Inv X pins σ H s->CX X.stack H s E e s'->X.xe e s'
section
variable{X:Cx}{CX:sZ}{k:Nat}{f C:Sg}{fd:Te}{ps:ah}{sp:Sp}{dvs:ax}{ds:aP}{E:XK}{x m:Str}{p pos apos:Pos}{e o:Sh}{es:aF}{ta:TE}{t:TA}
structure Mk(K:QR)(C f:Sg):Prop where
 makes:Rc K C=true
 init:QV K (.ref C) "__init__"=some (some (.ref f))
 fn:QY K (.ref f)=true
 kp:Rm K (.ref C)=true
theorem zu{pins:aM}{σ:St}{H:Hp}{s:Sj}{Q:VK}{us:aP}{vs:ax}(M:Mk X.K C f)(F:fG X.prog X.w X.K X.mg X.base CX k f fd ps sp)(hr:dq (k+1) X.A)(hb:Binds X.K fd ps ds)(hd:Vals dvs ds)
  (hx:vE CX X E) (I:Inv X pins σ H s) (r:Vals vs us)
  (h:∀x dx,H x=none->H dx=none->dx≠x->sp (.ref x::(vs++dvs)) (upd (upd H dx (.own x)) x (.ins C dx [])) (λv H2=>v=.non/\Q (.ref x) H2) E):
  Sz (model X.prog X.w) X.A (call (.ref C) us) (EP X pins σ Q) X.xe s:=by
 have hq:=h (s.heap.objs.size+1) s.heap.objs.size (I.hok.fresh (Pb _)) (I.hok.fresh (OZ _)) (OL (O8 _));have I2:=Inv.made (C:=C) I;have r2:Vals (V.ref (s.heap.objs.size+1)::(vs++dvs)) (Value.ref (s.heap.objs.size+1)::(us++ds)):=.cons rfl (r.append hd);have hl:(Value.ref (s.heap.objs.size+1)::us++ds).length=ps.length:=by
  have e:=r2.length;rw[F.len _ _ _ _ hq]at e;exact e.symm
 refine Tg (BF (f:=f) I.kIn M.makes M.init (beq_iff_eq.mp M.fn) (Th (F.run _ X.stack _ _ ⟨Value.ref (s.heap.objs.size+1)::us,[]⟩ (Value.ref (s.heap.objs.size+1)::(us++ds)) _ _ E (hr.make C us [])
  (I2.env0.make C us []) (hb _ (Value.ref (s.heap.objs.size+1)::us) I2.kIn hl) r2 hq) λr s' hq'=>?_))
 cases r with
 |error e=>exact hx pins σ _ _ e s' I2 hq'
 |ok fl=>
  cases fl with
  |ret u=>
   obtain⟨v,H',I3,rv,ev,q3⟩:=I2.after hq';subst ev;exact⟨rv,⟨V.ref (s.heap.objs.size+1),H',I3,rfl,q3⟩⟩
  |next=>exact False.elim hq'
  |brk=>exact False.elim hq'
  |cont=>exact False.elim hq'
theorem wK(M:Mk X.K C f)(F:fG X.prog X.w X.K X.mg X.base CX k f fd ps sp)(hr:dq (k+1) X.A)(hg:Gl X x)(hm:X.mg x=some (.ref C))(hb:Binds X.K fd ps ds)(hd:Vals dvs ds)(hx:vE CX X E)
  (ha:PA X (e::es) t) (hdb:(x==("__debug__":Str))=false:=by decide) (he:SA (e::es) X.env=(false,eval e X.env)::SA es X.env:=by rfl) (hpl:(backTo pos (SA es X.env)).any (·.1)=false:=by rfl):
  PE X (.Call (.Name x p) (e::es) [] pos) (J9 C sp dvs E t):=by
 intro pins s σ H Q I h;refine Ti (gx I hg hm ?_ hdb);refine Rn (h₀:=X.base) I.ok.mod.kin M.kp (dj (ha pos pins s σ H _ I h) λus s1 zq=>zq.elim λvs zq=>zq.elim λH1 zq=>zq.elim λI1 zq=>zq.elim λr q=>⟨I1.kIn,?_⟩) he hpl;exact zu M F hr hb hd hx I1 r q
end
structure aO(N P:ah)(sc:Sx):Prop where
 kind:sc.kind=.function
 co:sc.isCoroutine=false
 gen:sc.isGenerator=false
 nd:N.Nodup
 pre:N.take P.length=P
 par:∀x∈P,sc.names.lookup x=some .local\/sc.names.lookup x=some .cell
 nofree:∀y∈sc.names,y.2≠.free
theorem qJ{kindOf:Str->Option Sf}{x:Str}:∀{binds:List (Str×Se)}{m:bg},(∀v,(x,v)∉binds)->bindL kindOf binds m x=m x
 |[],_,_=>rfl
 |(n,v)::r,m,h=>by
  unfold bindL;rw[qJ λw hw=>h w (OT _ hw)];split
  ·have:x≠n:=(by rintro rfl;exact h v OS);simp[this]
  ·rfl
theorem qE{kindOf:Str->Option Sf}{x:Str}:∀{binds:List (Str×Se)}{m:bg},(∀v,(x,v)∉binds)->bindC kindOf binds m x=m x
 |[],_,_=>rfl
 |(n,v)::r,m,h=>by
  unfold bindC;rw[qE λw hw=>h w (OT _ hw)];split
  ·rfl
  ·have:x≠n:=(by rintro rfl;exact h v OS);simp[this]
theorem pX{kindOf:Str->Option Sf}{x:Str}{v:Se}:∀{P:ah}{vs:aP}{i:Nat}{m:bg},P.Nodup->P[i]?=some x->vs[i]?=some v->kindOf x=some .local->
  bindL kindOf (P.zip vs) m x=some v
 |[],_,_,_,_,h,_,_=>by simp at h
 |_::_,[],_,_,_,_,h,_=>by simp at h
 |p::P,w::vs,0,m,nd,h1,h2,hk=>by
  simp at h1 h2;subst h1;subst h2;show bindL kindOf ((p,w)::P.zip vs) m p=_;unfold bindL;rw[qJ λv hv=>(List.nodup_cons.mp nd).1 (Pg hv).1,if_pos hk];simp
 |p::P,w::vs,i+1,m,nd,h1,h2,hk=>by
  show bindL kindOf ((p,w)::P.zip vs) m x=_;unfold bindL;exact pX (i:=i) (List.nodup_cons.mp nd).2 (by simpa using h1) (by simpa using h2) hk
theorem qK{kindOf:Str->Option Sf}{x:Str}{v:Se}:∀{P:ah}{vs:aP}{i:Nat}{m:bg},P.Nodup->P[i]?=some x->vs[i]?=some v->kindOf x≠some .local->
  bindC kindOf (P.zip vs) m x=some v
 |[],_,_,_,_,h,_,_=>by simp at h
 |_::_,[],_,_,_,_,h,_=>by simp at h
 |p::P,w::vs,0,m,nd,h1,h2,hk=>by
  simp at h1 h2;subst h1;subst h2;show bindC kindOf ((p,w)::P.zip vs) m p=_;unfold bindC;rw[qE λv hv=>(List.nodup_cons.mp nd).1 (Pg hv).1,if_neg hk];simp
 |p::P,w::vs,i+1,m,nd,h1,h2,hk=>by
  show bindC kindOf ((p,w)::P.zip vs) m x=_;unfold bindC;exact qK (i:=i) (List.nodup_cons.mp nd).2 (by simpa using h1) (by simpa using h2) hk
noncomputable def start(N:ah)(vs:ax):St:=vs.map some++List.replicate (N.length-vs.length) none
noncomputable def eY(CX:sZ)(P:Sn)(w:Sl)(K:QR)(mg:bg)(base:Sr)(N:ah)(qual:Str)(scope:Sx)(f:Sg)(cd:Se)(A:Sw)(outer:List Env)(s:Sj)(H:Hp)(E:XK):Cx where
 prog:=P
 w:=w
 K:=K
 mg:=mg
 base:=base
 A:=A.deeper (envOfC qual scope s.heap.objs.size f cd)
 N:=N
 s₀:=s
 H₀:=H
 env:=envOfC qual scope s.heap.objs.size f cd
 outer:=outer
 stack:=envOfC qual scope s.heap.objs.size f cd::outer
 ex:=[]
 calm:=true
 fn:=λ_=>true
 pn:=[]
 xe:=λe s'=>Sz (model P w) (A.deeper (envOfC qual scope s.heap.objs.size f cd)) (leaving (envOfC qual scope s.heap.objs.size f cd) e) (λ_ s''=>CX outer H s E e s'') (λe' s''=>CX outer H s E e' s'') s'
theorem uD{sc:Sx}{n:Nat}{x:Str}(h:sc.names.lookup x=some .cell):∃c,(cellsFrom n sc.names []).lookup x=some c:=by
 have q:=Ro sc.names n [] (.inl h);exact Option.isSome_iff_exists.mp q
theorem qt{CX:sZ}{P:Sn}{w:Sl}{K:QR}{mg:bg}{base:Sr}{N ps:ah}{qual:Str}{scope:Sx}{f:Sg}{cd:Se}{A:Sw}{outer:List Env}{s s1:Sj}{H:Hp}{E:XK}{us:aP}{vs:ax}
  (S:aO N ps scope) (hd:A.handled=none) (e0:yI P w K mg base A outer s H) (hl:vs.length=ps.length) (r:Vals vs us)
  (x:InCallC s s.heap.objs.size (bindL (envOfC qual scope s.heap.objs.size f cd).kindOf (ps.zip us) λ_=>none) (cellsFrom (s.heap.objs.size+1) scope.names []) (bindC (envOfC qual scope s.heap.objs.size f cd).kindOf (ps.zip us) λ_=>none) s1):
  Inv (eY CX P w K mg base N qual scope f cd A outer s H E) [] (start N vs) H s1:=by
 have hpl:ps.length<=N.length:=by have:=congrArg List.length S.pre;rw[Ph]at this;omega
 obtain⟨h1,tk,rfl,hk⟩:=x.done;have noA:∀b:Sg,b∉(eY CX P w K mg base N qual scope f cd A outer s H E).ex:=λb z=>absurd (show b∈([]:ap)from z) (by simp);refine⟨⟨e0.mod,S.kind,rfl,rfl,OZ _,λy z c h1 h2=>?_,λy hy=>?_,λy c _ h=>?_,λ_=>hd,Around.frames_deeper e0.frames,.inr ⟨rfl,rfl⟩,λb z=>absurd z (noA b),e0.bs,e0.bsz,λb _ _=>noA b,λb z=>absurd z (noA b),e0.funs,e0.frf⟩,
  rfl,e0.bare,Un.kept hk,⟨_,x.toInCall.ns,λi y v h1 h2 h3=>?_⟩,λy c h=>⟨_,x.cell y c h⟩,e0.hok.fresh (OZ _),λy c h=>?_,λp hp=>absurd (show p∈([]:aM)from hp) (by simp),e0.hok.kept hk,?_⟩
 ·exact name_of_addr x.apart (PySem.mem_of_lookup h1) (PySem.mem_of_lookup h2)
 ·have hy:scope.names.lookup y=some .cell\/scope.names.lookup y=some .free:=hy;rcases hy with hy|hy
  ·exact uD hy
  ·exact absurd rfl (S.nofree _ (PySem.mem_of_lookup hy))
 ·exact OO (x.above y c (PySem.mem_of_lookup h))
 ·have hi:i<vs.length:=by
   unfold start at h2;by_cases hi:i<vs.length
   ·exact hi
   ·rw[Pj (by simpa using hi)]at h2;rw[Pk]at h2;split at h2<;>cases h2
  have ha:vs[i]?=some v:=by
   unfold start at h2;rw[Pl (by simpa using hi),Pm]at h2;cases e:vs[i]? with
   |none=>rw[e]at h2;cases h2
   |some a=>rw[e]at h2;cases h2;rfl
  obtain⟨u,hu,rv⟩:=r.get ha;have hp:ps[i]?=some y:=by
   rw[<-S.pre,List.getElem?_take_of_lt ‹0›];exact h1
  have ndP:ps.Nodup:=by rw[<-S.pre];exact S.nd.sublist (List.take_sublist _ _)
  refine⟨u,rv,?_⟩;rcases S.par y (Pn hp)with k|k
  ·exact .inl ⟨k,pX ndP hp hu k⟩
  ·obtain⟨c,e⟩:=uD (n:=s.heap.objs.size+1) k;refine .inr ⟨.inl k,c,e,?_⟩;have q:=x.cell y c e;rw[qK ndP hp hu (by show scope.names.lookup y≠_;rw[k];decide)]at q;exact q
 ·exact e0.hok.fresh (OO (x.above y c (PySem.mem_of_lookup h)))
 ·unfold start;show _=N.length;rw[Pp,O6,List.length_replicate];omega
theorem FU{CX:sZ}{P:Sn}{w:Sl}{K:QR}{mg:bg}{base:Sr}{k:Nat}{f:Sg}{name qual:Str}{params:Arguments}{body:cS}{scope:Sx}{dV kV doc pm cdv ct oc:Se}{an od:Option Sg}
  {osl:Array (Option Se)} {N ps:ah} {sp:Sp} (lk:K.lookup f=some ⟨oc,od,.func (Rp name qual params body scope dV kV doc pm an cdv ct),osl⟩) (hcd:Rq K cdv qual=true) (S:aO N ps scope)
  (len:∀vs H Q E,sp vs H Q E->vs.length=ps.length)
  (hbody:∀ (A:Sw) (outer:List Env) (s:Sj) (H:Hp) (vs:ax) (Q:VK) (E:XK),dq k (A.deeper (envOfC qual scope s.heap.objs.size f cdv))->sp vs H Q E ->
   ∃t,pH (eY CX P w K mg base N qual scope f cdv A outer s H E) body t/\t {nx:=λ_ H'=>Q .non H',rt:=Q} (start N vs) H):
  fG P w K mg base CX (k+1) f (Rp name qual params body scope dV kV doc pm an cdv ct) ps sp:=by
 refine⟨len,λA outer s H args us vs Q E hr e0 hb r hsp=>?_⟩;have hl:=len _ _ _ _ hsp;have KX:K.In s.heap:=e0.mod.kin.keeps λb o e=>(e0.bs b o e).1;have lim:s.heap.NoLimit:=e0.mod.nolimit.keeps λb o e=>(e0.bs b o e).1;have hkind:∀y∈ps.zip us,scope.names.lookup y.1=some .local\/(scope.names.lookup y.1=some .cell/\((cellsFrom (s.heap.objs.size+1) scope.names []).lookup y.1).isSome=true):=λ⟨n,v⟩ hy=>by
  rcases S.par n (Pg hy).1 with q|q
  ·exact .inl q
  ·exact .inr ⟨q,Ro _ _ _ (.inl q)⟩
 refine codeAny_call_function hr.depth (KX _ _ lk) rfl S.co S.gen rfl (Rr KX hcd) (hb _ _ _ _ ?_);refine Tj S.kind hkind λenv he s1 x=>?_;subst he;refine⟨lim.keeps x.toInCall.keep,codeAny_func ?_⟩;obtain⟨t,ht,hq⟩:=hbody A outer s H vs Q E (hr.deeper _) hsp;have I:Inv (eY CX P w K mg base N qual scope f cdv A outer s H E) [] (start N vs) H s1:=qt S hr.hd e0 hl r x;refine SD (ht [] s1 (start N vs) H _ I hq) (λfl s' hs=>?_) λe s' hs=>hs;have fin:∀{σ':St}{H':Hp}{v:V}{u:Se},Inv (eY CX P w K mg base N qual scope f cdv A outer s H E) [] σ' H' s'->RelV v u->Q v H'->CE outer P w H s Q u s':=
  λ{σ' H' v u} J rv q=>⟨v,H',J.os,J.bare,J.base,J.hok,rv,q⟩
 cases fl with
 |ret u=>
  obtain⟨v,σ',H',J,rv,q⟩:=hs;exact fin J rv q
 |next=>
  obtain⟨σ',H',J,q⟩:=hs;exact fin (v:=V.non) (u:=Value.none) J rfl q
 |brk=>
  obtain⟨_,_,_,q⟩:=hs;exact False.elim q
 |cont=>
  obtain⟨_,_,_,q⟩:=hs;exact False.elim q
section
variable{X:Cx}{x:Str}{p pos:Pos}{e:Sh}{es:aF}{t:TA}{id T:String}{r:ax->Hp->VK->Prop}
noncomputable def Ke(r:ax->Hp->VK->Prop)(t:TA):TE:=λσ H Q=>t σ H λvs H1=>r vs H1 Q
theorem jz(hc:fw X (.builtin id) r)(hg:Gl X x)(hm:X.mg x=none)(hv:Sv x=some (.builtin id))(ha:PA X (e::es) t)(hn:x≠"__name__":=by decide)(hdb:(x==("__debug__":Str))=false:=by decide)
  (he:SA (e::es) X.env=(false,eval e X.env)::SA es X.env:=by rfl) (hpl:(backTo pos (SA es X.env)).any (·.1)=false:=by rfl):PE X (.Call (.Name x p) (e::es) [] pos) (Ke r t):=by
 intro pins s σ H Q I h;refine Ti (ka I hg hm hv ?_ hn hdb);exact PyProof.Rows.callWith_builtin1 (dj (ha pos pins s σ H _ I h) λus s1 zq=>zq.elim λvs zq=>zq.elim λH1 zq=>zq.elim λI1 zq=>zq.elim λr1 q1=>hc pins s1 σ H1 vs us Q I1 r1 q1) he hpl
theorem ye(hc:fw X (.type T) r)(hg:Gl X x)(hm:X.mg x=none)(hv:Sv x=some (.type T))(ha:PA X (e::es) t)(hn:x≠"__name__":=by decide)(hdb:(x==("__debug__":Str))=false:=by decide)
  (he:SA (e::es) X.env=(false,eval e X.env)::SA es X.env:=by rfl) (hpl:(backTo pos (SA es X.env)).any (·.1)=false:=by rfl):PE X (.Call (.Name x p) (e::es) [] pos) (Ke r t):=by
 intro pins s σ H Q I h;refine Ti (ka I hg hm hv ?_ hn hdb);exact RW (dj (ha pos pins s σ H _ I h) λus s1 zq=>zq.elim λvs zq=>zq.elim λH1 zq=>zq.elim λI1 zq=>zq.elim λr1 q1=>hc pins s1 σ H1 vs us Q I1 r1 q1) he hpl
end
end L2
namespace HT
open PySem PyProof.Rows
theorem JF(A:Sw)(s:Sj)(a:Int)(t:Tok)(c:Int)(u:Tok)(prog:Sn)(w:Sl)(E:Se->Sj->Prop)(Q:Se->Sj->Prop)(h:Q (.bool (decide (a<c))) s):
  Sz (model prog w) A (richCompare .Lt (.int a t) (.int c u)) Q E s:=
 (PyProof.Rows.lt_int h:Sz (model prog w) A (SW .Lt (.int a t) (.int c u)) Q E s)
section
open PySem.SeqAt
open PySem.AutoSeq1 (wpAny_loadPart')
open PySem.MeetsSeq PySem.MeetsSeq2 PySem.MeetsSeq3
end
section
variable{prog:Sn}{w:Sl}{A:Sw}{E:Se->Sj->Prop}{s:Sj}
theorem KC{t b:Sg}{vs ws:List Se}{Q:Se->Sj->Prop}(ht:IsTup s.heap t vs.toArray)(hb:IsTup s.heap b ws.toArray)(hv:vs≠[])
  (h1:ws=[]->Q (.ref t) s) (h2:ws≠[]->Q (.ref s.heap.objs.size) {s with heap:=s.heap.push {cls:=.type "tuple",data:=.seq (vs++ws).toArray}})
  (hsz:vs.length+ws.length<=Ss):Sz (model prog w) A (SV .Add (.ref t) (.ref b)) Q E s:=by
 obtain⟨⟨cls,dd,data,sl⟩,ho,hc,n,hd⟩:=id ht;obtain⟨⟨cls2,dd2,data2,sl2⟩,ho2,hc2,n2,hd2⟩:=id hb;simp only at hc hd hc2 hd2;subst hc hd hc2 hd2;have e:vs.toArray++ws.toArray=(vs++ws).toArray:=by simp
 by_cases hw:ws=[]
 ·exact Tl ⟨_,ho,rfl⟩ ⟨_,ho2,rfl⟩ Tn To R5 R6 (R7 _ _)
   (tuple_addW1 t b vs.toArray ws.toArray n n2 dd dd2 sl sl2 (by simpa using hv) (by simp[hw])) ⟨ho,ho2,h1 hw⟩
 ·refine Tl ⟨_,ho,rfl⟩ ⟨_,ho2,rfl⟩ Tn To R5 R6 (R7 _ _)
   (tuple_addW2 t b vs.toArray ws.toArray n n2 dd dd2 sl sl2 (by simpa using hv) (by simpa using hw) (by rw[O2,O2];exact hsz)) ⟨ho,ho2,?_⟩
  rw[e];exact h2 hw
noncomputable def sIx(n d:Nat):Option Int->Nat
 |none=>d
 |some v=>if v<0 then(v+(n:Int)).toNat else min v.toNat n
theorem Jt(n d:Nat):sIx n d none=d:=rfl
theorem Kw(n d k:Nat):sIx n d (some (k:Int))=min k n:=by
 show(if(k:Int)<0 then((k:Int)+(n:Int)).toNat else min (k:Int).toNat n)=min k n;rw[if_neg ‹0›,Pq]
theorem GK(n d:Nat)(hd:d<=n)(o:Option Int):sIx n d o<=n:=by
 cases o with
 |none=>exact hd
 |some v=>
  show(if v<0 then(v+(n:Int)).toNat else min v.toNat n)<=n;by_cases hv:v<0
  ·rw[if_pos hv];omega
  ·rw[if_neg hv];exact Nat.min_le_right _ _
theorem wO(v:Int)(n d:Nat):(if v<0 then max (v+(n:Int)) 0 else min v (n:Int))=((sIx n d (some v):Nat):Int):=by
 show(if v<0 then max (v+(n:Int)) 0 else min v (n:Int))=(((if v<0 then(v+(n:Int)).toNat else min v.toNat n):Nat):Int)
 by_cases hv:v<0
 ·simp only[if_pos hv];omega
 ·simp only[if_neg hv];omega
theorem vD(lo hi:Option Int)(n:Nat):Builtin.Slice.sliceAdjust lo hi 1 (n:Int)=(((sIx n 0 lo:Nat):Int),((sIx n n hi:Nat):Int)):=by
 have h1:¬((1:Int)<0):=by omega
 unfold Builtin.Slice.sliceAdjust;simp only[h1,if_false];refine Prod.ext ?_ ?_
 ·cases lo with
  |none=>rfl
  |some v=>exact wO v n 0
 ·cases hi with
  |none=>rfl
  |some v=>exact wO v n n
theorem uV(i j:Nat):Builtin.Slice.slicePlaces (i:Int) (j:Int) 1=j-i:=by
 unfold Builtin.Slice.slicePlaces;have h1:(1:Int)>0:=by omega
 simp only[h1,if_true,Int.ediv_one];split<;>omega
theorem n6{v:Se}{o:Option Int}{Q:Option Int->Sj->Prop}(p:Tp v o)(h:Q o s):Sz (model prog w) A (Builtin.Slice.slicePartIndex v) Q E s:=by
 cases p with
 |none=>exact slicePart_none h
 |int i t=>exact slicePart_int h
theorem md{sl:Sg}{vl vu:Se}{lo hi:Option Int}{n:Nat}{Q:Int×Int×Nat->Sj->Prop}(hs:s.heap.IsSliceOf sl vl vu .none)(pl:Tp vl lo)(pu:Tp vu hi)
  (h:Q (((sIx n 0 lo:Nat):Int),1,sIx n n hi-sIx n 0 lo) s):Sz (model prog w) A (Builtin.Slice.sliceApplied (.ref sl) (pure (n:Int))) Q E s:=by
 obtain⟨os,hos,hcs,hds⟩:=id hs;unfold Builtin.Slice.sliceApplied Builtin.Slice.sliceFields;refine SN (SN (Tq hos hds (x:=vl) rfl (SN (Tq hos hds (x:=vu) rfl (SN (Tq hos hds (x:=.none) rfl (SM ?_)))))));refine SN (slicePart_none ?_);show Sz _ _ (if((1:Int)==0)=true then _ else _) _ _ s;rw[if_neg (by decide)];refine SN (n6 pl (SN (n6 pu (SN (SM ?_)))));show Sz _ _ (match Builtin.Slice.sliceAdjust lo hi 1 (n:Int)with|(lo,hi)=>pure (lo,(1:Int),Builtin.Slice.slicePlaces lo hi 1)) _ _ s;rw[vD lo hi n];show Sz _ _ (pure (((sIx n 0 lo:Nat):Int),(1:Int),Builtin.Slice.slicePlaces ((sIx n 0 lo:Nat):Int) ((sIx n n hi:Nat):Int) 1)) _ _ s;rw[uV];exact SM h
theorem Bz(xs:Array Se)(i k:Nat):((List.range k).filterMap λ(m:Nat)=>xs[((i:Int)+(m:Int)*1).toNat]?).toArray=((xs.toList.drop i).take k).toArray:=by
 have e:(λ(m:Nat)=>xs[((i:Int)+(m:Int)*1).toNat]?)=λm=>xs[i+m]?:=by
  funext m
  have:((i:Int)+(m:Int)*1).toNat=i+m:=by omega
  rw[this]
 rw[e]
 have:=pick_run xs i k
 rw[List.filterMap_map]at this;have e2:((λx=>xs[x]?)∘λx=>i+x)=λm=>xs[i+m]?:=rfl;rw[e2]at this;rw[this]
theorem wt{t sl:Sg}{items:Array Se}{vl vu:Se}{lo hi:Option Int}{Q:Se->Sj->Prop}(ht:IsTup s.heap t items)(hs:s.heap.IsSliceOf sl vl vu .none)(pl:Tp vl lo)(pu:Tp vu hi)
  (hw:¬(sIx items.size 0 lo=0/\sIx items.size items.size hi=items.size))
  (h:Q (.ref s.heap.objs.size) {s with heap:=s.heap.push {cls:=.type "tuple",data:=.seq ((items.toList.drop (sIx items.size 0 lo)).take (sIx items.size items.size hi-sIx items.size 0 lo)).toArray}})
  (hsz:items.size<=Ss):Sz (model prog w) A (getItem (.ref t) (.ref sl)) Q E s:=by
 have htake:sizeOk (.seq ((items.toList.drop (sIx items.size 0 lo)).take (sIx items.size items.size hi-sIx items.size 0 lo)).toArray):=by
  show((items.toList.drop (sIx items.size 0 lo)).take (sIx items.size items.size hi-sIx items.size 0 lo)).toArray.size<=Ss;rw[O2,Ph,Pr,Array.length_toList];omega
 have hj:sIx items.size items.size hi<=items.size:=GK _ _ (OZ _) hi;obtain⟨os,hos,hcs,hds⟩:=id hs;have hTs:s.TypeIs (.ref sl) "slice":=⟨os,hos,hcs⟩
 unfold getItem
 try with_reducible refine Tr ?_
 first|refine SN (SM ?_)|skip
 refine SN (wpAny_sequenceKey ht.typeIs (by decide) ?_);refine SN (Ts (name:=Str.ofString "__getitem__") ht.typeIs RX
  (Tt RX ht.typeIs entry_tuple_getitem ?_ (args_tuple_getitem _ _)))
 show Sz _ _ (Builtin.Tuple.tupleItemsOf (.ref t) >>= _) _ _ s;refine SN (tupleItemsOf_ ht ?_);refine SN (Tu hTs ?_);rw[if_pos (by decide)];refine SN (md hs pl pu ?_);have hno:¬((((sIx items.size 0 lo:Nat):Int)==0&&(1:Int)==1&&(sIx items.size items.size hi-sIx items.size 0 lo)==items.size)=true):=by
  intro q;rw[Pt,Pt]at q;have q1:((sIx items.size 0 lo:Nat):Int)=0:=eq_of_beq q.1.1;have q2:sIx items.size items.size hi-sIx items.size 0 lo=items.size:=eq_of_beq q.2;exact hw ⟨by omega,by omega⟩
 show Sz _ _ (if(((sIx items.size 0 lo:Nat):Int)==0&&(1:Int)==1&&(sIx items.size items.size hi-sIx items.size 0 lo)==items.size)=true then _ else _) _ _ s;rw[if_neg hno,Bz]
 first
  |exact SN (m:=Builtin.Tuple.tupleExact _) (Tv (SM ⟨_,rfl,SM h⟩) htake)
  |exact SN (m:=Builtin.Tuple.tupleExact _) (Tv (SN (SM (SM ⟨_,rfl,SM h⟩))) htake)
  |exact SN (SN (m:=Builtin.Tuple.tupleExact _) (Tv (SM (SM ⟨_,rfl,SM h⟩)) htake))
  |exact SN (SN (m:=Builtin.Tuple.tupleExact _) (Tv (SM ⟨_,rfl,SM h⟩) htake))
end
end HT
namespace L2
open PySem PySem.Spec PyProof.Rows
noncomputable abbrev TO:=St->Hp->(et->Hp->Prop)->Prop
noncomputable def PO(X:Cx)(e:Option Sh)(t:TO):Prop:=
 ∀(pins:aM)(s:Sj)(σ:St)(H:Hp)(Q:et->Hp->Prop),Inv X pins σ H s->t σ H Q->
  Sz (model X.prog X.w) X.A (evalPart e X.env) (λu s'=>∃o H',Inv X pins σ H' s'/\Tp u o/\Q o H') X.xe s
noncomputable def C1:TO:=λ_ H Q=>Q none H
noncomputable def Jz(t:TE):TO:=λσ H Q=>t σ H λx H1=>∃i,x=.int i/\Q (some i) H1
section
variable{X:Cx}{e:Sh}{te:TE}{lo hi:Option Sh}{tl th:TO}{pos p2:Pos}
theorem EE:PO X none C1:=by
 intro pins s σ H Q I h;rw[evalPart_none];exact SM ⟨none,H,I,.none,h⟩
theorem Fq(h:PE X e te):PO X (some e) (Jz te):=by
 intro pins s σ H Q I hw;rw[evalPart_some];refine dj (h pins s σ H _ I hw) λu s1 zq=>zq.elim λx zq=>zq.elim λH1 zq=>zq.elim λI1 zq=>zq.elim λr1 q1=>?_;obtain⟨i,rfl,q⟩:=q1;obtain⟨t,rfl⟩:=r1;exact⟨some i,H1,I1,.int i t,q⟩
noncomputable def Ky(X:Cx)(r:V->et->et->Hp->VK->Prop):Prop:=
 ∀(pins:aM)(s:Sj)(σ:St)(H:Hp)(x:V)(v vl vu:Se)(lo hi:et)(sl:Sg)(Q:VK),Inv X pins σ H s->RelV x v->s.heap.IsSliceOf sl vl vu .none->Tp vl lo->Tp vu hi->r x lo hi H Q->
  ∃T id,typeLookup (.type T) "__getitem__"=pure (some (.builtin id))/\s.TypeIs v T/\Sz (model X.prog X.w) X.A (getItem v (.ref sl)) (EP X pins σ Q) X.xe s
noncomputable def Oy(r:V->et->et->Hp->VK->Prop)(te:TE)(tl th:TO):TE:=λσ H Q=>te σ H λx H1=>tl σ H1 λl H2=>th σ H2 λu H3=>r x l u H3 Q
theorem CB{r:V->et->et->Hp->VK->Prop}(hr:Ky X r)(he:PE X e te)(hl:PO X lo tl)(hu:PO X hi th):PE X (.Subscript e (.Slice lo hi none p2) pos) (Oy r te tl th):=by
 intro pins s σ H Q I h;refine Subscript_ (dj (he pins s σ H _ I h) λv s1 zq=>zq.elim λx zq=>zq.elim λH1 zq=>zq.elim λI1 zq=>zq.elim λr1 q1=>?_);refine wpAny_Slice (dj (hl pins s1 σ H1 _ I1 q1) λvl s2 zq=>zq.elim λl zq=>zq.elim λH2 zq=>zq.elim λI2 zq=>zq.elim λpl q2=>dj (hu pins s2 σ H2 _ I2 q2) λvu s3 zq=>zq.elim λu zq=>zq.elim λH3 zq=>zq.elim λI3 zq=>zq.elim λpu q3=>?_);rw[evalPart_none];refine SM ?_;have I4:Inv X pins σ H3 {s3 with heap:=s3.heap.push {cls:=.type "slice",data:=.fields #[vl,vu,.none]}}:=I3.kept (t':=s3.toks) λb ob q=>RP _ q;obtain⟨T,id,hT,ht,hg⟩:=hr pins {s3 with heap:=s3.heap.push {cls:=.type "slice",data:=.fields #[vl,vu,.none]}} σ H3 x v vl vu l u s3.heap.objs.size Q I4 r1 (Heap.IsSliceOf.new ..) pl pu q3;show Sz (model X.prog X.w) X.A (subscriptTail e (.Slice lo hi none p2) v (.ref s3.heap.objs.size)) (EP X pins σ Q) X.xe {s3 with heap:=s3.heap.push {cls:=.type "slice",data:=.fields #[vl,vu,.none]}};exact tail_any (ops:=[.ref s3.heap.objs.size,v]) ht hT hg (by with_unfolding_all rfl)
noncomputable def sX(xs:ax)(lo hi:et):ax:=(xs.drop (HT.sIx xs.length 0 lo)).take (HT.sIx xs.length xs.length hi-HT.sIx xs.length 0 lo)
theorem mQ(xs:ax)(lo hi:et):(sX xs lo hi).length<=xs.length:=by
 unfold sX;rw[Ph,Pr];omega
noncomputable def MD(K:QR):V->et->et->Hp->VK->Prop:=λx lo hi H Q=>∃a xs,x=.ref a/\lN K H a xs/\
 ¬(HT.sIx xs.length 0 lo=0/\HT.sIx xs.length xs.length hi=xs.length)/\∀p,H p=none->Q (.ref p) (upd H p (.tup (sX xs lo hi)))
theorem G4:Ky X (MD X.K):=by
 intro pins s σ H x v vl vu lo hi sl Q I rx hs pl pu h;obtain⟨a,xs,rfl,hx,hw,q⟩:=h;cases rx;obtain⟨its,r,ht,hz⟩:=I.tuple hx;have hlen:its.toArray.size=xs.length:=by rw[O2];exact r.length.symm
 refine⟨"tuple",_,PyProof.Rows.slot_tuple_getitem.lookup,ht.typeIs,?_⟩;refine HT.wt ht hs pl pu (by rw[hlen];exact hw) ?_ (by rw[hlen];exact hz);rw[hlen];refine⟨.ref s.heap.objs.size,_,I.laid (t':=s.toks) (o:=.tup (sX xs lo hi)) (λb ob q=>RP _ q) (OZ _) ?_,rfl,q _ (I.hok.fresh (OZ _))⟩;exact⟨OM (mQ xs lo hi) hz,_,(r.drop (HT.sIx xs.length 0 lo)).take (HT.sIx xs.length xs.length hi-HT.sIx xs.length 0 lo),vz.new _ _⟩
noncomputable def JB(K:QR):R2:=λx y H Q=>∃a b xs ys,x=.ref a/\y=.ref b/\lN K H a xs/\lN K H b ys/\xs≠[]/\xs.length+ys.length<=Ss/\
 (ys=[]->Q (.ref a) H)/\(ys≠[]->∀p,H p=none->Q (.ref p) (upd H p (.tup (xs++ys))))
theorem Vals.nil_iff{xs:ax}{us:aP}(r:Vals xs us):us=[]↔xs=[]:=by
 cases r with
 |nil=>simp
 |cons _ _=>simp
theorem Fu:iZ X (SV .Add) (JB X.K):=by
 intro pins s σ H x y v u Q I rx ry h;obtain⟨a,b,xs,ys,rfl,rfl,ha,hb,hx,hz,q1,q2⟩:=h;cases rx;cases ry;obtain⟨its,r1,p1,_⟩:=I.tuple ha;obtain⟨its2,r2,p2,_⟩:=I.tuple hb;refine HT.KC p1 p2 (λz=>hx (r1.nil_iff.mp z)) (λz=>⟨.ref a,H,I,rfl,q1 (r2.nil_iff.mp z)⟩) (λz=>?_) (by rw[<-r1.length,<-r2.length];exact hz);refine⟨.ref s.heap.objs.size,_,I.laid (t':=s.toks) (o:=.tup (xs++ys)) (λb ob q=>RP _ q) (OZ _) ?_,rfl,q2 (λw=>z (r2.nil_iff.mpr w)) _ (I.hok.fresh (OZ _))⟩;exact⟨by rw[Pp];exact hz,_,r1.append r2,vz.new _ _⟩
end
noncomputable def EC(n:Nat)(i:Int):Option Nat:=if 0<=i then(if i<n then some i.toNat else none)else if -(n:Int)<=i then some (i+n).toNat else none
noncomputable def kF{α:Type}(xs:List α)(i:Int):Option α:=(EC xs.length i).bind λj=>xs[j]?
theorem Dk{n:Nat}{i:Int}{j:Nat}(h:EC n i=some j):seqIndex? i n=some j/\j<n/\-(n:Int)<=i/\i<n:=by
 unfold EC at h;by_cases h0:0<=i
 ·rw[if_pos h0]at h;by_cases h1:i<n
  ·rw[if_pos h1]at h;have e:i.toNat=j:=Option.some.inj h;exact⟨by rw[seqIndex_of h0 h1,e],by omega,by omega,h1⟩
  ·rw[if_neg h1]at h;cases h
 ·rw[if_neg h0]at h;by_cases h1:-(n:Int)<=i
  ·rw[if_pos h1]at h;have e:(i+n).toNat=j:=Option.some.inj h;exact⟨by rw[seqIndex_neg ‹0› h1,e],by omega,h1,by omega⟩
  ·rw[if_neg h1]at h;cases h
theorem rZ{α:Type}{xs:List α}{i:Int}{v:α}(h:kF xs i=some v):∃j,seqIndex? i xs.length=some j/\xs[j]?=some v/\j<xs.length/\-(xs.length:Int)<=i/\i<xs.length:=by
 unfold kF at h;cases e:EC xs.length i with
 |none=>rw[e]at h;cases h
 |some j=>
  rw[e]at h;obtain⟨h1,h2,h3,h4⟩:=Dk e;exact⟨j,h1,h,h2,h3,h4⟩
theorem BV{α:Type}(xs:List α)(v:α):kF (xs++[v]) (-1)=some v:=by
 have hl:(xs++[v]).length=xs.length+1:=by simp
 have e:EC (xs++[v]).length (-1)=some xs.length:=by
  unfold EC;rw[hl,if_neg (by decide),if_pos ‹0›];congr 1;omega
 unfold kF;rw[e];show(xs++[v])[xs.length]?=some v;simp
noncomputable def sE(b:Sh):Prop:=∀o i,subscripted b false o i=operate [o,i] (getItem o i)
noncomputable def J6(X:Cx)(r:R2):Prop:=
 ∀(value slice:Sh)(pins:aM)(s:Sj)(σ:St)(H:Hp)(x y:V)(v u:Se)(Q:VK),Inv X pins σ H s->RelV x v->RelV y u->r x y H Q->
  subscripted slice false v u=operate [v,u] (getItem v u)->Sz (model X.prog X.w) X.A (subscriptTail value slice v u) (EP X pins σ Q) X.xe s
noncomputable def IW(X:Cx)(id:String)(r:V->ax->Hp->VK->Prop):Prop:=
 ∀(pins:aM)(s:Sj)(σ:St)(H:Hp)(x:V)(xs:ax)(v:Se)(us:aP)(Q:VK),Inv X pins σ H s->RelV x v->Vals xs us->r x xs H Q->
  Sz (model X.prog X.w) X.A (call (.builtin id) (v::us)) (EP X pins σ Q) X.xe s
section
variable{X:Cx}{a b:Sh}{ta tb:TE}{pos:Pos}
theorem JC{r:R2}(hr:J6 X r)(ha:PE X a ta)(hb:PE X b tb)(hs:sE b):PE X (.Subscript a b pos) (IY r ta tb):=by
 intro pins s σ H Q I h;exact Subscript_ (Ih ha hb I h λv u s2 x y H2 I2 rx ry q=>hr a b pins s2 σ H2 x y v u Q I2 rx ry q (hs _ _))
noncomputable def K8(K:QR):R2:=λx y H Q=>∃p xs i v,x=.ref p/\y=.int i/\kg K H p xs/\kF xs i=some v/\Q v H
noncomputable def MA(K:QR):R2:=λx y H Q=>∃p xs i v,x=.ref p/\y=.int i/\lN K H p xs/\kF xs i=some v/\Q v H
noncomputable def LU:R2:=λx y H Q=>∃z i c,x=.str z/\y=.int i/\z.length<=Ss/\kF z.cps.toList i=some c/\Q (.str ⟨#[c]⟩) H
theorem Dx:J6 X (K8 X.K):=by
 intro value slice pins s σ H x y v u Q I rx ry h hs;obtain⟨p,xs,i,z,rfl,rfl,hq,he,q⟩:=h;cases rx;obtain⟨t,rfl⟩:=ry;obtain⟨its,r,pl,hz⟩:=I.list hq;obtain⟨j,h1,h2,h3,h4,h5⟩:=rZ he;obtain⟨w,ew,rw'⟩:=r.get h2;have hl:=r.length;have hn:=mD;have fin:EP X pins σ Q w s:=⟨z,H,I,rw',q⟩
 by_cases h0:0<=i
 ·have hj:i.toNat=j:=by
   rw[seqIndex_of h0 h5]at h1;exact Option.some.inj h1
  exact item_listR pl.isList h0 ‹0› (by rw[hj];simpa using ew) fin hs
 ·have hj:(i+(its.toArray.size:Int)).toNat=j:=by
   rw[seqIndex_neg ‹0› h4]at h1;rw[O2,<-hl];exact Option.some.inj h1
  exact subscriptTail_builtinR (x:=w) pl.isList.typeIs slot_list_getitem.lookup
   (wpAny_getItem_list_neg (Q:=λr s'=>r=w/\EP X pins σ Q r s') pl.isList ‹0› (by rw[O2]<;>omega) ‹0› (by rw[hj];simpa using ew) ⟨rfl,fin⟩) hs
theorem GB:J6 X (MA X.K):=by
 intro value slice pins s σ H x y v u Q I rx ry h hs;obtain⟨p,xs,i,z,rfl,rfl,hq,he,q⟩:=h;cases rx;obtain⟨t,rfl⟩:=ry;obtain⟨its,r,pl,hz⟩:=I.tuple hq;obtain⟨j,h1,h2,h3,h4,h5⟩:=rZ he;obtain⟨w,ew,rw'⟩:=r.get h2;have hl:=r.length;have hn:=mD;have fin:EP X pins σ Q w s:=⟨z,H,I,rw',q⟩
 exact subscriptTail_builtinR (x:=w) pl.typeIs slot_tuple_getitem.lookup
  (getItem_tuple (j:=j) (Q:=λr s'=>r=w/\EP X pins σ Q r s') pl ‹0› ‹0› (by rw[O2,<-hl];exact h1) (by simpa using ew) ⟨rfl,fin⟩) hs
theorem GP:J6 X LU:=by
 intro value slice pins s σ H x y v u Q I rx ry h hs;obtain⟨z,i,c,rfl,rfl,hz,he,q⟩:=h;obtain⟨t,rfl⟩:=rx;obtain⟨t',rfl⟩:=ry;obtain⟨j,h1,h2,h3,h4,h5⟩:=rZ he;have hl:z.cps.toList.length=z.length:=by simp[Str.length]
 rw[hl]at h1 h4 h5;have hn:=mD;exact tail_any (Tw s z t) slot_str_getitem.lookup (getItem_str (c:=c) (by
  have e1:decide (i < -(2^63:Int))=false:=decide_eq_false ‹0›;have e2:decide (i>=2^63)=false:=decide_eq_false ‹0›;rw[e1,e2,Bool.or_false]) (by rw[h1];simpa using h2) ⟨.str ⟨#[c]⟩,H,I.tok _,⟨_,rfl⟩,q⟩) hs
theorem qO(lo hi:et)(n:Nat):(sliceBounds lo hi none n).1=((HT.sIx n 0 lo:Nat):Int)/\(sliceBounds lo hi none n).2.1=((HT.sIx n n hi:Nat):Int)/\(sliceBounds lo hi none n).2.2=1:=by
 refine⟨?_,?_,rfl⟩
 ·cases lo with
  |none=>simp[sliceBounds,HT.sIx]
  |some i=>
   simp only[sliceBounds,HT.sIx,Pu,show(1:Int)>0 by decide,if_true];by_cases h:i<0
   ·simp only[h,if_true]<;>omega
   ·simp only[h,if_false]<;>omega
 ·cases hi with
  |none=>simp[sliceBounds,HT.sIx]
  |some i=>
   simp only[sliceBounds,HT.sIx,Pu,show(1:Int)>0 by decide,if_true];by_cases h:i<0
   ·simp only[h,if_true]<;>omega
   ·simp only[h,if_false]<;>omega
theorem pC(its:aP)(lo hi:et):slicePick its.toArray lo hi none=((its.drop (HT.sIx its.length 0 lo)).take (HT.sIx its.length its.length hi-HT.sIx its.length 0 lo)).toArray:=by
 obtain⟨h1,h2,h3⟩:=qO lo hi its.toArray.size;unfold slicePick;rw[h1,h2,h3];simp only[sliceRange_one,pick_run,O2]<;>rfl
noncomputable def Mt(K:QR):V->et->et->Hp->VK->Prop:=λx lo hi H Q=>∃a xs,x=.ref a/\kg K H a xs/\∀p,H p=none->Q (.ref p) (upd H p (.lst (sX xs lo hi)))
theorem Dh:Ky X (Mt X.K):=by
 intro pins s σ H x v vl vu lo hi sl Q I rx hs pl pu h;obtain⟨a,xs,rfl,hx,q⟩:=h;cases rx;obtain⟨its,r,ht,hz⟩:=I.list hx;have hlen:=r.length;refine⟨"list",_,slot_list_getitem.lookup,ht.isList.typeIs,?_⟩;refine wpAny_getItem_list_slice ht.isList hs pl pu .none (by simp) ?_ (by rw[O2]<;>omega);rw[pC,<-hlen];refine⟨.ref s.heap.objs.size,_,I.laid (t':=s.toks) (o:=.lst (sX xs lo hi)) (λb ob q=>RP _ q) (OZ _) ?_,rfl,q _ (I.hok.fresh (OZ _))⟩;exact⟨OM (mQ xs lo hi) hz,_,0,(r.drop (HT.sIx xs.length 0 lo)).take (HT.sIx xs.length xs.length hi-HT.sIx xs.length 0 lo),RM _ rfl⟩
noncomputable def An:V->Bool
 |.non=>true
 |.bl _=>true
 |.int _=>true
 |.str _=>true
 |_=>false
noncomputable def M3:V->V->Bool
 |.non,.non=>true
 |.bl a,.bl b=>a==b
 |.bl a,.int b=>(if a then 1 else 0)==b
 |.int a,.bl b=>a==(if b then 1 else 0)
 |.int a,.int b=>a==b
 |.str a,.str b=>a==b
 |_,_=>false
theorem IM{A:Sw}{s:Sj}{y x:V}{u v:Se}(ry:RelV y u)(rx:RelV x v)(fy:An y=true)(fx:An x=true):SeqAt.EqAt A s u v (M3 y x):=by
 cases y with
 |non=>
  cases ry;cases x with
  |non=>cases rx;exact SeqAt.EqAt.same _
  |bl b=>cases rx;exact SeqAt.EqAt.none_bool b
  |int b=>obtain⟨t,rfl⟩:=rx;exact SeqAt.EqAt.none_int b t
  |str b=>obtain⟨t,rfl⟩:=rx;exact SeqAt.EqAt.none_str b t
  |_=>exact absurd (show false=true from fx) OX
 |bl a=>
  cases ry;cases x with
  |non=>cases rx;exact SeqAt.EqAt.bool_none a
  |bl b=>cases rx;exact SeqAt.EqAt.bool_bool a b
  |int b=>obtain⟨t,rfl⟩:=rx;exact SeqAt.EqAt.bool_int a b t
  |str b=>obtain⟨t,rfl⟩:=rx;exact SeqAt.EqAt.bool_str a b t
  |_=>exact absurd (show false=true from fx) OX
 |int a=>
  obtain⟨t',rfl⟩:=ry;cases x with
  |non=>cases rx;exact SeqAt.EqAt.int_none a t'
  |bl b=>cases rx;exact SeqAt.EqAt.int_bool a t' b
  |int b=>obtain⟨t,rfl⟩:=rx;exact SeqAt.EqAt.int_int a t' b t
  |str b=>obtain⟨t,rfl⟩:=rx;exact SeqAt.EqAt.int_str a t' b t
  |_=>exact absurd (show false=true from fx) OX
 |str a=>
  obtain⟨t',rfl⟩:=ry;cases x with
  |non=>cases rx;exact SeqAt.EqAt.str_none a t'
  |bl b=>cases rx;exact SeqAt.EqAt.str_bool a t' b
  |int b=>obtain⟨t,rfl⟩:=rx;exact SeqAt.EqAt.str_int a t' b t
  |str b=>obtain⟨t,rfl⟩:=rx;exact SeqAt.EqAt.str_str a t' b t
  |_=>exact absurd (show false=true from fx) OX
 |_=>exact absurd (show false=true from fy) OX
theorem iq:fw X (.builtin "len") (λxs H Q=>∃p ys,xs=[.ref p]/\(kg X.K H p ys\/lN X.K H p ys)/\Q (.int ys.length) H):=by
 intro pins s σ H xs us Q I r h;obtain⟨p,ys,rfl,hq,q⟩:=h;obtain⟨u,rfl,rx⟩:=vals1 r;cases rx;have hn:=mD;rcases hq with hq|hq
 ·obtain⟨its,r',pl,hz⟩:=I.list hq;have hlen:=r'.length;exact Calls.call_len_list pl.isList (by simp only[O2]<;>omega) ⟨.int ys.length,H,I.tok _,⟨s.toks+1,by rw[O2,hlen]⟩,q⟩
 ·obtain⟨its,r',pl,hz⟩:=I.tuple hq;have hlen:=r'.length;exact len_tuple pl (by simp only[O2]<;>omega) ⟨.int ys.length,H,I.tok _,⟨s.toks+1,by rw[O2,hlen]⟩,q⟩
theorem rz:fw X (.builtin "len") (λxs H Q=>∃z,xs=[.str z]/\z.length<=Ss/\Q (.int z.length) H):=by
 intro pins s σ H xs us Q I r h;obtain⟨z,rfl,hz,q⟩:=h;obtain⟨u,rfl,t,rfl⟩:=vals1 r;have hn:=mD;exact len_str ‹0› ⟨.int z.length,H,I.tok _,⟨_,rfl⟩,q⟩
theorem j6:fw X (.type "tuple") (λxs H Q=>∃p ys,xs=[.ref p]/\((kg X.K H p ys/\∀l,H l=none->Q (.ref l) (upd H l (.tup ys)))\/(lN X.K H p ys/\Q (.ref p) H))):=by
 intro pins s σ H xs us Q I r h;obtain⟨p,ys,rfl,h⟩:=h;obtain⟨u,rfl,rx⟩:=vals1 r;cases rx;rcases h with⟨hq,q⟩|⟨hq,q⟩
 ·obtain⟨its,r',pl,hz⟩:=I.list hq;have hlen:=r'.length;refine call_tuple_list pl.isList (λh' kp=>?_) (by simp only[O2]<;>omega);have I1:Inv X pins σ H {s with heap:=h'}:=I.kept (t':=s.toks) kp;have I2:Inv X pins σ (upd H h'.objs.size (.tup ys)) {s with heap:=h'.push {cls:=.type "tuple",data:=.seq its.toArray}}:=
   I1.laid (t':=s.toks) (λb o e=>RP _ e) (OZ _) (show gE X.prog X.w _ _ _ (.tup ys)from⟨hz,its,r',vz.new _ _⟩)
  exact⟨.ref h'.objs.size,_,I2,rfl,q _ (I1.hok.fresh (OZ _))⟩
 ·obtain⟨its,r',pl,hz⟩:=I.tuple hq;exact call_tuple_same pl ⟨.ref p,H,I,rfl,q⟩
noncomputable def LQ(K:QR)(T:String)(x:V)(H:Hp):Prop:=match x with
 |.str _=>T="str"
 |.int _=>T="int"
 |.ref p=>(T="list"/\∃xs,kg K H p xs)\/(T="tuple"/\∃o,K.lookup p=some o/\o.cls=.type "tuple"/\o.dict=none) \/
   (T="dict"/\((∃kvs,H p=some (.dK kvs))\/∃kvs,H p=some (.dT kvs)))\/(T="set"/\∃S n,H p=some (.set S n))
 |_=>False
theorem Ab{pins:aM}{σ:St}{H:Hp}{s:Sj}{T:String}{x:V}{v:Se}(I:Inv X pins σ H s)(r:RelV x v)(ty:LQ X.K T x H):
  s.TypeIs v T/\∀a,v=.ref a->∃ob,s.heap.get? a=some ob/\ob.dict=none:=by
 cases x with
 |str z=>
  obtain⟨t,rfl⟩:=r;cases(show T="str"from ty);exact⟨Tw s z t,λ_ e=>nomatch e⟩
 |int i=>
  obtain⟨t,rfl⟩:=r;cases(show T="int"from ty);exact⟨typeIs_int s i t,λ_ e=>nomatch e⟩
 |ref p=>
  cases r;rcases ty with⟨rfl,xs,hq⟩|⟨rfl,o,hk,hc,hd⟩|⟨rfl,hk⟩|⟨rfl,S,n,hk⟩
  ·obtain⟨its,_,pl,_⟩:=I.list hq;refine⟨pl.isList.typeIs,λa e=>?_⟩;cases e;obtain⟨o,n,e,c,hd,_⟩:=pl;exact⟨o,e,hd⟩
  ·refine⟨⟨o,I.kIn p o hk,hc⟩,λa e=>?_⟩;cases e;exact⟨o,I.kIn _ o hk,hd⟩
  ·have z:∃o,s.heap.get? p=some o/\o.ExactDict:=by
    rcases hk with⟨kvs,hk⟩|⟨kvs,hk⟩
    ·obtain⟨_,_,_,_,o,_,_,e,ex,_⟩:=I.hok p _ hk;exact⟨o,e,ex⟩
    ·obtain⟨_,_,_,_,o,_,_,e,ex,_⟩:=I.hok p _ hk;exact⟨o,e,ex⟩
   obtain⟨o,e,ex⟩:=z;refine⟨⟨o,e,ex.1⟩,λa e2=>?_⟩;cases e2;exact⟨o,e,ex.2.1⟩
  ·obtain⟨o,_,_,_,e,ex,_⟩:=I.hok p _ hk;refine⟨⟨o,e,ex.1⟩,λa e2=>?_⟩;cases e2;exact⟨o,e,ex.2.1⟩
 |_=>exact False.elim ty
noncomputable def K3(K:QR)(T:String)(r:V->ax->Hp->VK->Prop)(to:TE):TE:=λσ H Q=>to σ H λx H1=>LQ K T x H1/\r x [] H1 Q
noncomputable def NK(K:QR)(T:String)(r:V->ax->Hp->VK->Prop)(to:TE)(t:TA):TE:=λσ H Q=>to σ H λx H1=>LQ K T x H1/\t σ H1 λxs H2=>r x xs H2 Q
variable{o e:Sh}{es:aF}{to:TE}{t:TA}{name:Str}{apos cpos:Pos}{T id:String}{r:V->ax->Hp->VK->Prop}
theorem B8(pa:PlainAttrs T)(slot:Slot T name id)(hty:typeOf (.builtin id)=pure (.type "method_descriptor"))(hm:IW X id r)(ho:PE X o to)
  (hbase:S9 o name X.env (eval o X.env)=eval o X.env:=by rfl) (hline:(apos.endLine==cpos.line)=true:=by rfl):PE X (.Call (.Attribute o name apos) [] [] cpos) (K3 X.K T r to):=by
 intro pins s σ H Q I h;refine wpAny_Call_method0_late hbase hline (dj (ho pins s σ H _ I h) λv s1 zq=>zq.elim λx zq=>zq.elim λH1 zq=>zq.elim λI1 zq=>zq.elim λr1 zq=>zq.elim λty q1=>?_);obtain⟨h1,h2⟩:=Ab I1 r1 ty;exact⟨T,id,pa,slot,hty,h1,h2,Calls.callWith_builtin rfl (PySem.evalArgs_none (hm pins s1 σ H1 x [] v [] Q I1 r1 .nil q1))⟩
theorem tQ(pa:PlainAttrs T)(slot:Slot T name id)(hty:typeOf (.builtin id)=pure (.type "method_descriptor"))(hm:IW X id r)(ho:PE X o to)(ha:PA X (e::es) t)
  (hbase:S9 o name X.env (eval o X.env)=eval o X.env:=by rfl)
  (hfew:((backTo cpos (SA (e::es) X.env)).all (fun x=>!x.1) && (backToKw cpos (Tc [] X.env)).all (fun x=>x.1.isSome)
   && decide ((e::es).length+([]:List Tx).length+(if([]:List Tx).isEmpty then 0 else 1)<30))=true:=by rfl)
  (hline:(apos.endLine==cpos.line)=true:=by rfl) (hs:SA (e::es) X.env=(false,eval e X.env)::SA es X.env:=by rfl) (hplain:(backTo cpos (SA es X.env)).any (·.1)=false:=by rfl):
  PE X (.Call (.Attribute o name apos) (e::es) [] cpos) (NK X.K T r to t):=by
 intro pins s σ H Q I h;refine wpAny_Call_method_late hbase hfew hline rfl (dj (ho pins s σ H _ I h) λv s1 zq=>zq.elim λx zq=>zq.elim λH1 zq=>zq.elim λI1 zq=>zq.elim λr1 zq=>zq.elim λty q1=>?_);obtain⟨h1,h2⟩:=Ab I1 r1 ty;refine⟨T,id,pa,slot,hty,h1,h2,?_⟩;have hA:=ha cpos pins s1 σ H1 _ I1 q1;rw[hs]at hA ⊢;refine Calls.callWith_builtin (by show(false||(backTo cpos (SA es X.env)).any (·.1))=false;rw[hplain]<;>rfl) (Calls.evalArgs_plain ?_);exact dj hA λus s2 zq=>zq.elim λvs zq=>zq.elim λH2 zq=>zq.elim λI2 zq=>zq.elim λr2 q2=>hm pins s2 σ H2 x vs v us Q I2 r1 r2 q2
end
noncomputable def Kg(X:Cx)(id:String)(r:V->ax->Hp->VK->Prop):Prop:=
 ∀(pins:aM)(s:Sj)(σ:St)(H:Hp)(x:V)(xs:ax)(v:Se)(us:aP)(Q:VK),Inv X pins σ H s->RelV x v->Vals xs us->r x xs H Q->
  Sz (model X.prog X.w) X.A (call (.builtin id) (v::us)) (EP X pins σ Q) X.xe s
theorem Vals.one{x:V}{us:aP}(h:Vals [x] us):∃u,us=[u]/\RelV x u:=by
 cases h with|cons r t=>
 cases t;exact⟨_,rfl,r⟩
theorem Vals.zero:∀{us:aP},Vals [] us->us=[]
 |_,.nil=>rfl
theorem Vals.dropLast{xs:ax}{us:aP}(h:Vals xs us):Vals xs.dropLast us.dropLast:=by
 induction h with
 |nil=>exact .nil
 |cons r t ih=>
  cases t with
  |nil=>exact .nil
  |cons q t'=>exact .cons r ih
theorem Vals.reverse{xs:ax}{us:aP}(h:Vals xs us):Vals xs.reverse us.reverse:=by
 induction h with
 |nil=>exact .nil
 |cons r t ih=>rw[Pw,Pw];exact Vals.append ih (.cons r .nil)
theorem vv{α:Type}(l:List α):l.eraseIdx (l.length-1)=l.dropLast:=by
 induction l with
 |nil=>rfl
 |cons a r ih=>
  cases r with
  |nil=>rfl
  |cons b r=>
   have e:(a::b::r).length-1=((b::r).length-1)+1:=by
    have h1:(a::b::r).length=r.length+2:=rfl;have h2:(b::r).length=r.length+1:=rfl;omega
   rw[e,List.eraseIdx_cons_succ,ih]
   all_goals rfl
section
variable{X:Cx}{pins:aM}{σ:St}{H:Hp}{s:Sj}{l b:Sg}{xs ys zs:ax}
theorem Inv.lset{its its':aP}{n:Nat}{f:Array Se->Array Se}{t':Nat}(I:Inv X pins σ H s)(hH:H l=some (.lst xs))
  (e:s.heap.get? l=some {cls:=.type "list",data:=.seq its.toArray n}) (hf:f its.toArray=its'.toArray) (hv:Vals ys its') (hz:ys.length<=Ss):
  Inv X pins σ (upd H l (.lst ys)) {s with heap:=s.heap.update l (Obj.mapSeq f),toks:=t'}:=by
 have q:=PySem.IsL.update e f;rw[hf]at q;refine I.write (x:=l) (e:=l) (by rw[hH];exact trivial) (.inl rfl) (λb' u hb hu=>(RT s.heap (Obj.mapSeq f) (Ne.symm hb)).trans hu) ⟨_,q⟩ ?_;exact⟨hz,its',_,hv,q⟩
theorem Inv.lnew{its:aP}{t':Nat}(I:Inv X pins σ H s)(hv:Vals ys its)(hz:ys.length<=Ss):
  Inv X pins σ (upd H s.heap.objs.size (.lst ys)) {s with heap:=s.heap.push {cls:=.type "list",data:=.seq its.toArray},toks:=t'}:=
 I.laid (λ_ _ q=>RP _ q) (OZ _) ⟨hz,its,0,hv,RM _ rfl⟩
theorem Inv.fresh(I:Inv X pins σ H s):H s.heap.objs.size=none:=I.hok.fresh (OZ _)
theorem Inv.lstM(I:Inv X pins σ H s)(hH:H l=some (.lst xs)):xs.length<=Ss/\∃(its:aP)(n:Nat),Vals xs its/\xs.length=its.length/\s.heap.get? l=some {cls:=.type "list",data:=.seq its.toArray n}:=by
 obtain⟨z,its,n,r,e⟩:=I.hok l _ hH;exact⟨z,its,n,r,r.length,e⟩
end
section
variable{X:Cx}
noncomputable def wI:V->ax->Hp->VK->Prop:=λx vs H Q=>∃l xs y,x=.ref l/\vs=[y]/\H l=some (.lst xs)/\xs.length<Ss/\Q .non (upd H l (.lst (xs++[y])))
theorem lV:Kg X "list.append" wI:=by
 intro pins s σ H x vs v us Q I rx rv h;obtain⟨l,xs,y,rfl,rfl,hH,hz,q⟩:=h;cases rx;obtain⟨u,rfl,ru⟩:=rv.one;obtain⟨z,its,n,r,hl,e⟩:=I.lstM hH;refine call_meets F.slot_list_append ⟨_,e,rfl⟩ F.entry_list_append (F.args_list_append_2 _ _) (PySem.list_append l its.toArray n u (by rw[O2];omega)) ⟨e,?_⟩;refine⟨.non,_,I.lset (its':=its++[u]) hH e (by simp) (r.append (.cons ru .nil)) ?_,rfl,q⟩;rw[Pp,Px];omega
noncomputable def Mj:V->ax->Hp->VK->Prop:=λx vs H Q=>∃l xs y,x=.ref l/\vs=[]/\H l=some (.lst xs)/\xs[xs.length-1]?=some y/\Q y (upd H l (.lst xs.dropLast))
theorem Hr:Kg X "list.pop" Mj:=by
 intro pins s σ H x vs v us Q I rx rv h;obtain⟨l,xs,y,rfl,rfl,hH,hy,q⟩:=h;cases rx;have hus:=rv.zero;subst hus;obtain⟨z,its,n,r,hl,e⟩:=I.lstM hH;obtain⟨u,hu,ru⟩:=r.get hy;have hy':its.toArray[its.toArray.size-1]?=some u:=by
  show its.toArray[its.length-1]?=some u;rw[<-Array.getElem?_toList,<-hl];exact hu
 refine call_meets F.slot_list_pop ⟨_,e,rfl⟩ F.entry_list_pop (F.args_list_pop_1 _) (MeetsSeq.list_pop_last l its.toArray n u hy' (by rw[O2];omega)) ⟨e,?_⟩;refine⟨y,_,I.lset (its':=its.dropLast) hH e ?_ r.dropLast ?_,ru,q⟩
 ·show its.toArray.eraseIdxIfInBounds (its.toArray.size-1)=its.dropLast.toArray;rw[O2,List.eraseIdxIfInBounds_toArray,vv]
 ·rw[List.length_dropLast];omega
end
end L2
namespace Att
open PySem PySem.W PySem.Calls PyProof.Rows
theorem mW{P:Params}{h:Sr}:∀(ns:List Int)(vs:List Se),WellAll P h vs (ns.map WData.int)->IntsAre vs ns:=by
 intro ns
 induction ns with
 |nil=>
  intro vs w;rw[Py]at w;cases w;exact .nil
 |cons n ns ih=>
  intro vs w;rw[O5]at w;cases w with
  |cons a b=>
   cases a;exact .cons _ _ (ih _ b)
theorem xu{l:OpenLaw}{n:Nat}(hn:l.most=some n){P:Params}{h:Sr}{args:List WData}{vals:List Se}
  (hpre:l.row.toRowW.claim.pre args=true) (hwl:WellAll P h vals args):
  ∃a vs ns,vals=[Value.ref a]/\args=[WData.list (ns.map WData.int)]/\h.get? a=some {cls:=.type "list",data:=.seq vs.toArray}/\IntsAre vs ns/\ns.length<=n:=by
 have hsh:WShape.hasAll [] args [.list .int]=true:=(pre_splitW hpre).1;have hc:l.pre.holds [] {args:=args}=true:=(pre_splitW hpre).2;obtain⟨d,r,rfl,h1,h2⟩:=hasAllW_cons hsh;obtain rfl:=hasAllW_nil h2;obtain⟨xs,rfl,h3⟩:=hasW_list h1;obtain⟨ns,rfl⟩:=items_int h3;have hlen:ns.length<=n:=by
  unfold OpenLaw.pre at hc;have h4:(WTm.not (.lt (.lit (.int (n:Int))) (.len (.arg 0)))).holds [] {args:=[.list (ns.map .int)]}=true:=by
   have h4:=(holds_andW hc).1;rw[hn]at h4;exact h4
  have h5:=condW_of h4 (w_not (w_lt w_lit (w_len_list (w_arg rfl))));rw[O6]at h5;refine Nat.le_of_not_lt λq=>?_;have q':(n:Int)<((ns.length:Nat):Int):=by omega
  first
   |(rw[decide_eq_true q']at h5;exact absurd h5 (by decide))
   |(simp at h5;omega)
 cases hwl with
 |cons w1 w2=>
  cases w2;cases w1 with
  |list ho hall=>exact⟨_,_,ns,rfl,rfl,ho,mW ns _ hall,hlen⟩
theorem xS(l:OpenLaw)(args:List WData):l.row.toRowW.claim.post args (.bool true) args=true:=
 postW_of (r:=l.row.toRowW) (X:=(true==true))
  (show WShape.has [] (.bool true) .bool=true by first|rfl|decide|simp[WShape.has,WShape.arms,WShape.armsAll])
  (show(WTm.eq .res (.lit (.bool true))).value [] {args:=args,res:=some (.bool true),after:=args}=some (.bool (true==true))from w_eq_bool (w_res rfl) w_lit) rfl
theorem FH{l:OpenLaw}{n:Nat}{q:Sn}{loose:List Str}{XP:(Str->Option Se)->Sr->Prop}{YP:Sl->Sr->Prop}{d:DefRec}
  (hn:l.most=some n) (hdf:d.params.defaults=[])
  (call:∀ (w:Sl) (s₀ s₁:Sj) (mg mb:Str->Option Se) (fa:Sg) (o:Obj) (pm cd doc:Se) (a:Sg) (vs:List Se) (ns:List Int),
   Ground q loose [] XP w s₀ mg mb s₁.heap->YP w s₁.heap->
   s₁.heap.get? fa=some o->o.data=.func (docDef d.name d.params d.body d.scope pm cd doc)->s₁.heap.CodeRec cd d.name->mg d.name=some (.ref fa)->
   s₁.heap.get? a=some {cls:=.type "list",data:=.seq vs.toArray}->IntsAre vs ns->ns.length<=n->s₁.gens=#[]->
   S8 (model l.prog w) callerA (.call (.ref fa) ⟨[.ref a],[]⟩) (λr s'=>r=.ok (.ret (.bool true))/\OldK s₁.heap s'.heap/\s'.os=s₁.os/\AllBare s'.gens) s₁):
  WalkO q loose XP YP l.row.toRowW d [] (λf vs=>PySem.call f vs):=by
 intro w s₀ s₁ mg mb G Y fa o pm cd doc dV kV ho hd hcd hD hmg hg args vals as hpre hlay hrd hwl hlo;obtain rfl:dV=.none:=Dflts.none hD hdf;obtain rfl:kV=.none:=Dflts.noKw hD;obtain⟨a,vs,ns,rfl,rfl,hobj,hints,hlen⟩:=xu hn hpre hwl;refine enter_call (Th (call w s₀ s₁ mg mb fa o pm cd doc a vs ns G Y ho (fd_plain hd) hcd hmg hobj hints hlen hg) λr s' hq=>?_);obtain⟨rfl,h2,h3,h4⟩:=hq;exact⟨.inl ⟨.bool true,.bool true,[],rfl,λ_=>rfl,.bool true,xS l _,λ_=>⟨List.Pairwise.nil,λ_ hm=>(nomatch hm)⟩⟩,h2,h3,h4⟩
section
variable{prog:Sn}{w:Sl}{A:Sw}{E:Se->Sj->Prop}{s:Sj}{K:Frag}
end
end Att
namespace L2
open PySem PySem.Spec PyProof.Rows
theorem qD:∀{vs:aP}{ns:List Int},IntsAre vs ns->Vals (ns.map V.int) vs
 |_,_,.nil=>.nil
 |_,_,.cons n t h=>.cons ⟨t,rfl⟩ (qD h)
noncomputable def Only(H:Hp):Prop:=∀b,H b=none\/∃o xs,H b=some (.frz o (.lst xs))
theorem A3{P:Sn}{w:Sl}{K:QR}{mg mb:bg}{CX:sZ}{k:Nat}{fa a:Sg}{fd:Te}{x:Str}{sp:Sp}{s₁:Sj}{vs:aP}{ns:List Int}
  (KX:K.In s₁.heap) (hns:s₁.heap.Ns Su mg) (hb:s₁.heap.Ns builtinsNs mb) (hbb:∀x:Str,x≠"__name__"->mb x=Sv x) (hlim:s₁.heap.NoLimit) (hg:s₁.gens=#[])
  (ha:s₁.heap.get? a=some {cls:=.type "list",data:=.seq vs.toArray}) (hi:IntsAre vs ns) (hl:ns.length<=Ss) (hr:dq k callerA)
  (F:∀base:Sr,K.In base->base.Ns Su mg->fG P w K mg base CX k fa fd [x] sp) (hbind:∀(s:Sj)(u:Se),Tf s fd ⟨[u],[]⟩ [(x,u)])
  (hsp:∀H:Hp,Only H->kg K H a (ns.map V.int)->sp [.ref a] H (λv _=>v=.bl true) λ_ _ _=>False)
  (hCX:∀H e s',CX [] H s₁ (λ_ _ _=>False) e s'->False):
  S8 (model P w) callerA (.call (.ref fa) ⟨[.ref a],[]⟩) (λr s'=>r=.ok (.ret (.bool true))/\OldK s₁.heap s'.heap/\s'.os=s₁.os/\AllBare s'.gens) s₁:=by
 have rv:=qD hi;have lenV:=hi.length;have core:∀H:Hp,Only H->kg K H a (ns.map V.int)->pQ P w H s₁.heap->(∀b,H b≠none->b=a)->(H a≠none->K.lookup a=none)->
   S8 (model P w) callerA (.call (.ref fa) ⟨[.ref a],[]⟩) (λr s'=>r=.ok (.ret (.bool true))/\OldK s₁.heap s'.heap/\s'.os=s₁.os/\AllBare s'.gens) s₁:=by
  intro H hO hS hok hA hK;have base_of:∀{b:Sg}{o:Obj},s₁.heap.get? b=some o->H b=none->(mi s₁.heap H).get? b=some o:=λe n=>uw e n;have noA:∀{b:Sg}{o:Obj}{es:Array Tz}{ep:Nat},s₁.heap.get? b=some o->o.data=.dict es ep->H b=none:=λ{b o es ep} e d=>by
   cases q:H b with
   |none=>rfl
   |some u=>
    have e':b=a:=hA b (by rw[q];simp);subst e';rw[ha]at e;cases e;have d':Data.seq vs.toArray _=Data.dict es ep:=d;cases d'
  have nsK:∀{b:Sg}{m:bg},s₁.heap.Ns b m->(mi s₁.heap H).Ns b m:=λ{b m} ⟨o,es,ep,e,d,r⟩=>⟨o,es,ep,base_of e (noA e d),d,r⟩
  have hKb:K.In (mi s₁.heap H):=λb o e=>base_of (KX b o e) (by
   cases q:H b with
   |none=>rfl
   |some u=>
    have e':b=a:=hA b (by rw[q];simp);subst e';rw[hK (by rw[q];simp)]at e;cases e)
  have hM:Mod K mg (mi s₁.heap H):=⟨hKb,nsK hns,⟨mb,nsK hb,hbb⟩,let ⟨mc,h1,h2⟩:=hlim;⟨mc,nsK h1,h2⟩⟩
  have e0:yI P w K mg (mi s₁.heap H) callerA [] s₁ H:=⟨rfl,hM,λb o e=>wU e,O7 (zc _ _),trivial,λb hb=>absurd (show b∈([]:ap)from hb) (by simp),hok,.of_eq hg⟩
  refine Th ((F _ hKb (nsK hns)).run callerA [] s₁ H ⟨[.ref a],[]⟩ [.ref a] [.ref a] _ _ hr e0 (hbind s₁ (.ref a)) (.cons rfl .nil) (hsp H hO hS)) λr s' h=>?_;cases r with
  |error e=>exact(hCX H e s' h).elim
  |ok fl=>
   cases fl with
   |next=>exact False.elim h
   |brk=>exact False.elim h
   |cont=>exact False.elim h
   |ret u=>
    obtain⟨v,H',os,bare,un,hok',r',q⟩:=h;have q':v=.bl true:=q;subst q';obtain rfl:u=Value.bool true:=r';refine⟨rfl,OldK.of_keep λb o e=>?_,os,bare⟩;cases q:H b with
    |none=>exact un.keep b o e q (by intro z;exact absurd (show b∈([]:ap)from z) (by simp)) (by simp)
    |some u=>
     rcases hO b with z|⟨ob,xs,z⟩
     ·rw[q]at z;cases z
     ·have z2:=un.frzs b ob _ z;obtain⟨e1,_⟩:=hok b _ z;obtain⟨e2,_⟩:=hok' b _ z2;rw[e]at e1;cases e1;exact e2
 cases hk:K.lookup a with
 |some o=>
  have e:=KX a o hk;rw[ha]at e;cases e;refine core (λ_=>none) (λ_=>.inl rfl) (.inr ⟨_,vs.toArray,_,hk,rfl,rfl,rfl,by rw[O2,lenV];exact hl,by simpa using rv⟩) (λb u z=>by have z':(none:Option HO)=some u:=z;cases z') (λb z=>absurd rfl z) λz=>absurd rfl z
 |none=>
  refine core (λb=>if b=a then some (.frz {cls:=.type "list",data:=.seq vs.toArray} (.lst (ns.map V.int)))else none) (λb=>?_) (.inl (.inr ⟨{cls:=.type "list",data:=.seq vs.toArray},if_pos rfl⟩)) (λb u z=>?_) (λb z=>?_) λ_=>hk
  ·by_cases hb:b=a
   ·exact .inr ⟨_,_,if_pos hb⟩
   ·exact .inl (if_neg hb)
  ·by_cases hb:b=a
   ·have z':=(if_pos hb).symm.trans z;cases z';subst hb;exact⟨ha,by rw[O6];exact hl,vs,_,rv,ha⟩
   ·have z':=(if_neg hb).symm.trans z;cases z'
  ·by_cases hb:b=a
   ·exact hb
   ·exact absurd (if_neg hb) z
theorem KP{l:Rt}{n k:Nat}{q:Sn}{loose:ah}{XP:(bg)->Sr->Prop}{YP:Sl->Sr->Prop}{d:DefRec}{K:Params->QR}{CX:Sl->sZ}{sp:Sl->Sp}{x:Str}
  (hn:l.most=some n) (hn2:n<=Ss) (hdf:d.params.defaults=[]) (hr:dq k callerA)
  (hY:∀(w:Sl)(h:Sr),YP w h->(K w.params).In h)
  (F:∀ (w:Sl) (mg:bg) (fa:Sg) (h:Sr),(K w.params).In h->h.Ns Su mg->mg d.name=some (.ref fa) ->
   ∃fd:Te,(∀(s:Sj)(u:Se),Tf s fd ⟨[u],[]⟩ [(x,u)])/\
    ∀base:Sr,(K w.params).In base->base.Ns Su mg->fG l.prog w (K w.params) mg base (CX w) k fa fd [x] (sp w))
  (hsp:∀(w:Sl)(H:Hp)(a:Sg)(ns:List Int),ns.length<=n->Only H->kg (K w.params) H a (ns.map V.int)->sp w [.ref a] H (λv _=>v=.bl true) λ_ _ _=>False)
  (hCX:∀(w:Sl)(H:Hp)(s:Sj)(e:Se)(s':Sj),CX w [] H s (λ_ _ _=>False) e s'->False):
  PySem.W.WalkO q loose XP YP l.row.toRowW d [] (λf vs=>PySem.call f vs):=by
 refine Att.FH hn hdf λw s₀ s₁ mg mb fa o pm cd doc a vs ns G Y ho hd hcd hmg hobj hints hlen hg=>?_;have KX:=hY w _ Y;obtain⟨fd,hb,hF⟩:=F w mg fa _ KX G.T.g hmg;exact A3 KX G.T.g G.T.b G.T.builtins G.T.nolimit hg hobj hints (OM hlen hn2) hr hF hb (λH hO hS=>hsp w H a ns hlen hO hS) λH e s'=>hCX w H s₁ e s'
noncomputable def inClass(s:Si)(j:Nat):Si:=match s with
 |.ClassDef _ _ _ body _ _ _ _ _ _ _=>body.getD j (.Pass ⟨0,0,0,0⟩)
 |_=>.Pass ⟨0,0,0,0⟩
noncomputable def il(s:Si):Arguments:=match s with
 |.FunctionDef _ a _ _ _ _ _ _ _ _=>a
 |_=>{posonlyargs:=[],args:=[],vararg:=none,kwonlyargs:=[],kw_defaults:=[],kwarg:=none,defaults:=[]}
noncomputable def cH(s:Si):cS:=match s with
 |.FunctionDef _ _ b _ _ _ _ _ _ _=>b
 |_=>[]
noncomputable def aj(s:Si):Sx:=match s with
 |.FunctionDef _ _ _ _ _ _ sc _ _ _=>sc
 |_=>{kind:=.function,names:=[],isGenerator:=false,isCoroutine:=false}
noncomputable abbrev Kz:sZ:=λ_ _ _ _ _ _=>False
noncomputable abbrev E0:XK:=λ_ _ _=>False
structure kc(K:QR)(x qual:Str)(st:Si)(f:Sg)(fd:Te):Prop where
 ex:∃(oc:Se)(od:Option Sg)(kV doc pm:Se)(an:Option Sg)(cdv ct:Se)(osl:Array (Option Se)),
  fd=Rp x qual (il st) (cH st) (aj st) .none kV doc pm an cdv ct/\K.lookup f=some ⟨oc,od,.func fd,osl⟩/\Rq K cdv qual=true
 kp:Rm K (.ref f)=true
section
variable{P:Sn}{w:Sl}{K:QR}{mg:bg}{base:Sr}
theorem kc.ok{x qual:Str}{st:Si}{f:Sg}{fd:Te}{N ps:ah}{k:Nat}{sp:Sp}(F:kc K x qual st f fd)(S:aO N ps (aj st))(len:∀vs H Q E,sp vs H Q E->vs.length=ps.length)
  (hbody:∀ (cdv:Se) (A:Sw) (outer:List Env) (s:Sj) (H:Hp) (vs:ax) (Q:VK) (E:XK),dq k (A.deeper (envOfC qual (aj st) s.heap.objs.size f cdv))->sp vs H Q E ->
   ∃t,pH (eY Kz P w K mg base N qual (aj st) f cdv A outer s H E).nox (cH st) t/\t {nx:=λ_ H'=>Q .non H',rt:=Q} (start N vs) H):fG P w K mg base Kz (k+1) f fd ps sp:=by
 obtain⟨oc,od,kV,doc,pm,an,cdv,ct,osl,rfl,lk,hcd⟩:=F.ex;refine FU lk hcd S len λA outer s H vs Q E hr hsp=>?_;obtain⟨t,h,q⟩:=hbody cdv A outer s H vs Q E hr hsp;exact⟨t,h.nox,q⟩
theorem kc.binds{x qual:Str}{st:Si}{f:Sg}{fd:Te}{ps:ah}(F:kc K x qual st f fd)
  (h:∀(kV doc pm:Se)(an:Option Sg)(cdv ct:Se)(us:aP),us.length=ps.length->bindArgs (Rp x qual (il st) (cH st) (aj st) .none kV doc pm an cdv ct) ⟨us,[]⟩=pure (ps.zip us)):Binds K fd ps []:=by
 obtain⟨oc,od,kV,doc,pm,an,cdv,ct,osl,rfl,lk,hcd⟩:=F.ex;exact .all (h kV doc pm an cdv ct)
theorem b8{x qual:Str}{st:Si}{f:Sg}{oc:Se}{od an:Option Sg}{osl:Array (Option Se)}{kV doc pm cdv ct:Se}(l:K.lookup f=some ⟨oc,od,.func (Rp x qual (il st) (cH st) (aj st) .none kV doc pm an cdv ct),osl⟩)
  (c:Rq K cdv qual=true) (k:Rm K (.ref f)=true):kc K x qual st f (Rp x qual (il st) (cH st) (aj st) .none kV doc pm an cdv ct):=⟨⟨oc,od,kV,doc,pm,an,cdv,ct,osl,rfl,l,c⟩,k⟩
end
section
variable{X:Cx}
theorem pv(i:Nat){x:Str}{pos:Pos}(hN:X.N[i]?=some x:=by rfl)(hv:H0 X.env.scope x:=by first|exact Or.inl rfl|exact Or.inr (Or.inl rfl)|exact Or.inr (Or.inr rfl))(hd:(x==("__debug__":Str))=false:=by decide)
  (hcd:(x==("__classdict__":Str))=false:=by decide):PE X (.Name x pos) (pP i):=Hk hN hv hd hcd
end
theorem pL{A B:Prop}(h:B):if false=true then A else B:=by
 rw[if_neg OX];exact h
theorem pR{A B:Prop}(h:A):if true=true then A else B:=by
 rw[if_pos rfl];exact h
noncomputable def aB(H H':Hp):Prop:=∀b o,H b=some o->H' b=some o
theorem aB.refl(H:Hp):aB H H:=λ_ _ h=>h
theorem aB.trans{H H1 H2:Hp}(a:aB H H1)(b:aB H1 H2):aB H H2:=λc o h=>b c o (a c o h)
theorem aB.free{H H':Hp}(e:aB H H'){l:Sg}(h:H' l=Option.none):H l=Option.none:=by
 cases q:H l with
 |none=>rfl
 |some o=>
  rw[e l o q]at h;cases h
theorem aB.seq{K:QR}{H H':Hp}{a:Sg}{xs:ax}(e:aB H H')(h:kg K H a xs):kg K H' a xs:=by
 rcases h with(h|⟨o,h⟩)|h
 ·exact .inl (.inl (e _ _ h))
 ·exact .inl (.inr ⟨o,e _ _ h⟩)
 ·exact .inr h
theorem FP{P:Sn}{w:Sl}{k:Key}{u:Se}(r:RelV (kV k) u):(fX P w).is k u=true:=by
 cases k with
 |inl i=>obtain⟨t,e⟩:=(show∃t,u=Value.int i t from r);subst e;exact tJ P w i t
 |inr x=>obtain⟨t,e⟩:=(show∃t,u=Value.str x t from r);subst e;exact jr P w x t
section
variable{X:Cx}{pins:aM}{σ:St}{H:Hp}{s:Sj}{a:Sg}{y v:V}{u r:Se}{o:Option V}{A:Sw}{E:bf}
end
noncomputable def Iw(i:Sh):Prop:=∀ov iv,subscripted i false ov iv=operate [ov,iv] (getItem ov iv)
theorem CU{prog:Sn}{w:Sl}{A:Sw}{E:bf}{s:Sj}{env:Env}{value slice:Sh}{pos:Pos}{T id:String}{Q:bf}
  (hl:typeLookup (.type T) "__getitem__"=pure (some (.builtin id))) (hs:Iw slice)
  (h:Sz (model prog w) A (eval value env) (λo s₁=>Sz (model prog w) A (eval slice env) (λi s₂=>s₂.TypeIs o T/\Sz (model prog w) A (getItem o i) Q E s₂) E s₁) E s):
  Sz (model prog w) A (eval (.Subscript value slice pos) env) Q E s:=by
 refine Subscript_ (SD h (λo s₁ h₁=>SD h₁ (λi s₂ h₂=>?_) λ_ _ x=>x) λ_ _ x=>x);obtain⟨hT,h₂⟩:=h₂;unfold subscriptTail;refine SN ?_;rw[getitemInPython_of_ne hT.not_modules];refine SN (TB hT hl ?_);have fin:Sz (model prog w) A (subscripted slice false o i) (λr s₃=>Sz (model prog w) A (letTemporaryGo value o r >>= λ_=>pure r) Q E s₃) E s₂:=by
  rw[hs o i];exact wpAny_operating (SD h₂ (λr s₃ h₃=>SN (wpAny_letTemporaryGo (SM h₃))) λ_ _ x=>x)
 first
  |exact SM (SN fin)
  |exact SN (SM (SN fin))
  |exact SN fin
noncomputable def df(cells:lQ):n8->lQ->lQ
 |[],acc=>acc
 |(n,k)::r,acc=>if k=.free then(match cells.lookup n with|some c=>df cells r ((n,c)::acc)|none=>df cells r acc)else df cells r acc
theorem jQ{cells:lQ}:∀(names:n8)(acc:lQ),(∀x c,acc.lookup x=some c->cells.lookup x=some c)->
  ∀x c,(df cells names acc).lookup x=some c->cells.lookup x=some c
 |[],acc,h=>h
 |(n,k)::r,acc,h=>by
  unfold df;by_cases hk:k=.free
  ·rw[if_pos hk];cases e:cells.lookup n with
   |none=>exact jQ r acc h
   |some c0=>
    refine jQ r _ λx c q=>?_;rw[Pz]at q;cases hx:x==n with
    |true=>
     rw[hx]at q;have e1:x=n:=(by simpa using hx);cases q;rw[e1];exact e
    |false=>rw[hx]at q;exact h x c q
  ·rw[if_neg hk];exact jQ r acc h
theorem iF{cells:lQ}:∀(names:n8)(acc:lQ)(x:Str),(acc.lookup x).isSome=true->((df cells names acc).lookup x).isSome=true
 |[],acc,x,h=>h
 |(n,k)::r,acc,x,h=>by
  unfold df;by_cases hk:k=.free
  ·rw[if_pos hk];cases e:cells.lookup n with
   |none=>exact iF r acc x h
   |some c0=>
    refine iF r _ x ?_;rw[Pz];cases hx:x==n with
    |true=>rfl
    |false=>exact h
  ·rw[if_neg hk];exact iF r acc x h
theorem hV{cells:lQ}:∀(names:n8)(acc:lQ)(x:Str),(x,NameKind.free)∈names->(∃c,cells.lookup x=some c)->((df cells names acc).lookup x).isSome=true
 |[],acc,x,h,_=>absurd h (by simp)
 |(n,k)::r,acc,x,h,hc=>by
  unfold df;rcases List.mem_cons.mp h with e|h
  ·cases e;rw[if_pos rfl];obtain⟨c,e⟩:=hc;rw[e];refine iF r _ _ ?_;rw[Pz];simp
  ·by_cases hk:k=.free
   ·rw[if_pos hk];cases e:cells.lookup n with
    |none=>exact hV r acc x h hc
    |some c0=>exact hV r _ x h hc
   ·rw[if_neg hk];exact hV r acc x h hc
theorem lm{scope:Sx}{env:Env}(h:∀p∈scope.names,p.2=.free->∃c,env.cells.lookup p.1=some c):closureFor scope env=pure (df env.cells scope.names []):=by
 have go:∀(names:n8)(acc:lQ),(∀p∈names,p.2=.free->∃c,env.cells.lookup p.1=some c)->
   (forIn names acc λx cs=>(match x with|(name,kind)=>if(kind==NameKind.free)=true then do let a<-cellOf env name;pure (ForInStep.yield ((name,a)::cs))else pure (ForInStep.yield cs):Sem (ForInStep lQ)))=pure (df env.cells names acc):=by
  intro names
  induction names with
  |nil=>intro acc _;rfl
  |cons p r ih=>
   intro acc hp;obtain⟨n,k⟩:=p;rw[PB];by_cases hk:k=.free
   ·obtain⟨c,e⟩:=hp (n,k) OS hk;subst hk;have e2:cellOf env n=pure c:=(by unfold cellOf;rw[e]);simp only[beq_self_eq_true,if_true,e2,pure_bind];rw[ih _ λq hq=>hp q (OT _ hq)]
    conv=>rhs;rw[df]
    simp[e]
   ·have hb:(k==NameKind.free)=false:=(by simpa using hk);simp only[hb,PC,if_false,pure_bind];rw[ih _ λq hq=>hp q (OT _ hq)]
    conv=>rhs;rw[df,if_neg hk]
 have:=go scope.names [] h
 unfold closureFor;simp only[];rw[this];rfl
noncomputable def bH(X:Cx)(scope:Sx)(N:ah)(cl:lQ)(C:Sg)(fp:ap)(s:Sj)(H:Hp)(E:bf):Cx where
 prog:=X.prog
 w:=X.w
 K:=X.K
 mg:=X.mg
 base:=X.base
 A:=X.A
 N:=N
 s₀:=s
 H₀:=H
 env:=compEnvC scope cl C X.env
 outer:=X.stack
 stack:=X.stack
 ex:=fp
 fn:=λ_=>false
 calm:=X.calm
 pn:=[]
 xe:=E
noncomputable def sG(XN N:ah)(names:n8)(ix:gj):Bool:=
 decide (ix.length=N.length)&&(N.zip ix).all λp=>match p.2 with
  |some i=>decide (XN[i]?=some p.1)&&decide (names.lookup p.1=some .free)
  |none=>true
noncomputable def inBlock(ix:gj)(σ:St):St:=ix.map λo=>match o with
 |some i=>(σ[i]?).getD none
 |none=>none
theorem sG.len{XN N:ah}{names:n8}{ix:gj}(h:sG XN N names ix=true):ix.length=N.length:=by
 unfold sG at h;rw[Pt]at h;exact of_decide_eq_true h.1
theorem sG.at_{XN N:ah}{names:n8}{ix:gj}(h:sG XN N names ix=true){j i:Nat}{x:Str}(h1:N[j]?=some x)(h2:ix[j]?=some (some i)):XN[i]?=some x/\names.lookup x=some .free:=by
 unfold sG at h;rw[Pt]at h;have hm:(x,some i)∈N.zip ix:=by
  have e:(N.zip ix)[j]?=some (x,some i):=by rw[List.getElem?_zip_eq_some];exact⟨h1,h2⟩
  exact Pn e
 have q:=List.all_eq_true.mp h.2 _ hm;simp only[Pt]at q;exact⟨of_decide_eq_true q.1,of_decide_eq_true q.2⟩
theorem jq{env:Env}:∀{names:n8}{x:Str}{k:Sf},
  (names.map λ(n,k)=>if(k==NameKind.free&&env.scope.kind==.function&&env.kindOf n==some .cell)then(n,NameKind.cell)else(n,k)).lookup x=some k->
  names.lookup x=some k\/(names.lookup x=some .free/\k=.cell)
 |[],_,_,h=>by simp at h
 |(n,k0)::r,x,k,h=>by
  have ih:=@jq env r x k
  replace h:List.lookup x ((if(k0==NameKind.free&&env.scope.kind==.function&&env.kindOf n==some .cell)=true then(n,NameKind.cell)else(n,k0))::(r.map λ(n,k)=>if(k==NameKind.free&&env.scope.kind==.function&&env.kindOf n==some .cell)then(n,NameKind.cell)else(n,k)))=some k:=h
  by_cases hc:(k0==NameKind.free&&env.scope.kind==.function&&env.kindOf n==some .cell)=true
  ·rw[if_pos hc]at h;have hk0:k0=.free:=by
    simp only[Pt]at hc
    simpa using hc.1.1
   cases hx:x==n with
   |true=>
    simp only[Pz,hx]at h;simp only[Pz,hx];cases h;exact .inr ⟨by rw[hk0],rfl⟩
   |false=>
    simp only[Pz,hx]at h ⊢;exact ih h
  ·rw[if_neg hc]at h;cases hx:x==n with
   |true=>
    simp only[Pz,hx]at h ⊢;exact .inl h
   |false=>
    simp only[Pz,hx]at h ⊢;exact ih h
noncomputable def Ho(X:Cx)(ifs:aF)(t:TT):Prop:=
 ∀(pins:aM)(s:Sj)(σ:St)(H:Hp)(Q:Bool->Hp->Prop),Inv X pins σ H s->t σ H Q->
  Sz (model X.prog X.w) X.A (forIn ifs true λc r=>if r=true then do let ok<-isTrue c X.env (eval c X.env);pure (ForInStep.yield ok)else pure (ForInStep.yield r)) (TP X pins σ Q) X.xe s
noncomputable def JA:TT:=λ_ H Q=>Q true H
theorem Du{X:Cx}:Ho X [] JA:=λ_ _ _ H _ I h=>wpAny_tests_nil ⟨H,I,h⟩
theorem DZ{X:Cx}{c:Sh}{t:TT}(h:PT X c t):Ho X [c] t:=λpins s σ H Q I q=>wpAny_tests_one (h pins s σ H Q I q)
theorem je{prog:Sn}{w:Sl}{A:Sw}{R:S6->iH}{s:Sj}{elt target iter:Sh}{ifs:aF}{scope:Sx}{pos:Pos}{it acc:Se}{env:Env}(I:Nat->iH)
  (turn:∀ n s,I n s->Sz (model prog w) A (pyNext it) (fun r s₁=>match r with
   |none=>R (.ok .next) s₁
   |some v=>Sz (model prog w) A (letOwnedTupleGo target it v) (λ_ s₁'=>Sz (model prog w) A (assign target env v) (λ_ s₂=>
     Sz (model prog w) A (forIn ifs true λc r=>if r=true then do let ok<-isTrue c env (eval c env);pure (ForInStep.yield ok)else pure (ForInStep.yield r)) (λok s₃=>
      if ok=true then Sz (model prog w) A (eval elt env) (λx s₄=>
       Sz (model prog w) A (call (.builtin "list.append") [acc,x]) (λ_ s₅=>∃m,m<n/\I m s₅) (notedBy (model prog w) A env λe s'=>R (.error e) s') s₄) (notedBy (model prog w) A env λe s'=>R (.error e) s') s₃
      else∃m,m<n/\I m s₃) (notedBy (model prog w) A env λe s'=>R (.error e) s') s₂) (notedBy (model prog w) A env λe s'=>R (.error e) s') s₁') (notedBy (model prog w) A env λe s'=>R (.error e) s') s₁) (notedBy (model prog w) A env λe s'=>R (.error e) s') s)
  (n:Nat) (h:I n s):
  S8 (model prog w) A (.compLoop (.ListComp elt [⟨target,iter,ifs,0⟩] scope pos) 0 it acc env) R s:=by
 refine codeAny_loop rfl I (λn s hI=>?_) n h;show Sz _ A ((compTurn (.ListComp elt [⟨target,iter,ifs,0⟩] scope pos) 0 it acc env).onRaise (λx=>do noteFrame x env;theTreesLotGoes x)) _ _ s;refine wpAny_noted ?_;rw[compTurn_list];refine SN (wpAny_standAt (SN (SD (turn n s hI) (λr s₁ h₁=>?_) λ_ _ h'=>h')));cases r with
 |none=>exact SM h₁
 |some v=>
  refine SN (SD h₁ (λ_ s₁' h₁'=>?_) λ_ _ h'=>h');refine SN (SD h₁' (λ_ s₂ h₂=>SN (SD h₂ (λok s₃ h₃=>?_) λ_ _ h'=>h')) λ_ _ h'=>h');cases ok with
  |false=>exact SM ⟨rfl,h₃⟩
  |true=>
   exact SN (SN (SD h₃ (λx s₄ h₄=>SN (SD h₄ (λ_ s₅ h₅=>SM (SM ⟨rfl,h₅⟩)) λ_ _ h'=>h')) λ_ _ h'=>h'))
noncomputable def Kh(wi:TI)(g:TG)(tc:TT)(te:TE)(ix:gj):TE:=λσ H Q=>
 wi σ H λJ H1=>∀D,H1 D=none->∃W:Nat->Nat->St->Hp->Prop,(∃m,W 0 m (inBlock ix σ) (upd H1 D (.lst [])))/\
  ∀i m σ' H',W i m σ' H'->(J.stop i H'/\Q (.ref D) H') \/
   (J.go i H'/\∀ x H2,J.yld i H' x H2->g x σ' H2 fun σ3 H3=>tc σ3 H3 fun b H4 =>
    if b=true then te σ3 H4 λv H5=>∃acc,H5 D=some (.lst acc)/\acc.length<Ss/\∃m',m'<m/\W (i+1) m' σ3 (upd H5 D (.lst (acc++[v])))
    else∃m',m'<m/\W (i+1) m' σ3 H4)
section
variable{X:Cx}{elt tg iter:Sh}{ifs:aF}{scope:Sx}{pos:Pos}{N:ah}{ix:gj}{wi:TI}{g:TG}{tc:TT}{te:TE}
theorem pz{pins:aM}{σ:St}{s2:Sj}{H2:Hp}{it:Sg}{fp:ap}{tn:Nat->Sr->Prop}{J:It}{Q:V->Hp->Prop}{E:bf}{RR:Se->Sg->S6->iH}
    (hc:X.calm=true) (hcell:∀y∈scope.names,y.2≠.cell) (hkind:scope.kind=.function)
    (hfr:∀y∈scope.names,y.2=.free->X.env.scope.names.lookup y.1=some .cell\/X.env.scope.names.lookup y.1=some .free)
    (hix:sG X.N N scope.names ix=true)
    (hb:∀cl C fp s H E,PG (bH X scope N cl C fp s H E) tg g/\Ho (bH X scope N cl C fp s H E) ifs tc/\PE (bH X scope N cl C fp s H E) elt te)
    (I2:Inv X pins σ H2 s2) (T:Turn X.prog X.w X.K tg J fp it tn) (st2:tn 0 s2.heap) (f2:∀b∈fp,oM X pins H2 b)
    (q:∀ D,H2 D=none->∃ W:Nat->Nat->St->Hp->Prop,(∃ m,W 0 m (inBlock ix σ) (upd H2 D (.lst []))) /\
      ∀i m σ' H',W i m σ' H'->(J.stop i H'/\Q (.ref D) H') \/
        (J.go i H'/\∀ x H3,J.yld i H' x H3->g x σ' H3 fun σ3 H3=>tc σ3 H3 fun b H4 =>
          if b=true then te σ3 H4 λv H5=>∃acc,H5 D=some (.lst acc)/\acc.length<Ss/\∃m',m'<m/\W (i+1) m' σ3 (upd H5 D (.lst (acc++[v])))
          else∃m',m'<m/\W (i+1) m' σ3 H4))
    (hRR:∀D C H' s' m,H2 D=none->s2.heap.objs.size<=C->H' C=none->s'.heap.Ns C m->(∀h',RO C s'.heap h'->Inv X pins σ H' {s' with heap:=h'})->Q (.ref D) H'->RR (.ref D) C (.ok .next) s'):
    Sz (model X.prog X.w) X.A (newList []) (λacc s₃=>Sz (model X.prog X.w) X.A (newFunctionEnv scope X.env.globals (df X.env.cells scope.names []) [] X.env.qual none .none (some X.env)) (λcenv s₄=>
      S8 (model X.prog X.w) X.A (.compStart (.ListComp elt [⟨tg,iter,ifs,0⟩] scope pos) 0 (.ref it) acc {cenv with scope:=relabel scope X.env}) (RR acc cenv.locals) s₄) E s₃) E s2:=by
  refine Tv (wpAny_newFunctionEnv hcell (by intro y hy;simp at hy) (λh₁ hns₁ hsb₁=>?_) hkind);dsimp only at hns₁ hsb₁ ⊢;have I3:Inv X pins σ (upd H2 s2.heap.objs.size (.lst [])) {s2 with heap:=s2.heap.push {cls:=.type "list",dict:=none,data:=.seq ([]:aP).toArray},toks:=s2.toks}:=I2.lnew (its:=[]) (t':=s2.toks) .nil (O9 _);generalize hs3:({s2 with heap:=s2.heap.push {cls:=.type "list",dict:=none,data:=.seq ([]:aP).toArray},toks:=s2.toks}:Sj)=s3 at I3;have eh3:s2.heap.push {cls:=.type "list",dict:=none,data:=.seq ([]:aP).toArray}=s3.heap:=by rw[<-hs3]
  rw[eh3]at hns₁ hsb₁ ⊢;have hC3:s3.heap.objs.size=s2.heap.objs.size+1:=by rw[<-eh3,RQ]
  have hD:H2 s2.heap.objs.size=none:=I2.fresh;obtain⟨W,⟨m0,w0⟩,turn⟩:=q s2.heap.objs.size hD;generalize hH3:upd H2 s2.heap.objs.size (.lst [])=H3 at I3 w0;have old:∀b o,s3.heap.get? b=some o->h₁.get? b=some o:=λb o e=>hsb₁.extBut b o (OL (RN e)) (RP _ e);have fpH3:∀b∈fp,H3 b=none:=λb hb'=>by
    rw[<-hH3,av]
    ·exact(f2 b hb').1
    · obtain⟨o,e,_⟩:=T.obj _ _ st2 b hb'
      exact OL (RN e)
  have fpLt:∀b∈fp,b<s3.heap.objs.size:=λb hb'=>by
    obtain⟨o,e,_⟩:=T.obj _ _ st2 b hb';rw[hC3];exact Nat.lt_succ_of_lt (RN e)
  have hfree:∀p∈scope.names,p.2=.free->∃c,X.env.cells.lookup p.1=some c:=λp hp hk=>I2.ok.has p.1 (hfr p hp hk);have csub:∀x c,(df X.env.cells scope.names []).lookup x=some c->X.env.cells.lookup x=some c:=jQ scope.names [] (λx c e=>by simp at e);have names':∀x k,(relabel scope X.env).names.lookup x=some k->scope.names.lookup x=some k\/(scope.names.lookup x=some .free/\k=.cell):=λx k h=>jq h;have ok:(bH X scope N (df X.env.cells scope.names []) s3.heap.objs.size fp s3 H3 (notedBy (model X.prog X.w) X.A (compEnvC scope (df X.env.cells scope.names []) s3.heap.objs.size X.env) λe s'=>RR (.ref s2.heap.objs.size) s3.heap.objs.size (.error e) s')).Ok:=
    { mod:=I3.ok.mod
      kind:=hkind
      glob:=I3.ok.glob
      blt:=I3.ok.blt
      above:=OZ _
      inj:=λx y c h1 h2=>I3.ok.inj x y c (csub x c h1) (csub y c h2)
      has:=λx hx=>by
        have fr:scope.names.lookup x=some .free:=by
          rcases hx with hx|hx
          · rcases names' x .cell hx with h|⟨h,_⟩
            ·exact absurd rfl (hcell _ (PySem.mem_of_lookup h))
            ·exact h
          · rcases names' x .free hx with h|⟨_,h⟩
            ·exact h
            ·cases h
        have hm:=PySem.mem_of_lookup fr;exact Option.isSome_iff_exists.mp (hV scope.names [] x hm (hfree _ hm rfl))
      cab:=λx c h _=>by cases h
      hd:=I3.ok.hd
      frames:=I3.ok.frames
      stk:=.inl rfl
      exf:=λb hb'=>⟨OL (fpLt b hb'),λx c e=>(f2 b hb').2.2.2.2.1 x c (csub x c e)⟩
      bs:=λb o e=>I3.bs b o e
      bsz:=OM I3.ok.bsz I3.sz
      noex:=λb o e hb'=>by
        obtain⟨_,_,_,h4,_⟩:=f2 b hb';rcases h4 with h4|h4
        ·exact I3.ok.noex b o e h4
        ·exact absurd (OI (RN (I3.ok.bs b o e).1) h4) (OJ _)
      exfs:=λb hb' hs=>by
        obtain⟨_,h2,h3,_⟩:=f2 b hb';rcases List.mem_cons.mp (I3.stkSub b hs)with e|e
        ·exact h2 e
        ·exact h3 e
      funs:=I3.stack
      frf:=λb hb'=>I3.stkFree b hb'}
  generalize hE:(notedBy (model X.prog X.w) X.A (compEnvC scope (df X.env.cells scope.names []) s3.heap.objs.size X.env) λe s'=>RR (.ref s2.heap.objs.size) s3.heap.objs.size (.error e) s')=E' at ok;obtain⟨hg,htc,hel⟩:=hb (df X.env.cells scope.names []) s3.heap.objs.size fp s3 H3 E';have Istart:∀tk,Inv (bH X scope N (df X.env.cells scope.names []) s3.heap.objs.size fp s3 H3 E') [] (inBlock ix σ) H3 {s3 with heap:=h₁,toks:=tk}:=λtk=>by
    refine⟨ok,rfl,I3.bare,Un.kept old,⟨_,hns₁,λj x v e1 e2 _=>?_⟩,λx c e=>?_,I3.fresh,λx c e=>I3.freeC x c (csub x c e),λp hp=>absurd (show p∈([]:aM)from hp) (by simp),I3.hok.kept old,?_⟩
    ·
      unfold inBlock at e2;rw[Pm]at e2;cases q1:ix[j]? with
      |none=>rw[q1]at e2;simp at e2
      |some o=>
        rw[q1]at e2;cases o with
        |none=>simp at e2
        |some i=>
          obtain⟨n1,n2⟩:=sG.at_ hix e1 q1;have e2':(σ[i]?).getD none=some v:=Option.some.inj e2;have e3:σ[i]?=some (some v):=by
            cases q2:σ[i]? with
            |none=>rw[q2]at e2';simp at e2'
            |some o2=>rw[q2]at e2';simpa using e2'
          obtain⟨m,hn,hl⟩:=I3.loc;have hm:=PySem.mem_of_lookup n2;have hk:=hfr _ hm rfl;have hv:H0 X.env.scope x:=by
            rcases hk with hk|hk
            ·exact .inr (.inl hk)
            ·exact .inr (.inr hk)
          obtain⟨u,r,l⟩:=hl i x v n1 e3 hv;refine⟨u,r,.inr ?_⟩;rcases l with⟨kl,_⟩|⟨_,c,hcx,hcell'⟩
          · have kl':X.env.scope.names.lookup x=some .local:=kl
            rcases hk with hk|hk
            ·rw[kl']at hk;cases hk
            ·rw[kl']at hk;cases hk
          · obtain⟨c',hc'⟩:=Option.isSome_iff_exists.mp (hV (cells:=X.env.cells) scope.names [] x hm ⟨c,hcx⟩)
            have ec:c'=c:=Option.some.inj ((csub x c' hc').symm.trans hcx);subst ec;refine⟨?_,c',hc',?_⟩
            ·
              show(relabel scope X.env).names.lookup x=some .cell\/(relabel scope X.env).names.lookup x=some .free;have gen:∀names:n8,names.lookup x=some .free->((names.map λ(n,k)=>if(k==NameKind.free&&X.env.scope.kind==.function&&X.env.kindOf n==some .cell)then(n,NameKind.cell)else(n,k)).lookup x=some .cell\/(names.map λ(n,k)=>if(k==NameKind.free&&X.env.scope.kind==.function&&X.env.kindOf n==some .cell)then(n,NameKind.cell)else(n,k)).lookup x=some .free):=by
                intro names
                induction names with
                |nil=>intro h;simp at h
                |cons p r ih=>
                  obtain⟨n,k⟩:=p;intro h;show List.lookup x ((if(k==NameKind.free&&X.env.scope.kind==.function&&X.env.kindOf n==some .cell)=true then(n,NameKind.cell)else(n,k))::_)=_\/List.lookup x ((if(k==NameKind.free&&X.env.scope.kind==.function&&X.env.kindOf n==some .cell)=true then(n,NameKind.cell)else(n,k))::_)=_;cases hx:x==n with
                  |true=>
                    simp only[Pz,hx]at h;by_cases hcc:(k==NameKind.free&&X.env.scope.kind==.function&&X.env.kindOf n==some .cell)=true
                    ·rw[if_pos hcc];left;simp only[Pz,hx]
                    ·rw[if_neg hcc];right;simp only[Pz,hx];exact h
                  |false=>
                    simp only[Pz,hx]at h;by_cases hcc:(k==NameKind.free&&X.env.scope.kind==.function&&X.env.kindOf n==some .cell)=true
                    ·rw[if_pos hcc];simp only[Pz,hx];exact ih h
                    ·rw[if_neg hcc];simp only[Pz,hx];exact ih h
              exact gen scope.names n2
            ·exact hcell'.keeps old
    · obtain⟨v,z⟩:=I3.cell x c (csub x c e)
      exact⟨v,z.keeps old⟩
    · show(inBlock ix σ).length=N.length
      unfold inBlock;rw[O6];exact sG.len hix
  have stat:∀{H':Hp},(∀b∈fp,H' b=none)->∀b∈fp,oM (bH X scope N (df X.env.cells scope.names []) s3.heap.objs.size fp s3 H3 E') [] H' b:=λhn b hb'=>
    ⟨hn b hb',(ok.exf b hb').1,ok.exfs b hb',.inl hb',(ok.exf b hb').2,λp hp=>absurd (show p∈([]:aM)from hp) (by simp)⟩
  have tn1:tn 0 h₁:=T.keep _ _ _ st2 λb hb' o e=>old b o (by rw[<-eh3];exact RP _ e);have loop:∀tk,S8 (model X.prog X.w) X.A (.compLoop (.ListComp elt [⟨tg,iter,ifs,0⟩] scope pos) 0 (.ref it) (.ref s2.heap.objs.size) (compEnvC scope (df X.env.cells scope.names []) s3.heap.objs.size X.env))
      (RR (.ref s2.heap.objs.size) s3.heap.objs.size) {s3 with heap:=h₁,toks:=tk}:=by
    intro tk;refine je (λn s'=>∃i σ' H',Inv (bH X scope N (df X.env.cells scope.names []) s3.heap.objs.size fp s3 H3 E') [] σ' H' s'/\tn i s'.heap/\(∀b∈fp,H' b=none)/\W i n σ' H') ?_ m0 ⟨0,_,_,Istart tk,tn1,fpH3,w0⟩;rintro n s5 ⟨i,σ5,H5,I5,st5,fr5,w5⟩;rw[hE];rcases turn i n σ5 H5 w5 with⟨stop,qn⟩|⟨go,step⟩
    · refine dj (T.done (bH X scope N (df X.env.cells scope.names []) s3.heap.objs.size fp s3 H3 E') rfl rfl rfl hc i [] s5 σ5 H5 _ I5 (stat fr5) st5 stop) λr s6 zq=>zq.elim λhr I6=>?_
      subst hr;obtain⟨m6,hn6,_⟩:=I6.loc;refine hRR s2.heap.objs.size s3.heap.objs.size H5 s6 m6 hD (by rw[hC3];exact Pb _) I6.free hn6 (λh' sb=>?_) qn;have ne:∀b o,s3.heap.get? b=some o->b≠s3.heap.objs.size:=λb o e=>OL (RN e);refine I3.call' (s':={s6 with heap:=h'}) (H':=H5) (ch:=fp) I6.os ⟨λb o e n hb' hx=>?_,λb o e n hb' hx=>?_,λb o e n hx=>?_,λb o e hx=>?_,I6.base.tups,I6.base.frzs,I6.base.tbls⟩ ?_ I6.bare λb hb'=>?_
      ·exact(sb.2 b (ne b o e)).trans (I6.base.keep b o e n hb' hx)
      · obtain⟨sl,e1⟩:=I6.base.slot b o e n hb' hx
        exact⟨sl,(sb.2 b (ne b o e)).trans e1⟩
      ·exact I6.base.free b o e n hx
      · obtain⟨o',e1⟩:=I6.base.there b o e hx
        exact⟨o',(sb.2 b (ne b o e)).trans e1⟩
      · intro b ob e
        have hfreeC:H5 s3.heap.objs.size=none:=I6.free;refine(I6.hok b ob e).stay (λc v hcc q=>(sb.2 c ?_).trans q) (λ_ q=>q) λ_ _ q=>q;rintro rfl;rcases hcc with rfl|hcc
        ·rw[hfreeC]at e;cases e
        ·rw[hfreeC]at hcc;cases hcc
      · obtain⟨_,h2',_,h4',h5',h6'⟩:=f2 b hb'
        exact⟨h4',h2',h5',h6'⟩
    · refine dj (T.item (bH X scope N (df X.env.cells scope.names []) s3.heap.objs.size fp s3 H3 E') rfl rfl rfl hc i [] s5 σ5 H5 _ I5 (stat fr5) st5 go) λr s6 zq=>zq.elim λu zq=>zq.elim λhr h6=>?_
      subst hr;refine dj h6 λ_ s7 zq=>zq.elim λx zq=>zq.elim λH7 zq=>zq.elim λI7 zq=>zq.elim λr7 zq=>zq.elim λy7 zq=>zq.elim λst7 fr7=>?_;have I7':=I7.pinned (stat fr7) (T.obj _ _ st7);refine dj (hg _ s7 σ5 H7 x u _ I7' r7 (step x H7 y7)) λ_ s8 zq=>zq.elim λσ8 zq=>zq.elim λH8 zq=>zq.elim λI8 q8=>?_;refine dj (htc _ s8 σ8 H8 _ I8 q8) λb s9 zq=>zq.elim λH9 zq=>zq.elim λI9 q9=>?_;have again:∀{σ':St}{H':Hp}{s':Sj}{m':Nat},Inv (bH X scope N (df X.env.cells scope.names []) s3.heap.objs.size fp s3 H3 E') ([]++j8 fp s7.heap) σ' H' s'->m'<n->W (i+1) m' σ' H'->
          ∃m,m<n/\∃i σ' H',Inv (bH X scope N (df X.env.cells scope.names []) s3.heap.objs.size fp s3 H3 E') [] σ' H' s'/\tn i s'.heap/\(∀b∈fp,H' b=none)/\W i m σ' H':=λ{σ' H' s' m'} I' hm w'=>by
        refine⟨m',hm,i+1,σ',H',I'.unpinned,T.keep _ _ _ st7 λb hb' o e=>(I'.pin (b,o) (O0 _ (O0 _ (gC hb' e)))).1,λb hb'=>?_,w'⟩;obtain⟨o,e,d⟩:=T.obj _ _ st7 b hb';exact(I'.pin (b,o) (O0 _ (O0 _ (gC hb' e)))).2.1
      cases b with
      |false=>
        rw[if_neg OX]at q9 ⊢;obtain⟨m',hm,w9⟩:=q9;exact again I9 hm w9
      |true=>
        rw[if_pos rfl]at q9 ⊢;refine dj (hel _ s9 σ8 H9 _ I9 q9) λy s10 zq=>zq.elim λv zq=>zq.elim λH10 zq=>zq.elim λI10 zq=>zq.elim λr10 q10=>?_;obtain⟨acc,ha,hz,m',hm,w10⟩:=q10;refine dj (lV _ s10 σ8 H10 (.ref s2.heap.objs.size) [v] (.ref s2.heap.objs.size) [y] (λ_ H'=>H'=upd H10 s2.heap.objs.size (.lst (acc++[v]))) I10 rfl (.cons r10 .nil) ⟨_,acc,v,rfl,rfl,ha,hz,rfl⟩) λ_ s11 zq=>zq.elim λ_ zq=>zq.elim λH11 zq=>zq.elim λI11 zq=>zq.elim λ_ Lf=>?_;subst Lf;exact again I11 hm w10
  subst hs3;exact codeAny_compStart_list (loop _) (T.self _ 0 _ _ _ tn1 (loop _))
theorem Gz(hc:X.calm=true)(hcell:∀y∈scope.names,y.2≠.cell)(hkind:scope.kind=.function)(hnames:∀y∈scope.names,y.2=.local->scope.names.lookup y.1=some .local)
  (hfr:∀y∈scope.names,y.2=.free->X.env.scope.names.lookup y.1=some .cell\/X.env.scope.names.lookup y.1=some .free)
  (hix:sG X.N N scope.names ix=true) (hi:PI X tg iter wi)
  (hb:∀cl C fp s H E,PG (bH X scope N cl C fp s H E) tg g/\Ho (bH X scope N cl C fp s H E) ifs tc/\PE (bH X scope N cl C fp s H E) elt te)
  (hs:∀x,SU iter X.env x=pure x:=by intro _;rfl):PE X (.ListComp elt [⟨tg,iter,ifs,0⟩] scope pos) (Kh wi g tc te ix):=by
 intro pins s σ H Q I h;rw[eval_ListComp];refine TC (use:=none) rfl hs (lm λp hp hk=>I.ok.has p.1 (hfr p hp hk)) hkind hnames (dj (hi pins s σ H _ I h) λv s1 h1=>dj h1 λitv s2 h2=>?_);obtain⟨it,fp,tn,J,H2,e,I2,T,st2,f2,q⟩:=h2;subst e;refine pz (Q:=Q) (RR:=λacc C=>compPost (model X.prog X.w) X.A X.xe none (EP X pins σ Q) acc C) hc hcell hkind hfr hix hb I2 T st2 f2 q ?_;intro D C H' s' m _ _ _ hn hI hq;exact⟨m,hn,λh' sb=>⟨.ref D,H',hI h' sb,rfl,hq⟩⟩
theorem Gr{i:Nat}{y:Str}{py spos:Pos}(hN:X.N.Nodup)(hi':X.N[i]?=some y)(hx:Loc X.env.scope y)
  (hc:X.calm=true) (hcell:∀y∈scope.names,y.2≠.cell) (hkind:scope.kind=.function) (hnames:∀y∈scope.names,y.2=.local->scope.names.lookup y.1=some .local)
  (hfr:∀y∈scope.names,y.2=.free->X.env.scope.names.lookup y.1=some .cell\/X.env.scope.names.lookup y.1=some .free)
  (hix:sG X.N N scope.names ix=true) (hi:PI X tg iter wi)
  (hb:∀cl C fp s H E,PG (bH X scope N cl C fp s H E) tg g/\Ho (bH X scope N cl C fp s H E) ifs tc/\PE (bH X scope N cl C fp s H E) elt te)
  (hsw:swapsWith (.ListComp elt [⟨tg,iter,ifs,0⟩] scope pos) (some (.Name y py)) spos.line X.env=pure true:=by rfl)
  (hs:∀x,SU iter X.env x=pure x:=by intro _;rfl)
  (hf:X.fn y=true\/X.env.scope.names.lookup y=some .local:=by first|exact .inl rfl|exact .inr rfl|assumption):
  PS X (.Assign [.Name y py] (.ListComp elt [⟨tg,iter,ifs,0⟩] scope pos) spos) (Aa (Kh wi g tc te ix) (qB i)):=by
 intro pins s σ H D0 I h;rw[exec_Assign_Name_used _ _ _ _ hsw];refine SN (wpAny_standAt (SN ?_));show Sz _ X.A (do let _<-comprehension (.ListComp elt [⟨tg,iter,ifs,0⟩] scope pos) scope X.env _ (newList []) false (eval iter X.env) (some (assign (.Name y py) X.env))) _ _ s;refine SN (dj (TC (use:=some (assign (.Name y py) X.env)) (Q:=λ_ s'=>SP X pins D0 .next s') rfl hs (lm λp hp hk=>I.ok.has p.1 (hfr p hp hk)) hkind hnames
  (dj (hi pins s σ H _ I h) λv s1 h1=>dj h1 λitv s2 h2=>?_)) λ_ s' hq=>SM (SM hq))
 obtain⟨it,fp,tn,J,H2,e,I2,T,st2,f2,q⟩:=h2;subst e;refine pz (Q:=λv H'=>qB i v σ H' D0.nx) (RR:=λacc C=>compPost (model X.prog X.w) X.A X.xe (some (assign (.Name y py) X.env)) (λ_ s'=>SP X pins D0 .next s') acc C) hc hcell hkind hfr hix hb I2 T st2 f2 q ?_;intro D C H' s' m _ hC hfree hn hI hq;have I':Inv X pins σ H' s':=hI s'.heap (.refl ..);have nL:C≠X.env.locals:=OY (OI I2.lt hC);have nC:∀x c,X.env.cells.lookup x=some c->c≠C:=λx c e z=>by
  obtain⟨v,q⟩:=I2.cell x c e;exact absurd (OI q.lt (by rw[z];exact hC)) (OJ _)
 have nP:∀p∈X.pn++pins,p.1≠C:=λp hp z=>absurd (OI (RN (I2.pin p hp).1) (by rw[z];exact hC)) (OJ _);show Sz _ X.A (assign (.Name y py) X.env (.ref D)) _ _ _;refine SJ (qG I' hN hi' hx (v:=.ref D) rfl (λs'' I'' ch=>?_) hf);obtain⟨a,sb,ha⟩:=ch;have hCa:C≠a:=by
  rcases ha with ha|ha
  ·rw[ha];exact nL
  ·exact Ne.symm (nC y a ha)
 refine⟨m,hn.sameBut sb hCa,λh' sb'=>⟨_,H',?_,hq⟩⟩;exact I''.turned (t':=s''.toks) (λb o hb' e=>(sb'.2 b hb').trans e) hfree nL (.inr (OM I2.sz hC)) nC nP
end
end L2
namespace TG
open PySem PySem.Spec
noncomputable def DP{α:Type}:Sem α->Prop
 |.pure _=>True
 |.raise _=>True
 |.unsupported _=>True
 |.finish _=>True
 |.rule _ k=>DP (k ())
 |.at _ k=>DP (k ())
 |.load _ _ k=>∀o,DP (k o)
 |.update _ _ f k=>(∀o,(f o).dict=o.dict)/\DP (k ())
 |.loadIfAlive _ k=>∀o,DP (k o)
 |.point _ k=>DP (k ())
 |.alloc _ k=>∀a,DP (k a)
 |.fresh k=>∀a,DP (k a)
 |.ask k=>∀a,DP (k a)
 |.stack k=>∀a,DP (k a)
 |_=>False
theorem DP.bind{α β:Type}{f:α->Sem β}(hf:∀a,DP (f a)):∀{m:Sem α},DP m->DP (m >>= f):=λ{m} h=>by
 show DP (m.bind f)
 induction m with
 |pure a=>exact hf a
 |raise _=>trivial
 |unsupported _=>trivial
 |finish _=>trivial
 |rule _ k ih=>exact ih () h
 |«at» _ k ih=>exact ih () h
 |load _ _ k ih=>exact λo=>ih o (h o)
 |update _ _ g k ih=>exact⟨h.1,ih () h.2⟩
 |loadIfAlive _ k ih=>exact λo=>ih o (h o)
 |point _ k ih=>exact ih () h
 |alloc _ k ih=>exact λo=>ih o (h o)
 |fresh k ih=>exact λo=>ih o (h o)
 |ask k ih=>exact λo=>ih o (h o)
 |stack k ih=>exact λo=>ih o (h o)
 |_=>exact h.elim
noncomputable def DS(h h':Sr):Prop:=∀(a:Nat)(o:Obj),h.objs[a]?=some o->∃o',h'.objs[a]?=some o'/\o'.dict=o.dict
theorem DS.refl(h:Sr):DS h h:=λ_ o e=>⟨o,e,rfl⟩
theorem DS.trans{h1 h2 h3:Sr}(x:DS h1 h2)(y:DS h2 h3):DS h1 h3:=λa o e=>by
 obtain⟨o1,e1,d1⟩:=x a o e;obtain⟨o2,e2,d2⟩:=y a o1 e1;exact⟨o2,e2,d2.trans d1⟩
theorem tK{h:Sr}{a:Sg}{o:Obj}(e:h.get? a=some o):h.objs[a]?=some o:=by
 unfold Heap.get? at e;split at e
 ·cases e
 ·exact e
theorem DS.dict{h h':Sr}(x:DS h h'){a:Sg}{o o':Obj}(e:h.get? a=some o)(e':h'.get? a=some o'):o'.dict=o.dict:=by
 obtain⟨o1,e1,d1⟩:=x a o (tK e);rw[tK e']at e1;cases e1;exact d1
theorem DS.push(h:Sr)(o:Obj):DS h (h.push o):=λa u e=>⟨u,by
 show(h.objs.push o)[a]?=_
 have:=(Array.getElem?_eq_some_iff.mp e).1
 rw[Array.getElem?_push,if_neg ‹0›];exact e,rfl⟩
theorem DS.upd(h:Sr)(b:Sg){f:Obj->Obj}(hf:∀o,(f o).dict=o.dict):DS h (h.update b f):=λa u e=>by
 show∃o',(h.objs.modify b f)[a]?=some o'/\_;rw[Array.getElem?_modify,e];split
 ·exact⟨_,rfl,hf u⟩
 ·exact⟨_,rfl,rfl⟩
theorem DP.wp{α:Type}{M:Sy}{Γ:PySem.Ctx}{Q:α->Pos->Sj->Prop}{E:Se->Pos->Sj->Prop}{t:Sem α}(d:DP t){p:Pos}{s:Sj}(h:Sem.wp M Γ t Q E p s):Sem.wp M Γ t (λa p' s'=>Q a p' s'/\DS s.heap s'.heap) (λa p' s'=>E a p' s'/\DS s.heap s'.heap) p s:=by
 have go:∀(h0:Sr)(p:Pos)(s:Sj),DS h0 s.heap->Sem.wp M Γ t Q E p s->Sem.wp M Γ t (λa p' s'=>Q a p' s'/\DS h0 s'.heap) (λa p' s'=>E a p' s'/\DS h0 s'.heap) p s:=by
  intro h0;clear h
  induction t with
  |pure a=>exact λp s z h=>⟨h,z⟩
  |raise a=>exact λp s z h=>⟨h,z⟩
  |unsupported _=>exact λp s z h=>h
  |finish _=>exact λp s z h=>h
  |rule _ k ih=>exact λp s z h=>ih () d p s z h
  |«at» q k ih=>exact λp s z h=>ih () d q s z h
  |load a _ k ih=>exact λp s z h=>let ⟨o,ho,h⟩:=h;⟨o,ho,ih o (d o) p s z h⟩
  |update a _ f k ih=>exact λp s z h=>⟨h.1,ih () d.2 p _ (z.trans (DS.upd _ a d.1)) h.2⟩
  |loadIfAlive a k ih=>exact λp s z h=>ih _ (d _) p s z h
  |point _ k ih=>exact λp s z h=>ih () d p s z h
  |alloc o k ih=>exact λp s z h=>ih _ (d _) p _ (z.trans (DS.push _ o)) h
  |fresh k ih=>exact λp s z h=>ih _ (d _) p _ z h
  |ask k ih=>exact λp s z h=>ih _ (d _) p _ z h
  |stack k ih=>exact λp s z h=>ih _ (d _) p _ z h
  |_=>exact d.elim
 exact go s.heap p s (DS.refl _) h
theorem DP.any{α:Type}{M:Sy}{A:Sw}{Q:α->Sj->Prop}{E:Se->Sj->Prop}{t:Sem α}{s:Sj}(d:DP t)(h:Sz M A t Q E s):Sz M A t (λa s'=>Q a s'/\DS s.heap s'.heap) E s:=λΓ p hi=>Sem.wp_mono _ _ _ (λ_ _ _ x=>x) (λ_ _ _ x=>x.1) _ _ (d.wp (h Γ p hi))
theorem DP.go{M:Sy}{A:Sw}{Q:Unit->Sj->Prop}{E:Se->Sj->Prop}{t:Sem Unit}{s:Sj}{P:Sr->Prop}(d:DP t)(h:Sz M A t (λ_ s'=>∃h',s'={s with heap:=h'}/\P h') E s)(k:∀h',P h'->DS s.heap h'->Q () {s with heap:=h'}):Sz M A t Q E s:=SD (d.any h) (λ_ s' z=>by
 obtain⟨⟨h',rfl,p⟩,ds⟩:=z;exact k h' p ds) λ_ _ z=>z
theorem lh(v:Se)(i:Nat):DP (field v i):=by
 unfold field fieldsOf;cases v with
 |ref a=>
  refine DP.bind (λxs=>?_) ?_
  ·split<;>trivial
  ·refine DP.bind (λo=>?_) (λo=>trivial);split<;>trivial
 |_=>exact DP.bind (λxs=>by split<;>trivial) trivial
theorem wZ(a:Sg):DP (load a):=λ_=>trivial
theorem Iz(f:Array Se->Array Se)(o:Obj):(Obj.mapFields f o).dict=o.dict:=by
 unfold Obj.mapFields;split<;>rfl
theorem uM(v:Se)(i:Nat)(x:Se):DP (setField v i x):=by
 unfold setField;cases v with
 |ref a=>
  unfold updateField;refine DP.bind (λo=>?_) (wZ a);split
  ·split
   ·exact⟨Iz _,trivial⟩
   ·trivial
  ·trivial
 |_=>trivial
theorem mH(e:Se)(f:Option Sg):DP (setFlight e f):=by
 unfold setFlight;refine DP.bind (λtb=>?_) (lh _ _);split
 ·exact uM _ _ _
 ·trivial
theorem A7:DP stack:=λ_=>trivial
theorem zF:DP underTheClaimsCaller:=by
 unfold underTheClaimsCaller;exact λ_=>trivial
theorem tu:∀l:List Env,DP (readyFrames l)
 |[]=>trivial
 |env::outer=>by
  unfold readyFrames;cases env.frame with
  |none=>trivial
  |some f=>
   refine DP.bind ?_ (wZ f);intro o;split
   ·trivial
   ·refine DP.bind ?_ ?_
    ·intro b;refine DP.bind ?_ ?_
     ·intro b;refine DP.bind ?_ ?_
      ·intro _;exact tu outer
      ·exact⟨λ_=>rfl,trivial⟩
     ·unfold keptBack;split
      ·split
       ·trivial
       ·refine DP.bind ?_ zF;intro _;trivial
      ·trivial
    ·unfold behindIsImport;split
     ·trivial
     ·split
      ·trivial
      ·refine DP.bind ?_ (lh _ _);intro _;trivial
theorem DB:DP frameEnvs:=λ_=>trivial
theorem uP(env:Env):DP (frameOf env):=by
 unfold frameOf;refine DP.bind ?_ DB;intro l;refine DP.bind ?_ ?_
 ·intro f;split<;>trivial
 ·unfold frameObject;split
  ·trivial
  ·refine DP.bind ?_ (tu _);intro _;trivial
theorem HH(ty:String)(vs:List Se):DP (newFields ty vs):=by
 unfold newFields newObj;dsimp only;split
 ·trivial
 ·exact λ_=>trivial
theorem Ad(f:Sg)(b:Bool):DP (entryPlaceOf f b):=by
 unfold entryPlaceOf;refine DP.bind ?_ A7;intro l;split<;>trivial
theorem wn(e:Se)(env:Env):DP (noteFrame e env):=by
 unfold noteFrame;cases env.frame with
 |none=>trivial
 |some f=>
  have tl:∀head:Se,DP (do setField e 1 (<-EntryCells.newEntry head (<-frameOf env) .none (rawInt f) .none (<-entryPlaceOf f (head !=.none)))):=λhead=>by
   refine DP.bind ?_ (uP env);intro a;refine DP.bind ?_ (Ad _ _);intro b;refine DP.bind ?_ (HH _ _);intro c;exact uM _ _ _
  refine DP.bind ?_ (lh _ _);intro head;dsimp only;split
  ·refine DP.bind ?_ (lh _ _);intro x;split
   ·trivial
   ·refine DP.bind ?_ (uM _ _ _);intro _;exact tl head
  ·exact tl head
theorem n0(env:Env)(e:Se):DP (leaving env e):=by
 unfold leaving;refine DP.bind ?_ (wn _ _);intro _;exact mH _ _
open PySem PySem.Spec L2
inductive D where
 |non|bl (b:Bool)|int (i:Int)|str (x:Str)|tup (xs:List D)|lst (xs:List D)
 |dct (ks vs:List D)|obj (c:Str) (fs:ah) (vs:List D)|exc (c:Str) (fs:ah) (vs:List D)|kt (xs:ah)
noncomputable abbrev aY:=Option D
noncomputable def qW:Key->D
 |.inl i=>.int i
 |.inr x=>.str x
noncomputable def clsAt(K:QR)(c:Str)(C:Sg):Prop:=Ru K Su c=some (some (.ref C))
noncomputable def vd(C a:Sg)(dx:Option Sg):(Sg->Prop)->Sr->Prop:=λ_ h=>∃o,h.get? a=some o/\o.cls=.ref C/\o.dict=dx/\Rv o=true
noncomputable def KTup(K:QR)(a:Sg)(xs:ah):Prop:=∃(o:Obj)(its:Array Se)(n:Nat),K.lookup a=some o/\o.cls=.type "tuple"/\o.data=.seq its n/\its.size<=Ss/\Vals (xs.map V.str) its.toList
mutual
noncomputable def eL(K:QR)(H:Hp):D->V->Prop
 |.non,v=>v=.non
 |.bl b,v=>v=.bl b
 |.int i,v=>v=.int i
 |.str x,v=>v=.str x
 |.tup xs,v=>∃a vs,v=.ref a/\H a=some (.tup vs)/\aJ K H xs vs
 |.lst xs,v=>∃a vs,v=.ref a/\kg K H a vs/\aJ K H xs vs
 |.dct ks ds,v=>∃a vs,v=.ref a/\aJ K H ds vs/\((∃kvs:List (Key×V),H a=some (.dK kvs)/\ks=kvs.map (λp=>qW p.1)/\vs=kvs.map (·.2)) \/
   (∃kvs:List (List Key×V),H a=some (.dT kvs)/\ks=kvs.map (λp=>.tup (p.1.map qW))/\vs=kvs.map (·.2)) \/
   ∃(kvs:List (List Key×V))(o:Obj),H a=some (.frz o (.dT kvs))/\ks=.non::kvs.map (λp=>.tup (p.1.map qW))/\vs=kvs.map (·.2))
 |.obj c fs ds,v=>∃a vs,v=.ref a/\aJ K H ds vs/\fs.length=vs.length/\∃C dx,clsAt K c C/\H a=some (.ins C dx (fs.zip vs))
 |.exc c fs ds,v=>∃a vs,v=.ref a/\aJ K H ds vs/\fs.length=vs.length/\∃C dx,clsAt K c C/\H a=some (.ext (vd C a dx))/\(fs=[]\/∃d,dx=some d/\H d=some (.xd (fs.zip vs)))
 |.kt xs,v=>∃a,v=.ref a/\KTup K a xs
noncomputable def aJ(K:QR)(H:Hp):List D->ax->Prop
 |[],vs=>vs=[]
 |x::xs,vs=>∃v r,vs=v::r/\eL K H x v/\aJ K H xs r
end
theorem xx{K:QR}{H H':Hp}{a:Sg}{xs:ax}(e:aB H H')(h:lN K H a xs):lN K H' a xs:=by
 rcases h with(h|⟨o,h⟩)|h
 ·exact .inl (.inl (e _ _ h))
 ·exact .inl (.inr ⟨o,e _ _ h⟩)
 ·exact .inr h
theorem bO{K:QR}{H H':Hp}{a:Sg}{xs:ax}(e:aB H H')(h:H a=some (.tup xs)):lN K H' a xs:=lN.of (e _ _ h)
mutual
theorem eL.mono{K:QR}{H H':Hp}(e:aB H H'):∀{d:D}{v:V},eL K H d v->eL K H' d v
 |.non,_,h=>h
 |.bl _,_,h=>h
 |.int _,_,h=>h
 |.str _,_,h=>h
 |.tup xs,_,h=>by
  obtain⟨a,vs,e1,h1,h2⟩:=h;exact⟨a,vs,e1,e _ _ h1,aJ.mono e h2⟩
 |.lst xs,_,h=>by
  obtain⟨a,vs,e1,h1,h2⟩:=h;exact⟨a,vs,e1,e.seq h1,aJ.mono e h2⟩
 |.dct _ ds,_,h=>by
  obtain⟨a,vs,e1,h1,h2⟩:=h;refine⟨a,vs,e1,aJ.mono e h1,?_⟩;rcases h2 with⟨kvs,h2,h3⟩|⟨kvs,h2,h3⟩|⟨kvs,o,h2,h3⟩
  ·exact .inl ⟨kvs,e _ _ h2,h3⟩
  ·exact .inr (.inl ⟨kvs,e _ _ h2,h3⟩)
  ·exact .inr (.inr ⟨kvs,o,e _ _ h2,h3⟩)
 |.obj _ _ ds,_,h=>by
  obtain⟨a,vs,e1,h1,h2,C,dx,h3,h4⟩:=h;exact⟨a,vs,e1,aJ.mono e h1,h2,C,dx,h3,e _ _ h4⟩
 |.kt _,_,h=>h
 |.exc _ _ ds,_,h=>by
  obtain⟨a,vs,e1,h1,h2,C,dx,h3,h4,h5⟩:=h;exact⟨a,vs,e1,aJ.mono e h1,h2,C,dx,h3,e _ _ h4,h5.imp id λzq=>zq.elim λd zq=>zq.elim λq1 q2=>⟨d,q1,e _ _ q2⟩⟩
theorem aJ.mono{K:QR}{H H':Hp}(e:aB H H'):∀{ds:List D}{vs:ax},aJ K H ds vs->aJ K H' ds vs
 |[],_,h=>h
 |x::xs,_,h=>by
  obtain⟨v,r,e1,h1,h2⟩:=h;exact⟨v,r,e1,eL.mono e h1,aJ.mono e h2⟩
end
section
variable{K:QR}{H:Hp}
theorem ip{v:V}:eL K H .non v↔v=.non:=Iff.rfl
theorem iz{b:Bool}{v:V}:eL K H (.bl b) v↔v=.bl b:=Iff.rfl
theorem gv{i:Int}{v:V}:eL K H (.int i) v↔v=.int i:=Iff.rfl
theorem fF{x:Str}{v:V}:eL K H (.str x) v↔v=.str x:=Iff.rfl
theorem cx{xs:List D}{v:V}:eL K H (.tup xs) v↔∃a vs,v=.ref a/\H a=some (.tup vs)/\aJ K H xs vs:=Iff.rfl
theorem cw{xs:List D}{v:V}:eL K H (.lst xs) v↔∃a vs,v=.ref a/\kg K H a vs/\aJ K H xs vs:=Iff.rfl
theorem Kc{ks ds : List D}{v : V}: eL K H (.dct ks ds) v ↔ ∃ a vs, v = .ref a /\ aJ K H ds vs /\ ((∃ kvs : List (Key × V), H a = some (.dK kvs) /\ ks = kvs.map (fun p => qW p.1) /\ vs = kvs.map (·.2)) \/
      (∃kvs:List (List Key×V),H a=some (.dT kvs)/\ks=kvs.map (λp=>.tup (p.1.map qW))/\vs=kvs.map (·.2)) \/
      ∃(kvs:List (List Key×V))(o:Obj),H a=some (.frz o (.dT kvs))/\ks=.non::kvs.map (λp=>.tup (p.1.map qW))/\vs=kvs.map (·.2)):=Iff.rfl
theorem KO{c:Str}{fs:ah}{ds:List D}{v:V}:eL K H (.obj c fs ds) v↔∃a vs,v=.ref a/\aJ K H ds vs/\fs.length=vs.length/\∃C dx,clsAt K c C/\H a=some (.ins C dx (fs.zip vs)):=Iff.rfl
theorem Kd{c:Str}{fs:ah}{ds:List D}{v:V}:eL K H (.exc c fs ds) v↔∃a vs,v=.ref a/\aJ K H ds vs/\fs.length=vs.length/\∃C dx,clsAt K c C/\H a=some (.ext (vd C a dx))/\(fs=[]\/∃d,dx=some d/\H d=some (.xd (fs.zip vs))):=Iff.rfl
theorem MV{xs:ah}{v:V}:eL K H (.kt xs) v↔∃a,v=.ref a/\KTup K a xs:=Iff.rfl
theorem cC{vs:ax}:aJ K H [] vs↔vs=[]:=Iff.rfl
theorem bh{x:D}{xs:List D}{vs:ax}:aJ K H (x::xs) vs↔∃v r,vs=v::r/\eL K H x v/\aJ K H xs r:=by conv=>lhs;unfold aJ
theorem aJ.length:∀{ds:List D}{vs:ax},aJ K H ds vs->ds.length=vs.length
 |[],_,h=>by rw[cC]at h;rw[h];rfl
 |_::xs,_,h=>by
  rw[bh]at h;obtain⟨v,r,e,_,h⟩:=h;rw[e,O3,O3,aJ.length h]
theorem aJ.get:∀{ds:List D}{vs:ax}{i:Nat}{d:D},aJ K H ds vs->ds[i]?=some d->∃v,vs[i]?=some v/\eL K H d v
 |[],_,_,_,_,e=>by simp at e
 |x::xs,_,0,d,h,e=>by
  rw[bh]at h;obtain⟨v,r,rfl,h1,_⟩:=h;simp at e;subst e;exact⟨v,rfl,h1⟩
 |x::xs,_,i+1,d,h,e=>by
  rw[bh]at h;obtain⟨v,r,rfl,_,h2⟩:=h;obtain⟨w,e1,e2⟩:=aJ.get (i:=i) h2 (by simpa using e);exact⟨w,by simpa using e1,e2⟩
theorem aJ.append:∀{ds es:List D}{vs ws:ax},aJ K H ds vs->aJ K H es ws->aJ K H (ds++es) (vs++ws)
 |[],_,_,_,h,h'=>by rw[cC]at h;subst h;exact h'
 |x::xs,_,_,_,h,h'=>by
  rw[bh]at h;obtain⟨v,r,rfl,h1,h2⟩:=h;rw[PD,bh];exact⟨v,_,rfl,h1,aJ.append h2 h'⟩
theorem aJ.take:∀{ds:List D}{vs:ax}(n:Nat),aJ K H ds vs->aJ K H (ds.take n) (vs.take n)
 |_,_,0,_=>by rw[PF,PF,cC]
 |[],_,_+1,h=>by rw[cC]at h;subst h;rw[OG,OG,cC]
 |x::xs,_,n+1,h=>by
  rw[bh]at h;obtain⟨v,r,rfl,h1,h2⟩:=h;rw[PH,PH,bh];exact⟨v,_,rfl,h1,aJ.take n h2⟩
theorem aJ.drop:∀{ds:List D}{vs:ax}(n:Nat),aJ K H ds vs->aJ K H (ds.drop n) (vs.drop n)
 |_,_,0,h=>by rw[PJ,PJ];exact h
 |[],_,_+1,h=>by rw[cC]at h;subst h;rw[OH,OH,cC]
 |x::xs,_,n+1,h=>by
  rw[bh]at h;obtain⟨v,r,rfl,h1,h2⟩:=h;rw[PK,PK];exact aJ.drop n h2
theorem aJ.snoc{ds:List D}{vs:ax}{d:D}{v:V}(h:aJ K H ds vs)(h':eL K H d v):aJ K H (ds++[d]) (vs++[v]):=
 h.append (bh.mpr ⟨v,[],rfl,h',cC.mpr rfl⟩)
theorem aJ.reverse:∀{ds:List D}{vs:ax},aJ K H ds vs->aJ K H ds.reverse vs.reverse
 |[],_,h=>by rw[cC]at h;subst h;exact cC.mpr rfl
 |x::xs,_,h=>by
  rw[bh]at h;obtain⟨v,r,rfl,h1,h2⟩:=h;rw[Pw,Pw];exact(aJ.reverse h2).snoc h1
theorem aJ.one{d:D}{vs:ax}(h:aJ K H [d] vs):∃v,vs=[v]/\eL K H d v:=by
 rw[bh]at h;obtain⟨v,r,rfl,h1,h2⟩:=h;rw[cC]at h2;subst h2;exact⟨v,rfl,h1⟩
theorem aJ.two{d e:D}{vs:ax}(h:aJ K H [d,e] vs):∃v w,vs=[v,w]/\eL K H d v/\eL K H e w:=by
 rw[bh]at h;obtain⟨v,r,rfl,h1,h2⟩:=h;obtain⟨w,rfl,h3⟩:=h2.one;exact⟨v,w,rfl,h1,h3⟩
theorem qy:∀ns:List Int,aJ K H (ns.map D.int) (ns.map V.int)
 |[]=>cC.mpr rfl
 |n::ns=>bh.mpr ⟨_,_,rfl,gv.mpr rfl,qy ns⟩
end
noncomputable def hid(H:Hp)(O:ap):Hp:=λb=>if b∈O then none else H b
theorem az(H:Hp)(O:ap):aB (hid H O) H:=λb o h=>by
 unfold hid at h;split at h
 ·cases h
 ·exact h
theorem bP{H H':Hp}{O:ap}(e:aB H H'):aB (hid H O) (hid H' O):=λb o h=>by
 unfold hid at h ⊢;by_cases hb:b∈O
 ·rw[if_pos hb]at h;cases h
 ·rw[if_neg hb]at h ⊢;exact e b o h
theorem eT{H:Hp}{O O':ap}(s:∀a∈O,a∈O'):aB (hid H O') (hid H O):=λb o h=>by
 unfold hid at h ⊢;by_cases hb:b∈O'
 ·rw[if_pos hb]at h;cases h
 ·rw[if_neg hb]at h;rw[if_neg λz=>hb (s b z)];exact h
theorem ED(H:Hp):hid H []=H:=by funext b;unfold hid;simp
theorem xn{H:Hp}{O:ap}{p:Sg}{o:HO}(h:H p=none):aB (hid H O) (hid (upd H p o) O):=λb u q=>by
 unfold hid at q ⊢;by_cases hb:b∈O
 ·rw[if_pos hb]at q;cases q
 ·rw[if_neg hb]at q ⊢;rw[av (aL q h)];exact q
theorem cZ{H:Hp}{p:Sg}(h:H p=none)(o:HO):aB H (upd H p o):=λb u q=>by rw[av (aL q h)];exact q
theorem lZ{H:Hp}{O:ap}{p:Sg}(h:p∉O):hid H O p=H p:=by unfold hid;rw[if_neg h]
theorem jK{H:Hp}{O:ap}{p:Sg}{o:HO}(h:p∈O):aB (hid H O) (hid (upd H p o) O):=λb u q=>by
 unfold hid at q ⊢;by_cases hb:b∈O
 ·rw[if_pos hb]at q;cases q
 ·rw[if_neg hb]at q ⊢;rw[av (λz=>hb (by rw[z];exact h))];exact q
inductive S where
 |val (d:D)|own (d:D)|nest (d:D)
noncomputable abbrev ak:=List (Option S)
noncomputable def jd:HO->Prop
 |.lst _=>True
 |.dK _=>True
 |.dT _=>True
 |_=>False
class al where
 tab:Hp->Prop
 same:∀{H H':Hp},tab H->aB H H'->tab H'
 own:∀{H:Hp}{p:Sg}{o o':HO},tab H->H p=some o->jd o->tab (upd H p o')
variable[al]
noncomputable def eG(H:Hp)(O:ap):Prop:=al.tab H/\∀a∈O,∃o,H a=some o/\jd o
theorem eG.not{H:Hp}{O:ap}(h:eG H O){p:Sg}(n:H p=none):p∉O:=λz=>by
 obtain⟨vs,e,_⟩:=h.2 p z;rw[n]at e;cases e
theorem eG.same{H H':Hp}{O:ap}(h:eG H O)(e:aB H H'):eG H' O:=⟨al.same h.1 e,λa ha=>let ⟨vs,q,m⟩:=h.2 a ha;⟨vs,e _ _ q,m⟩⟩
theorem eG.upd{H:Hp}{O:ap}{p:Sg}{o:HO}(h:eG H O)(hp:p∈O)(m:jd o):eG (L2.upd H p o) O:=⟨let ⟨_,q,r⟩:=h.2 p hp;al.own h.1 q r,λa ha=>by
 by_cases z:a=p
 ·rw[z];exact⟨o,aT,m⟩
 ·obtain⟨u,q,r⟩:=h.2 a ha;exact⟨u,by rw[av z];exact q,r⟩⟩
theorem eG.cons{H:Hp}{O:ap}{p:Sg}{o:HO}(h:eG H O)(hp:H p=some o)(m:jd o):eG H (p::O):=⟨h.1,λa ha=>by
 rcases List.mem_cons.mp ha with z|z
 ·rw[z];exact⟨o,hp,m⟩
 ·exact h.2 a z⟩
noncomputable def gq(K:QR)(H:Hp)(O:ap)(a:Sg)(d:D):Prop:=∃o vs,H a=some o/\match d with
 |.lst xs=>o=.lst vs/\aJ K (hid H O) xs vs
 |.dct ks ds=>aJ K (hid H O) ds vs/\((∃kvs:List (Key×V),o=.dK kvs/\ks=kvs.map (λp=>qW p.1)/\vs=kvs.map (·.2)) \/
   ∃kvs:List (List Key×V),o=.dT kvs/\ks=kvs.map (λp=>.tup (p.1.map qW))/\vs=kvs.map (·.2))
 |_=>False
theorem gq.mono{K:QR}{H H':Hp}{O O':ap}{a:Sg}{d:D}(h:gq K H O a d)(e:H a=H' a)(s:aB (hid H O) (hid H' O')):gq K H' O' a d:=by
 obtain⟨o,vs,h1,h2⟩:=h;refine⟨o,vs,by rw[<-e];exact h1,?_⟩;cases d with
 |lst xs=>exact⟨h2.1,h2.2.mono s⟩
 |dct ks ds=>exact⟨h2.1.mono s,h2.2⟩
 |_=>exact h2
theorem gq.some{K:QR}{H:Hp}{O:ap}{a:Sg}{d:D}(h:gq K H O a d):∃o,H a=some o:=let ⟨o,_,e,_⟩:=h;⟨o,e⟩
theorem gq.den{K:QR}{H:Hp}{O O':ap}{a:Sg}{d:D}(h:gq K H O a d)(s:aB (hid H O) (hid H O'))(ha:a∉O'):eL K (hid H O') d (.ref a):=by
 obtain⟨o,vs,h1,h2⟩:=h;have h1':hid H O' a=Option.some o:=by rw[lZ ha];exact h1
 cases d with
 |lst xs=>
  obtain⟨e,g⟩:=h2;subst e;exact cw.mpr ⟨a,vs,rfl,kg.of h1',g.mono s⟩
 |dct ks ds=>
  obtain⟨g,q⟩:=h2;refine Kc.mpr ⟨a,vs,rfl,g.mono s,?_⟩;rcases q with⟨kvs,e,q⟩|⟨kvs,e,q⟩
  ·subst e;exact .inl ⟨kvs,h1',q⟩
  ·subst e;exact .inr (.inl ⟨kvs,h1',q⟩)
 |_=>exact h2.elim
structure eA(K:QR)(O:ap)(H:Hp)(ρ:ak)(σ:St):Prop where
 val:∀(i:Nat) d,ρ[i]?=some (some (.val d))->∃v,σ[i]?=some (some v)/\eL K (hid H O) d v
 own:∀(i:Nat) d,ρ[i]?=some (some (.own d))->∃a,σ[i]?=some (some (.ref a))/\a∈O/\gq K H O a d
 one:∀(i j:Nat) xs ys a,ρ[i]?=some (some (.own xs))->ρ[j]?=some (some (.own ys))->σ[i]?=some (some (.ref a))->σ[j]?=some (some (.ref a))->i=j
 all:eG H O
theorem wj{H H':Hp}(e:aB H H'){a:Sg}{o:HO}(h:H a=some o):H a=H' a:=by rw[h,e _ _ h]
theorem eA.same{K:QR}{O:ap}{H H':Hp}{ρ:ak}{σ:St}(h:eA K O H ρ σ)(e:aB H H'):eA K O H' ρ σ:=
  ⟨fun i d q=>let ⟨v,a,b⟩:=h.val i d q; ⟨v,a,b.mono (bP e)⟩,
   λi xs q=>let ⟨a,q1,q2,q3⟩:=h.own i xs q;⟨a,q1,q2,q3.mono (let ⟨_,z⟩:=q3.some;wj e z) (bP e)⟩,h.one,h.all.same e⟩
structure Ex where
 c:Str
 fs:ah
 vs:List D
noncomputable abbrev R(α:Type):=Except (Option Ex) α
noncomputable abbrev aC:=ak->R (List D)
noncomputable abbrev aX:=ak->R Bool
noncomputable abbrev cy:=List D->R D
noncomputable abbrev un{α:Type}:R α:=.error none
noncomputable def rO{α:Type}:Option α->R α
 |some a=>.ok a
 |none=>.error none
noncomputable def FY(K:QR)(Hd:Hp)(x:Ex)(C:Sg)(dx:Option Sg):Prop:=clsAt K x.c C/\∃ws,aJ K Hd x.vs ws/\x.fs.length=ws.length/\(x.fs=[]\/∃d,dx=some d/\Hd d=some (.xd (x.fs.zip ws)))
theorem FY.mono{K:QR}{H H':Hp}{x:Ex}{C:Sg}{dx:Option Sg}(h:FY K H x C dx)(e:aB H H'):FY K H' x C dx:=by
 obtain⟨h1,ws,h2,h3,h4⟩:=h;exact⟨h1,ws,h2.mono e,h3,h4.imp id λzq=>zq.elim λd zq=>zq.elim λq1 q2=>⟨d,q1,e _ _ q2⟩⟩
end TG
namespace TG
open PySem PySem.Spec L2
variable[al]
open PyProof.Rows (AllBare)
theorem u6{P:Sn}{w:Sl}{H:Hp}{h:Sr}{a:Sg}{o:HO}(x:gE P w H h a o):∃u,h.get? a=some u:=by
 cases o with
 |lst xs=>obtain⟨_,_,_,_,e⟩:=x;exact⟨_,e⟩
 |tup xs=>obtain⟨_,_,_,o,e,_⟩:=x;exact⟨_,e⟩
 |dK kvs=>obtain⟨_,_,_,_,o,_,_,e,_⟩:=x;exact⟨_,e⟩
 |dT kvs=>obtain⟨_,_,_,_,o,_,_,e,_⟩:=x;exact⟨_,e⟩
 |set S n=>obtain⟨o,_,_,_,e,_⟩:=x;exact⟨_,e⟩
 |ins C dx fs=>obtain⟨_,_,_,e,_⟩:=x;exact⟨_,e⟩
 |own y=>exact x
 |xd fs=>obtain⟨_,⟨_,_,_,e,_⟩,_⟩:=x;exact⟨_,e⟩
 |rng lo hi=>obtain⟨_,_,_,e⟩:=x;exact⟨_,e⟩
 |frz ob u=>obtain⟨e,_⟩:=x;exact⟨_,e⟩
 |tbl ps=>exact⟨_,(show h.get? a=some _ from x)⟩
 |met f y=>exact⟨_,(show h.get? a=some _ from x)⟩
 |ext φ=>obtain⟨_,e,_⟩:=x;exact e
noncomputable def gV(X:Cx)(H:Hp)(b:Sg):Prop:=((∃o,X.s₀.heap.get? b=some o)/\b∉X.ex)\/H b≠none\/(∃o,(b,o)∈X.pn)\/∃x,X.env.cells.lookup x=some b
noncomputable def NR(B:Sr)(e:Sg)(cls a0:Se)(h:Sr):Prop:=h.TracedW B e cls a0\/∃oe vs,h.get? e=some oe/\oe.cls=cls/\oe.data=.fields vs/\vs[1]?=some .none/\vs[0]?=some a0
noncomputable def wq(X:Cx)(H:Hp)(s:Sj)(e C:Sg)(dx:Option Sg):Prop:=(∀oe,s.heap.get? e=some oe->oe.dict=dx)/\∃B a0,B.StaysIn s.heap/\B.get? e=none/\s.heap.FunFrames B X.stack/\NR B e (.ref C) a0 s.heap/\∀b o,s.heap.get? b=some o->gV X H b->b∉frs X.stack->B.get? b=some o
noncomputable def Nr(X:Cx)(H:Hp)(O:ap)(s:Sj)(u:Se)(x:Ex):Prop:=∃e C dx,u=.ref e/\FY X.K (hid H O) x C dx/\wq X H s e C dx
noncomputable def gB(P:Sn)(w:Sl):sZ:=λouter H s E u s'=>∃e C dx H' B a0,u=.ref e/\(∀oe,s'.heap.get? e=some oe->oe.dict=dx)/\s'.os=s.os/\AllBare s'.gens/\Un (frs outer) [] H H' s.heap s'.heap/\pQ P w H' s'.heap/\RU B outer e (.ref C) a0 s'.heap/\
 (∀b o,s'.heap.get? b=some o->((∃o',s.heap.get? b=some o')\/H' b≠none)->b∉frs outer->B.get? b=some o)/\E (.ref C) dx H'
noncomputable def Kj(K:QR)(H:Hp)(O:ap)(x:Ex)(E:XK):Prop:=∀C dx H',aB H H'->FY K (hid H' O) x C dx->E (.ref C) dx H'
noncomputable def AY(X:Cx)(σ:St)(O:ap)(H:Hp)(x:Ex):Prop:=∀pins s u H',Inv X pins σ H' s->aB H H'->Nr X H' O s u x->X.xe u s
theorem AY.mono{X:Cx}{σ:St}{O:ap}{H H':Hp}{x:Ex}(h:AY X σ O H x)(s:aB H H'):AY X σ O H' x:=λpins st u H2 I s2 f=>h pins st u H2 I (s.trans s2) f
noncomputable def qc(X:Cx)(O:ap)(H:Hp)(x:Ex):XK:=λu dx H'=>∃C,u=.ref C/\aB H H'/\FY X.K (hid H' O) x C dx
noncomputable def gW(CX:sZ)(X:Cx)(σ:St)(E:XK):Prop:=∀(pins:aM)(H:Hp)(s:Sj)(e:Se)(s':Sj),Inv X pins σ H s->CX X.stack H s E e s'->X.xe e s'
theorem lG{X:Cx}{σ:St}{O:ap}{H:Hp}{x:Ex}(h:AY X σ O H x):gW (gB X.prog X.w) X σ (qc X O H x):=by
 rintro pins H1 s u s' I ⟨e,C,dx,H',B,a0,rfl,hdx,os,bare,un,hok,⟨f1,f2,f3,f4⟩,kp,C',eC,sm,hd⟩;cases eC;have I':Inv X pins σ H' s':=I.call' os un hok bare (ch:=[]) λb z=>absurd z (by simp);refine h pins s' _ H' I' sm ⟨e,C,dx,rfl,hd,hdx,B,a0,f1,f2,f3,.inl f4,λb o eb hb nf=>kp b o eb ?_ nf⟩;rcases hb with⟨⟨o',hb⟩,nx⟩|hb|⟨o',hb⟩|⟨y,hb⟩
 ·exact .inl (I.base.there b o' hb nx)
 ·exact .inr hb
 ·exact .inl ⟨_,(I.pin _ (OU _ hb)).1⟩
 ·obtain⟨v,o,q,_⟩:=I.cell y b hb;exact .inl ⟨o,q⟩
theorem lH{X:Cx}{σ:St}:gW (gB X.prog X.w) X σ E0:=λ_ _ _ _ _ _ h=>by
 obtain⟨_,_,_,_,_,_,_,_,_,_,_,_,_,_,z⟩:=h;exact z.elim
theorem o4{X:Cx}{O:ap}{H:Hp}{x:Ex}:Kj X.K H O x (qc X O H x):=λC dx H' s e=>⟨C,rfl,s,e⟩
section
variable{X:Cx}{pins:aM}{σ:St}{H:Hp}{s:Sj}{h':Sr}
theorem rj(I:Inv X pins σ H s)(k:∀b o,s.heap.get? b=some o->gV X H b->b∉frs X.stack->h'.get? b=some o):pQ X.prog X.w H h':=λa ob ea=>
 (I.hok a ob ea).stay (λb u hb q=>by
  have hn:H b≠none:=by
   rcases hb with e|e
   ·rw[e,ea];intro z;cases z
   ·rw[e];intro z;cases z
  exact k b u q (.inr (.inl hn)) λhf=>hn (I.stkFree b hf)) (λ_ q=>q) λ_ _ q=>q
theorem qF(I:Inv X pins σ H s)(us:s.heap.UpToSlots h'){b:Sg}{o:Obj}(hb:b∈frs X.stack)(e:s.heap.get? b=some o):∃sl,h'.get? b=some {o with slots:=sl}:=by
 obtain⟨_,o',e',nf⟩:=I.stack.mem hb;rw[e]at e';cases e';exact us b o e nf
theorem vV(I:Inv X pins σ H s)(hx:X.ex=[])(hst:X.stack=X.env::X.outer)(hf:X.env.frame=some X.env.locals)(us:s.heap.UpToSlots h')(k:∀b o,s.heap.get? b=some o->gV X H b->b∉frs X.stack->h'.get? b=some o):
  Un (frs X.outer) [] X.H₀ H X.s₀.heap h':=by
 have U:=I.base;rw[hx]at U;have fr:frs X.stack=X.env.locals::frs X.outer:=by rw[hst];show List.filterMap _ (_::_)=_;rw[OQ,hf];rfl
 have nl:∀b o,X.s₀.heap.get? b=some o->b≠X.env.locals:=λb o q z=>by
  have h1:=RN q;have h2:=I.ok.above;rw[z]at h1;exact OJ _ (OI h1 h2)
 have nfr:∀b o,X.s₀.heap.get? b=some o->b∉frs X.outer->b∉frs X.stack:=λb o q nb z=>by
  rw[fr]at z;rcases List.mem_cons.mp z with z|z
  ·exact nl b o q z
  ·exact nb z
 refine⟨λb o q n nb _=>k b o (U.keep b o q n nb (by simp)) (.inl ⟨⟨o,q⟩,by rw[hx];simp⟩) (nfr b o q nb),λb o q n hb _=>?_,λb o q n _=>U.free b o q n (by simp),λb o q _=>?_,U.tups,U.frzs,U.tbls⟩
 ·obtain⟨sl,e⟩:=U.slot b o q n hb (by simp);obtain⟨sl',e'⟩:=qF I us (by rw[fr];exact OT _ hb) e;exact⟨sl',e'⟩
 ·obtain⟨o1,e1⟩:=U.there b o q (by simp);by_cases hb:b∈frs X.stack
  ·obtain⟨sl,e⟩:=qF I us hb e1;exact⟨_,e⟩
  ·exact⟨o1,k b o1 e1 (.inl ⟨⟨o,q⟩,by rw[hx];simp⟩) hb⟩
end
theorem BJ{P:Sn}{w:Sl}{K:QR}{mg:bg}{base:Sr}{N:ah}{qual:Str}{scope:Sx}{f:Sg}{cd:Se}{A:Sw}{outer:List Env}{s:Sj}{H:Hp}{E:XK}{σ:St}{O O':ap}{H':Hp}{x:Ex}
  (hx:Kj K H O x E) (sm:aB H H') (hs:∀a∈O,a∈O'):AY (eY (gB P w) P w K mg base N qual scope f cd A outer s H E) σ O' H' x:=by
 rintro pins s1 u H1 I s2 ⟨e,C,dx,rfl,hd,hdx,B,a0,b1,b2,b3,b4,b5⟩;have fin:∀h',RU B outer e (.ref C) a0 h'->s1.heap.UpToSlots h'->DS s1.heap h'->gB P w outer H s E (.ref e) {s1 with heap:=h'}:=λh' fl us ds=>by
  have k:∀b o,s1.heap.get? b=some o->gV (eY (gB P w) P w K mg base N qual scope f cd A outer s H E) H1 b->b∉frs (eY (gB P w) P w K mg base N qual scope f cd A outer s H E).stack->h'.get? b=some o:=λb o q kb nf=>fl.1 b o (b5 b o q kb nf);have un:=vV I rfl rfl rfl us k;have hok:=rj I k;refine⟨e,C,dx,H1,B,a0,rfl,λoe' q=>?_,I.os,I.bare,un,hok,fl,λb o q hb nf=>?_,hx C dx H1 (sm.trans s2) (hd.mono (eT hs))⟩
  ·obtain⟨oe,q1⟩:∃oe,s1.heap.get? e=some oe:=by
    rcases b4 with⟨oe,_,_,_,_,h1,_⟩|⟨oe,_,h1,_⟩
    ·exact⟨oe,h1⟩
    ·exact⟨oe,h1⟩
   exact(ds.dict q1 q).trans (hdx oe q1)
  have nf2:b∉frs (eY (gB P w) P w K mg base N qual scope f cd A outer s H E).stack:=λz=>by
   rcases List.mem_cons.mp (show b∈s.heap.objs.size::frs outer from z)with z|z
   ·rcases hb with hb|hb
    ·obtain⟨o',hb⟩:=hb
     have:=RN hb
     rw[z]at this;exact OJ _ this
    ·rw[z]at hb;exact hb I.free
   ·exact nf z
  have kb:gV (eY (gB P w) P w K mg base N qual scope f cd A outer s H E) H1 b:=hb.elim (λz=>.inl ⟨z,λy=>nomatch y⟩) λz=>.inr (.inl z);obtain⟨o1,e1⟩:∃o1,s1.heap.get? b=some o1:=by
   rcases hb with⟨o',hb⟩|hb
   ·exact I.base.there b o' hb (λz=>nomatch z)
   ·cases q0:H1 b with
    |none=>exact absurd q0 hb
    |some ob=>exact u6 (I.hok b ob q0)
  have:=k b o1 e1 kb nf2
  rw[q]at this;cases this;exact b5 b _ e1 kb nf2
 show Sz _ _ (leaving (RY qual scope s.heap.objs.size f cd) (.ref e)) _ _ s1;refine DP.go (n0 _ _) (P:=λh'=>RU B outer e (.ref C) a0 h'/\s1.heap.UpToSlots h') ?_ λh' z ds=>fin h' z.1 z.2 ds;rcases b4 with b4|⟨oe,vs,c1,c2,c3,c4,c5⟩
 ·exact wpAny_leaves_onW I.ok.frames rfl ⟨b1,b2,b3,b4⟩ λh' fl us=>⟨h',rfl,fl,us⟩
 ·refine wpAny_leaving_firstW I.ok.frames b3 rfl c1 b1 b2 c3 c4 c5 λh' hL=>?_;obtain⟨k1,⟨_,_,k2⟩,k3,k4⟩:=hL;exact⟨h',rfl,⟨k1,b2,k2,c2 ▸ k3⟩,k4⟩
end TG
namespace TG
open PySem PySem.Spec L2
variable[al]
noncomputable def fH(X:Cx)(σ:St)(O:ap)(H:Hp){α:Type}(r:R α)(Q:α->Prop):Prop:=match r with
 |.ok a=>Q a
 |.error (some x)=>AY X σ O H x
 |.error none=>False
section
variable{X:Cx}{σ:St}{O:ap}{H H':Hp}{α β:Type}
theorem fH.bind{r:R α}{G:α->R β}{Q:β->Prop}(h:fH X σ O H (r.bind G) Q):fH X σ O H r λa=>fH X σ O H (G a) Q:=by
 match r,h with
 |.ok a,h=>exact h
 |.error (some x),h=>exact h
 |.error none,h=>exact h
theorem fH.imp{r:R α}{Q Q':α->Prop}(h:fH X σ O H r Q)(f:∀a,Q a->Q' a):fH X σ O H r Q':=by
 match r,h with
 |.ok a,h=>exact f a h
 |.error (some x),h=>exact h
 |.error none,h=>exact h
theorem fH.mono{r:R α}{Q:α->Prop}(h:fH X σ O H r Q)(s:aB H H'):fH X σ O H' r Q:=by
 match r,h with
 |.ok a,h=>exact h
 |.error (some x),h=>exact AY.mono h s
 |.error none,h=>exact h
theorem fH.rO{o:Option α}{Q:α->Prop}(h:fH X σ O H (rO o) Q):∃a,o=some a/\Q a:=by
 match o,h with
 |some a,h=>exact⟨a,rfl,h⟩
 |none,h=>exact h.elim
end
noncomputable abbrev FX:=ak->R D
noncomputable def tF(X:Cx)(F:FX):TE:=λσ H Q=>∃O ρ,eA X.K O H ρ σ/\fH X σ O H (F ρ) λd=>∀v H',aB H H'->eL X.K (hid H' O) d v->Q v H'
noncomputable def KA(X:Cx)(F:aX):TT:=λσ H Q=>∃O ρ,eA X.K O H ρ σ/\fH X σ O H (F ρ) λb=>∀H',aB H H'->Q b H'
noncomputable def Kf(X:Cx)(F:aC):TA:=λσ H Q=>∃O ρ,eA X.K O H ρ σ/\fH X σ O H (F ρ) λds=>∀vs H',aB H H'->aJ X.K (hid H' O) ds vs->Q vs H'
noncomputable def FE(X:Cx)(e:Sh)(F:FX):Prop:=PE X e (tF X F)
noncomputable def FT(X:Cx)(e:Sh)(F:aX):Prop:=PT X e (KA X F)
noncomputable def FW(X:Cx)(e:Sh)(F:aX):Prop:=PW X e (KA X F)
noncomputable def FA(X:Cx)(es:aF)(F:aC):Prop:=PA X es (Kf X F)
theorem PE.weak{X:Cx}{e:Sh}{t t':TE}(h:PE X e t)(w:∀σ H Q,t' σ H Q->t σ H Q):PE X e t':=λpins s σ H Q I q=>h pins s σ H Q I (w σ H Q q)
theorem PT.weak{X:Cx}{e:Sh}{t t':TT}(h:PT X e t)(w:∀σ H Q,t' σ H Q->t σ H Q):PT X e t':=λpins s σ H Q I q=>h pins s σ H Q I (w σ H Q q)
theorem PW.weak{X:Cx}{e:Sh}{t t':TT}(h:PW X e t)(w:∀σ H Q,t' σ H Q->t σ H Q):PW X e t':=λwhole pins s σ H Q I q=>h whole pins s σ H Q I (w σ H Q q)
theorem PA.weak{X:Cx}{es:aF}{t t':TA}(h:PA X es t)(w:∀σ H Q,t' σ H Q->t σ H Q):PA X es t':=λpos pins s σ H Q I q=>h pos pins s σ H Q I (w σ H Q q)
theorem PS.weak{X:Cx}{st:Si}{t t':TS}(h:PS X st t)(w:∀D σ H,t' D σ H->t D σ H):PS X st t':=λpins s σ H Q I q=>h pins s σ H Q I (w Q σ H q)
theorem pH.weak{X:Cx}{st:cS}{t t':TS}(h:pH X st t)(w:∀D σ H,t' D σ H->t D σ H):pH X st t':=λpins s σ H Q I q=>h pins s σ H Q I (w Q σ H q)
noncomputable def ph(ρ:ak)(i:Nat):R D:=match ρ[i]? with
 |some (some (.val d))=>.ok d
 |_=>un
theorem Es{ρ:ak}{i:Nat}{d:D}(h:ph ρ i=.ok d):ρ[i]?=some (some (.val d)):=by
 unfold ph at h;split at h
 ·rename_i e;cases h;exact e
 ·cases h
noncomputable def ae(i:Nat):FX:=λρ=>ph ρ i
noncomputable def fC(d:D):FX:=λ_=>.ok d
section
variable{X:Cx}
theorem yG{σ:St}{O:ap}{H:Hp}{ρ:ak}{i:Nat}{Q:D->Prop}(h:fH X σ O H (ph ρ i) Q):∃d,ρ[i]?=some (some (.val d))/\Q d:=by
 cases e:ph ρ i with
 |ok d=>rw[e]at h;exact⟨d,Es e,h⟩
 |error z=>
  rw[e]at h;cases z with
  |none=>exact h.elim
  |some x=>
   exfalso;unfold ph at e;split at e
   ·cases e
   ·have:=Except.error.inj e;cases this
theorem ju{e:Sh}{d:D}{v:V}(h:PE X e (tC v))(hd:∀K H,eL K H d v):FE X e (fC d):=
 PE.weak h λσ H Q zq=>zq.elim λO zq=>zq.elim λρ zq=>zq.elim λE q=>q v H (aB.refl H) (hd _ _)
noncomputable def noStar:Sh->Bool
 |.Starred _ _=>false
 |_=>true
theorem aI{e:Sh}{es:aF}{env:Env}(h:noStar e=true):SA (e::es) env=(false,eval e env)::SA es env:=by
 cases e<;>first|rfl|cases h
theorem bn{pos:Pos}{env:Env}:∀{es:aF},es.all noStar=true->(backTo pos (SA es env)).any (·.1)=false
 |[],_=>rfl
 |e::es,h=>by
  rw[PL,Pt]at h;rw[aI h.1];exact bn h.2
noncomputable def af:aC:=λ_=>.ok []
noncomputable def aa(f:FX)(g:aC):aC:=λρ=>(f ρ).bind λx=>(g ρ).bind λxs=>.ok (x::xs)
theorem MS:FA X [] af:=PA.weak kx λσ H Q zq=>zq.elim λO zq=>zq.elim λρ zq=>zq.elim λE q=>q [] H (aB.refl H) (cC.mpr rfl)
theorem bind_some{α β:Type}{o:Option α}{f:α->Option β}{b:β}(h:o.bind f=some b):∃a,o=some a/\f a=some b:=by
 cases o with
 |none=>cases h
 |some a=>exact⟨a,rfl,h⟩
theorem nO{ε α β:Type}{o:Except ε α}{f:α->Except ε β}{b:β}(h:o.bind f=.ok b):∃a,o=.ok a/\f a=.ok b:=by
 cases o with
 |error _=>cases h
 |ok a=>exact⟨a,rfl,h⟩
theorem Ki{e:Sh}{es:aF}{f:FX}{g:aC}(he:FE X e f)(hs:FA X es g)(hns:noStar e=true:=by rfl):FA X (e::es) (aa f g):=
 PA.weak (eZ he hs (aI hns)) λσ H Q ⟨O,ρ,E,h⟩=>
  ⟨O,ρ,E,(fH.bind h).imp λx h v H1 s1 d1=>⟨O,ρ,E.same s1,((fH.bind h).mono s1).imp λxs q vs H2 s2 d2=>q (v::vs) H2 (s1.trans s2) (bh.mpr ⟨v,vs,rfl,d1.mono (bP s2),d2⟩)⟩⟩
noncomputable def small(n:Nat):Bool:=decide (n<=100000)
theorem dh{n:Nat}(h:small n=true):n<=Ss:=OM (of_decide_eq_true h) (by decide)
theorem cB{n:Nat}(h:n<=100000):small n=true:=decide_eq_true h
noncomputable def j7(xs:List D):aY:=if small xs.length then some (.tup xs)else none
noncomputable def kT(xs:List D):aY:=if small xs.length then some (.lst xs)else none
noncomputable def dZ(g:aC):FX:=λρ=>(g ρ).bind λxs=>rO (j7 xs)
noncomputable def gH(g:aC):FX:=λρ=>(g ρ).bind λxs=>rO (kT xs)
theorem bp{α:Type}{c:Bool}{a b:α}(h:(if c then some a else none)=some b):c=true/\a=b:=by
 cases c with
 |true=>exact⟨rfl,Option.some.inj h⟩
 |false=>cases h
theorem gh{K:QR}{H:Hp}{O:ap}{p:Sg}{ds:List D}{vs:ax}(hO:eG H O)(hp:H p=none)(d:aJ K (hid H O) ds vs):eL K (hid (upd H p (.tup vs)) O) (.tup ds) (.ref p):=
 cx.mpr ⟨p,vs,rfl,by rw[lZ (hO.not hp),aT],d.mono (xn hp)⟩
theorem gS{K:QR}{H:Hp}{O:ap}{p:Sg}{ds:List D}{vs:ax}(hO:eG H O)(hp:H p=none)(d:aJ K (hid H O) ds vs):eL K (hid (upd H p (.lst vs)) O) (.lst ds) (.ref p):=
 cw.mpr ⟨p,vs,rfl,kg.of (by rw[lZ (hO.not hp),aT]),d.mono (xn hp)⟩
noncomputable def DC(K:QR)(r:V->Hp->VK->Prop)(g:D->aY):Prop:=
 ∀(a d:D)(x:V)(O:ap)(H:Hp)(Q:VK),eG H O->g a=some d->eL K (hid H O) a x->(∀v H',aB H H'->eL K (hid H' O) d v->Q v H')->r x H Q
noncomputable def f1(g:D->aY)(f:FX):FX:=λρ=>(f ρ).bind λa=>rO (g a)
noncomputable def dC(K:QR)(r:R2)(g:D->D->aY):Prop:=
 ∀(a b d:D)(x y:V)(O:ap)(H:Hp)(Q:VK),eG H O->g a b=some d->eL K (hid H O) a x->eL K (hid H O) b y->(∀v H',aB H H'->eL K (hid H' O) d v->Q v H')->r x y H Q
noncomputable def f2(g:D->D->aY)(f1 f2:FX):FX:=λρ=>(f1 ρ).bind λa=>(f2 ρ).bind λb=>rO (g a b)
theorem se{r:R2}{g:D->D->aY}{fa fb:FX}(s:dC X.K r g):∀σ H Q,tF X (f2 g fa fb) σ H Q->IY r (tF X fa) (tF X fb) σ H Q:=λσ H Q zq=>zq.elim λO zq=>zq.elim λρ zq=>zq.elim λE hF=>
 ⟨O,ρ,E,(fH.bind hF).imp fun a hF x H1 s1 d1=>⟨O,ρ,E.same s1,((fH.bind hF).mono s1).imp fun b hF y H2 s2 d2=>by
  obtain⟨d,e,q⟩:=fH.rO hF;exact s a b d x y O H2 Q (E.all.same (s1.trans s2)) e (d1.mono (bP s2)) d2 λv H3 s3 d3=>q v H3 ((s1.trans s2).trans s3) d3⟩⟩
noncomputable def KJ:D->Option Bool
 |.bl b=>some b
 |_=>none
noncomputable def fB(f:FX):aX:=λρ=>(f ρ).bind λd=>rO (KJ d)
theorem o7{t:TE}{f:FX}(h:∀σ H Q,tF X f σ H Q->t σ H Q):∀σ H Q,KA X (fB f) σ H Q->BO t σ H Q:=λσ H Q zq=>zq.elim λO zq=>zq.elim λρ zq=>zq.elim λE hF=>
 h σ H _ ⟨O,ρ,E,(fH.bind hF).imp λd hF v H1 s1 d1=>by
  obtain⟨b,e,q⟩:=fH.rO hF;cases d with
  |bl b'=>
   cases e;exact⟨b,iz.mp d1,q H1 s1⟩
  |_=>cases e⟩
noncomputable def wY(K:QR)(r:ax->Hp->VK->Prop)(g:List D->aY):Prop:=
 ∀(ds:List D)(d:D)(xs:ax)(O:ap)(H:Hp)(Q:VK),eG H O->g ds=some d->aJ K (hid H O) ds xs->(∀v H',aB H H'->eL K (hid H' O) d v->Q v H')->r xs H Q
noncomputable def fL(g:List D->aY)(f:aC):FX:=λρ=>(f ρ).bind λds=>rO (g ds)
noncomputable def fR(g:cy)(f:aC):FX:=λρ=>(f ρ).bind g
theorem Ct{r:ax->Hp->VK->Prop}{g:List D->aY}{f:aC}(s:wY X.K r g):∀σ H Q,tF X (fL g f) σ H Q->Ke r (Kf X f) σ H Q:=λσ H Q zq=>zq.elim λO zq=>zq.elim λρ zq=>zq.elim λE hF=>
 ⟨O,ρ,E,(fH.bind hF).imp fun ds hF vs H1 s1 d1=>by
  obtain⟨d,e,q⟩:=fH.rO hF;exact s ds d vs O H1 Q (E.all.same s1) e d1 λv H2 s2 d2=>q v H2 (s1.trans s2) d2⟩
noncomputable def gk(f:aX):aX:=λρ=>(f ρ).bind λb=>.ok (!b)
noncomputable def Ck(f g:aX):aX:=λρ=>(f ρ).bind λb=>if b then g ρ else .ok false
noncomputable def vB(f g:aX):aX:=λρ=>(f ρ).bind λb=>if b then .ok true else g ρ
variable{a b c:Sh}{rest:aF}{pos:Pos}{f g:aX}
theorem FW.ft{e:Sh}(h:FW X e f):FT X e f:=PW.pt h
noncomputable def truth:D->Option Bool
 |.non=>some false
 |.bl b=>some b
 |.int i=>some (i !=0)
 |.str x=>if small x.length then some (x.length !=0)else none
 |.tup xs=>some (!xs.isEmpty)
 |.lst xs=>some (!xs.isEmpty)
 |_=>none
noncomputable def bj(f:FX):aX:=λρ=>(f ρ).bind λd=>rO (truth d)
noncomputable def vp(d:D)(k:R D):R D:=match d with
 |.bl true=>k
 |.bl false=>.ok (.bl false)
 |_=>un
noncomputable def JZ(d:D)(k:R D):R D:=match d with
 |.bl false=>k
 |.bl true=>.ok (.bl true)
 |_=>un
noncomputable def HR:D->aY
 |.bl b=>some (.bl (!b))
 |_=>none
noncomputable def js(f g:FX):FX:=λρ=>(f ρ).bind λd=>vp d (g ρ)
noncomputable def MI(f g:FX):FX:=λρ=>(f ρ).bind λd=>JZ d (g ρ)
noncomputable def wx(f:FX):FX:=f1 HR f
variable{fa fb:FX}
noncomputable def IU(t:aX)(f g:FX):FX:=λρ=>(t ρ).bind λc=>if c then f ρ else g ρ
end
end TG
namespace TG
open PySem PySem.Spec L2
variable[al]
open PySem.SeqAt (EqAt RcAt RcNeAt)
mutual
noncomputable def pyEq:D->D->Bool
 |.non,.non=>true
 |.bl a,.bl b=>a==b
 |.bl a,.int b=>(if a then 1 else 0)==b
 |.int a,.bl b=>a==(if b then 1 else 0)
 |.int a,.int b=>a==b
 |.str a,.str b=>a==b
 |.tup xs,.tup ys=>o9 xs ys
 |.lst xs,.lst ys=>o9 xs ys
 |.dct _ _,.dct _ _=>true
 |.obj _ _ _,.obj _ _ _=>true
 |.exc _ _ _,.exc _ _ _=>true
 |.kt _,.kt _=>true
 |_,_=>false
noncomputable def o9:List D->List D->Bool
 |[],[]=>true
 |x::xs,y::ys=>pyEq x y&&o9 xs ys
 |_,_=>false
end
mutual
theorem mE:∀d:D,pyEq d d=true
 |.non=>rfl
 |.bl b=>show(b==b)=true by simp
 |.int i=>show(i==i)=true by simp
 |.str x=>show(x==x)=true by simp
 |.tup xs=>kr xs
 |.lst xs=>kr xs
 |.dct _ _=>rfl
 |.obj _ _ _=>rfl
 |.exc _ _ _=>rfl
 |.kt _=>rfl
theorem kr:∀ds:List D,o9 ds ds=true
 |[]=>rfl
 |d::ds=>by show(pyEq d d&&o9 ds ds)=true;rw[mE d,kr ds];rfl
end
noncomputable def uL(xs ys:List D)(j:Nat):Bool:=match xs[j]?,ys[j]? with
 |some a,some b=>pyEq a b
 |_,_=>false
theorem fM:∀xs ys:List D,((List.range (min xs.length ys.length)).all (uL xs ys)&&xs.length==ys.length)=o9 xs ys
 |[],[]=>rfl
 |[],_::_=>by show _=false;simp
 |_::_,[]=>by show _=false;simp
 |x::xs,y::ys=>by
  have ih:=fM xs ys;show _=(pyEq x y&&o9 xs ys)
  rw[<-ih];have e:min (x::xs).length (y::ys).length=min xs.length ys.length+1:=by simp only[O3];omega
  rw[e,PN,PL,List.all_map];have e2:((x::xs).length==(y::ys).length)=(xs.length==ys.length):=by simp
  rw[e2,Bool.and_assoc];have e3:(List.range (min xs.length ys.length)).all (uL (x::xs) (y::ys)∘Nat.succ)=(List.range (min xs.length ys.length)).all (uL xs ys):=by
   congr 1
  rw[e3];rfl
mutual
noncomputable def pl:D->Bool
 |.tup xs=>uF xs
 |.lst xs=>uF xs
 |.dct _ _=>false
 |.obj _ _ _=>false
 |.exc _ _ _=>false
 |.kt _=>false
 |_=>true
noncomputable def uF:List D->Bool
 |[]=>true
 |x::xs=>pl x&&uF xs
end
theorem fT{ks vs:List D}(h:pl (.dct ks vs)=true):False:=by unfold pl at h;cases h
theorem fK{c:Str}{fs:ah}{vs:List D}(h:pl (.obj c fs vs)=true):False:=by unfold pl at h;cases h
theorem fP{c:Str}{fs:ah}{vs:List D}(h:pl (.exc c fs vs)=true):False:=by unfold pl at h;cases h
theorem hZ{xs:ah}(h:pl (.kt xs)=true):False:=by unfold pl at h;cases h
theorem lB:∀{xs:List D},uF xs=true->∀x∈xs,pl x=true
 |[],_,_,h=>nomatch h
 |x::xs,h,y,hy=>by
  unfold uF at h;rw[Pt]at h;rcases List.mem_cons.mp hy with z|z
  ·rw[z];exact h.1
  ·exact lB h.2 y z
theorem eS{xs:List D}:pl (.tup xs)=uF xs:=by rw[pl]
theorem fh{xs:List D}:pl (.lst xs)=uF xs:=by rw[pl]
noncomputable def gG:Nat->D->Bool
 |n+1,.tup xs=>xs.all (gG n)
 |n+1,.lst xs=>xs.all (gG n)
 |0,.tup _=>false
 |0,.lst _=>false
 |_,.dct _ _=>false
 |_,.obj _ _ _=>false
 |_,.exc _ _ _=>false
 |_,.kt _=>false
 |_,_=>true
section
variable{X:Cx}{pins:aM}{σ:St}{H:Hp}{s:Sj}
theorem Inv.not_both(I:Inv X pins σ H s){a:Sg}{xs ys:ax}(h:lN X.K H a xs)(h':kg X.K H a ys):False:=by
 obtain⟨its,_,ht,_⟩:=I.tuple h;obtain⟨its2,_,hl,_⟩:=I.list h';exact absurd rfl (SeqAt.ne_of_list_tuple hl.isList (show s.heap.IsTuple a its.toArray from ht))
mutual
theorem Inv.den_inj(I:Inv X pins σ H s):∀{a b:D}{v:V},pl a=true->pl b=true->eL X.K H a v->eL X.K H b v->a=b
 |.non,b,v,pa,pb,h,h'=>by
  rw[ip]at h;subst h;cases b with
  |non=>rfl
  |bl _=>rw[iz]at h';cases h'
  |int _=>rw[gv]at h';cases h'
  |str _=>rw[fF]at h';cases h'
  |tup _=>rw[cx]at h';obtain⟨_,_,e,_⟩:=h';cases e
  |lst _=>rw[cw]at h';obtain⟨_,_,e,_⟩:=h';cases e
  |dct _ _=>exact(fT pb).elim
  |obj _ _ _=>exact(fK pb).elim
  |exc _ _ _=>exact(fP pb).elim
  |kt _=>exact(hZ pb).elim
 |.bl x,b,v,pa,pb,h,h'=>by
  rw[iz]at h;subst h;cases b with
  |non=>rw[ip]at h';cases h'
  |bl _=>rw[iz]at h';cases h';rfl
  |int _=>rw[gv]at h';cases h'
  |str _=>rw[fF]at h';cases h'
  |tup _=>rw[cx]at h';obtain⟨_,_,e,_⟩:=h';cases e
  |lst _=>rw[cw]at h';obtain⟨_,_,e,_⟩:=h';cases e
  |dct _ _=>exact(fT pb).elim
  |obj _ _ _=>exact(fK pb).elim
  |exc _ _ _=>exact(fP pb).elim
  |kt _=>exact(hZ pb).elim
 |.int x,b,v,pa,pb,h,h'=>by
  rw[gv]at h;subst h;cases b with
  |non=>rw[ip]at h';cases h'
  |bl _=>rw[iz]at h';cases h'
  |int _=>rw[gv]at h';cases h';rfl
  |str _=>rw[fF]at h';cases h'
  |tup _=>rw[cx]at h';obtain⟨_,_,e,_⟩:=h';cases e
  |lst _=>rw[cw]at h';obtain⟨_,_,e,_⟩:=h';cases e
  |dct _ _=>exact(fT pb).elim
  |obj _ _ _=>exact(fK pb).elim
  |exc _ _ _=>exact(fP pb).elim
  |kt _=>exact(hZ pb).elim
 |.str x,b,v,pa,pb,h,h'=>by
  rw[fF]at h;subst h;cases b with
  |non=>rw[ip]at h';cases h'
  |bl _=>rw[iz]at h';cases h'
  |int _=>rw[gv]at h';cases h'
  |str _=>rw[fF]at h';cases h';rfl
  |tup _=>rw[cx]at h';obtain⟨_,_,e,_⟩:=h';cases e
  |lst _=>rw[cw]at h';obtain⟨_,_,e,_⟩:=h';cases e
  |dct _ _=>exact(fT pb).elim
  |obj _ _ _=>exact(fK pb).elim
  |exc _ _ _=>exact(fP pb).elim
  |kt _=>exact(hZ pb).elim
 |.tup xs,b,v,pa,pb,h,h'=>by
  rw[cx]at h;obtain⟨a,vs,e,h1,h2⟩:=h;subst e;cases b with
  |non=>rw[ip]at h';cases h'
  |bl _=>rw[iz]at h';cases h'
  |int _=>rw[gv]at h';cases h'
  |str _=>rw[fF]at h';cases h'
  |tup ys=>
   rw[cx]at h';obtain⟨a',vs',e,h1',h2'⟩:=h';cases e;have ev:=I.tuple_inj (lN.of h1) (lN.of h1');subst ev;rw[Inv.denL_inj I (by first|rw[<-eS];exact pa|rw[<-fh];exact pa) (by first|rw[<-eS];exact pb|rw[<-fh];exact pb) h2 h2']
  |lst _=>rw[cw]at h';obtain⟨_,_,e,h1',_⟩:=h';cases e;exact(Inv.not_both I (lN.of h1) h1').elim
  |dct _ _=>exact(fT pb).elim
  |obj _ _ _=>exact(fK pb).elim
  |exc _ _ _=>exact(fP pb).elim
  |kt _=>exact(hZ pb).elim
 |.lst xs,b,v,pa,pb,h,h'=>by
  rw[cw]at h;obtain⟨a,vs,e,h1,h2⟩:=h;subst e;cases b with
  |non=>rw[ip]at h';cases h'
  |bl _=>rw[iz]at h';cases h'
  |int _=>rw[gv]at h';cases h'
  |str _=>rw[fF]at h';cases h'
  |lst ys=>
   rw[cw]at h';obtain⟨a',vs',e,h1',h2'⟩:=h';cases e;have ev:=I.list_inj h1 h1';subst ev;rw[Inv.denL_inj I (by first|rw[<-eS];exact pa|rw[<-fh];exact pa) (by first|rw[<-eS];exact pb|rw[<-fh];exact pb) h2 h2']
  |tup _=>rw[cx]at h';obtain⟨_,_,e,h1',_⟩:=h';cases e;exact(Inv.not_both I (lN.of h1') h1).elim
  |dct _ _=>exact(fT pb).elim
  |obj _ _ _=>exact(fK pb).elim
  |exc _ _ _=>exact(fP pb).elim
  |kt _=>exact(hZ pb).elim
 |.dct _ _,_,_,pa,_,_,_=>(fT pa).elim
 |.obj _ _ _,_,_,pa,_,_,_=>(fK pa).elim
 |.exc _ _ _,_,_,pa,_,_,_=>(fP pa).elim
 |.kt _,_,_,pa,_,_,_=>(hZ pa).elim
theorem Inv.denL_inj(I:Inv X pins σ H s):∀{as bs:List D}{vs:ax},uF as=true->uF bs=true->aJ X.K H as vs->aJ X.K H bs vs->as=bs
 |[],bs,vs,pa,pb,h,h'=>by
  rw[cC]at h;subst h;cases bs with
  |nil=>rfl
  |cons b bs=>rw[bh]at h';obtain⟨_,_,e,_⟩:=h';cases e
 |a::as,bs,vs,pa,pb,h,h'=>by
  rw[bh]at h;obtain⟨v,r,e,h1,h2⟩:=h;subst e;cases bs with
  |nil=>rw[cC]at h';cases h'
  |cons b bs=>
   rw[bh]at h';obtain⟨v',r',e,h1',h2'⟩:=h';cases e;unfold uF at pa pb;rw[Pt]at pa pb;rw[Inv.den_inj I pa.1 pb.1 h1 h1',Inv.denL_inj I pa.2 pb.2 h2 h2']
end
noncomputable def j0:D->Option V
 |.non=>some .non
 |.bl b=>some (.bl b)
 |.int i=>some (.int i)
 |.str x=>some (.str x)
 |_=>none
theorem mz{K:QR}{d:D}{v x:V}(h:j0 d=some x)(hd:eL K H d v):v=x/\An x=true:=by
 cases d with
 |non=>cases h;exact⟨ip.mp hd,rfl⟩
 |bl b=>cases h;exact⟨iz.mp hd,rfl⟩
 |int i=>cases h;exact⟨gv.mp hd,rfl⟩
 |str y=>cases h;exact⟨fF.mp hd,rfl⟩
 |_=>cases h
theorem Fa{a b:D}{x y:V}(ha:j0 a=some x)(hb:j0 b=some y):M3 x y=pyEq a b:=by
 cases a<;>cases ha<;>cases b<;>cases hb<;>(unfold M3;rfl)
theorem uc{a:D}{x:V}(n:Nat)(h:j0 a=some x):gG n a=true:=by
 cases a with
 |tup _=>cases h
 |lst _=>cases h
 |dct _ _=>cases h
 |obj _ _ _=>cases h
 |exc _ _ _=>cases h
 |kt _=>cases h
 |_=>cases n<;>rfl
theorem uo{a:D}(h:j0 a=none):gG 0 a=false:=by
 cases a with
 |tup _=>rfl
 |lst _=>rfl
 |dct _ _=>rfl
 |obj _ _ _=>rfl
 |exc _ _ _=>rfl
 |kt _=>rfl
 |_=>cases h
theorem in1_units(A:Sw):A.in1.units=A.units+1:=rfl
theorem nE{vs:ax}{us:aP}(r:Vals vs us){j:Nat}(h:j<us.toArray.size):∃x,vs[j]?=some x/\RelV x us.toArray[j]:=by
 have hj:j<us.length:=by simpa using h
 have hl:=r.length;have hv:j<vs.length:=by omega
 obtain⟨u,e,ru⟩:=r.get (i:=j) (x:=vs[j]) (by simp[hv]);refine⟨vs[j],by simp[hv],?_⟩;have e2:us.toArray[j]=u:=by
  rw[PP hj]at e
  simpa using Option.some.inj e
 rw[e2];exact ru
theorem nS{K:QR}{ds:List D}{vs:ax}(h:aJ K H ds vs){j:Nat}{x:V}(e:vs[j]?=some x):∃d,ds[j]?=some d/\eL K H d x:=by
 have hj:j<vs.length:=(List.getElem?_eq_some_iff.mp e).1;have hl:=h.length;have hd:j<ds.length:=by omega
 obtain⟨v,e1,e2⟩:=h.get (i:=j) (d:=ds[j]) (by simp[hd]);rw[e]at e1;cases e1;exact⟨ds[j],by simp[hd],e2⟩
theorem Iq(I:Inv X pins σ H s):∀(n:Nat)(a b:D)(x y:V)(u v:Se)(A:Sw),pl a=true->pl b=true->(gG n a=true\/gG n b=true)->eL X.K H a x->eL X.K H b y->RelV x u->RelV y v->A.units+n<Td->EqAt A s u v (pyEq a b):=by
 intro n
 induction n with
 |zero=>
  intro a b x y u v A pa pb hd ha hb ru rv hA;have hu:A.units<Td:=hA;cases ha':j0 a with
  |some x'=>
   obtain⟨e,f⟩:=mz ha' ha;subst e;cases hb':j0 b with
   |some y'=>
    obtain⟨e,f'⟩:=mz hb' hb;subst e;rw[<-Fa ha' hb'];exact IM ru rv f f'
   |none=>
    cases b with
    |tup ys=>
     rw[cx]at hb;obtain⟨p,vs,e,h1,h2⟩:=hb;subst e;cases rv;obtain⟨its,_,ht,_⟩:=I.tuple (lN.of h1);have ht':s.heap.IsTuple p its.toArray:=ht;cases a with
     |non=>cases ha';cases ru;exact .none_tuple ht' hu
     |bl z=>cases ha';cases ru;exact .bool_tuple z ht' hu
     |int z=>cases ha';obtain⟨t,rfl⟩:=ru;exact .int_tuple z t ht' hu
     |str z=>cases ha';obtain⟨t,rfl⟩:=ru;exact .str_tuple z t ht' hu
     |_=>cases ha'
    |lst ys=>
     rw[cw]at hb;obtain⟨p,vs,e,h1,h2⟩:=hb;subst e;cases rv;obtain⟨its,_,ht,_⟩:=I.list h1;have ht':s.heap.IsList p its.toArray:=ht.isList;cases a with
     |non=>cases ha';cases ru;exact .none_list ht' hu
     |bl z=>cases ha';cases ru;exact .bool_list z ht' hu
     |int z=>cases ha';obtain⟨t,rfl⟩:=ru;exact .int_list z t ht' hu
     |str z=>cases ha';obtain⟨t,rfl⟩:=ru;exact .str_list z t ht' hu
     |_=>cases ha'
    |dct _ _=>exact(fT pb).elim
    |obj _ _ _=>exact(fK pb).elim
    |exc _ _ _=>exact(fP pb).elim
    |kt _=>exact(hZ pb).elim
    |_=>cases hb'
  |none=>
   have hdb:gG 0 b=true:=by
    rcases hd with hd|hd
    ·rw[uo ha']at hd;cases hd
    ·exact hd
   cases hb':j0 b with
   |none=>rw[uo hb']at hdb;cases hdb
   |some y'=>
    obtain⟨e,f'⟩:=mz hb' hb;subst e;cases a with
    |tup xs=>
     rw[cx]at ha;obtain⟨p,vs,e,h1,h2⟩:=ha;subst e;cases ru;obtain⟨its,_,ht,_⟩:=I.tuple (lN.of h1);have ht':s.heap.IsTuple p its.toArray:=ht;cases b with
     |non=>cases hb';cases rv;exact .tuple_none ht' hu
     |bl z=>cases hb';cases rv;exact .tuple_bool z ht' hu
     |int z=>cases hb';obtain⟨t,rfl⟩:=rv;exact .tuple_int z t ht' hu
     |str z=>cases hb';obtain⟨t,rfl⟩:=rv;exact .tuple_str z t ht' hu
     |_=>cases hb'
    |lst xs=>
     rw[cw]at ha;obtain⟨p,vs,e,h1,h2⟩:=ha;subst e;cases ru;obtain⟨its,_,ht,_⟩:=I.list h1;have ht':s.heap.IsList p its.toArray:=ht.isList;cases b with
     |non=>cases hb';cases rv;exact .list_none ht' hu
     |bl z=>cases hb';cases rv;exact .list_bool z ht' hu
     |int z=>cases hb';obtain⟨t,rfl⟩:=rv;exact .list_int z t ht' hu
     |str z=>cases hb';obtain⟨t,rfl⟩:=rv;exact .list_str z t ht' hu
     |_=>cases hb'
    |dct _ _=>exact(fT pa).elim
    |obj _ _ _=>exact(fK pa).elim
    |exc _ _ _=>exact(fP pa).elim
    |kt _=>exact(hZ pa).elim
    |_=>cases ha'
 |succ n ih=>
  intro a b x y u v A pa pb hd ha hb ru rv hA;have hu:A.units<Td:=by omega
  have flatWay:(∀xs ys,¬(a=.tup xs/\b=.tup ys))->(∀xs ys,¬(a=.lst xs/\b=.lst ys))->EqAt A s u v (pyEq a b):=by
   intro n1 n2;cases ha':j0 a with
   |some x'=>exact ih a b x y u v A pa pb (.inl (uc n ha')) ha hb ru rv ‹0›
   |none=>
    cases hb':j0 b with
    |some y'=>exact ih a b x y u v A pa pb (.inr (uc n hb')) ha hb ru rv ‹0›
    |none=>
     cases a with
     |tup xs=>
      cases b with
      |tup ys=>exact absurd ⟨rfl,rfl⟩ (n1 xs ys)
      |lst ys=>
       rw[cx]at ha;obtain⟨p,vs,e,h1,h2⟩:=ha;subst e;rw[cw]at hb;obtain⟨p',vs',e,h1',h2'⟩:=hb;subst e;cases ru;cases rv;obtain⟨its,_,ht,_⟩:=I.tuple (lN.of h1);obtain⟨its2,_,ht2,_⟩:=I.list h1';exact .tuple_list (show s.heap.IsTuple p its.toArray from ht) ht2.isList hu
      |dct _ _=>exact(fT pb).elim
      |obj _ _ _=>exact(fK pb).elim
      |exc _ _ _=>exact(fP pb).elim
      |kt _=>exact(hZ pb).elim
      |_=>cases hb'
     |lst xs=>
      cases b with
      |lst ys=>exact absurd ⟨rfl,rfl⟩ (n2 xs ys)
      |tup ys=>
       rw[cw]at ha;obtain⟨p,vs,e,h1,h2⟩:=ha;subst e;rw[cx]at hb;obtain⟨p',vs',e,h1',h2'⟩:=hb;subst e;cases ru;cases rv;obtain⟨its,_,ht,_⟩:=I.list h1;obtain⟨its2,_,ht2,_⟩:=I.tuple (lN.of h1');exact .list_tuple ht.isList (show s.heap.IsTuple p' its2.toArray from ht2) hu
      |dct _ _=>exact(fT pb).elim
      |obj _ _ _=>exact(fK pb).elim
      |exc _ _ _=>exact(fP pb).elim
      |kt _=>exact(hZ pb).elim
      |_=>cases hb'
     |dct _ _=>exact(fT pa).elim
     |obj _ _ _=>exact(fK pa).elim
     |exc _ _ _=>exact(fP pa).elim
     |kt _=>exact(hZ pa).elim
     |_=>cases ha'
  have items:∀(xs ys:List D)(vs vs':ax)(its its':aP),uF xs=true->uF ys=true->(gG (n+1) (.tup xs)=true\/gG (n+1) (.tup ys)=true)->aJ X.K H xs vs->aJ X.K H ys vs'->Vals vs its->Vals vs' its'->
    ∀j (h1:j<its.toArray.size) (h2:j<its'.toArray.size),EqAt A.in1 s its.toArray[j] its'.toArray[j] (uL xs ys j):=by
   intro xs ys vs vs' its its' px py hdd hx hy rx ry j h1 h2;obtain⟨w1,e1,r1⟩:=nE rx h1;obtain⟨w2,e2,r2⟩:=nE ry h2;obtain⟨d1,f1,g1⟩:=nS hx e1;obtain⟨d2,f2,g2⟩:=nS hy e2;have e3:uL xs ys j=pyEq d1 d2:=(by unfold uL;rw[f1,f2]);rw[e3];refine ih d1 d2 w1 w2 _ _ A.in1 (lB px _ (Pn f1)) (lB py _ (Pn f2)) ?_ g1 g2 r1 r2 (by rw[in1_units];omega);rcases hdd with hdd|hdd
   ·exact .inl (List.all_eq_true.mp hdd d1 (Pn f1))
   ·exact .inr (List.all_eq_true.mp hdd d2 (Pn f2))
  by_cases hT:∃xs ys,a=.tup xs/\b=.tup ys
  ·obtain⟨xs,ys,rfl,rfl⟩:=hT;have da:=ha;have db:=hb;rw[cx]at ha hb;obtain⟨p,vs,e,h1,h2⟩:=ha;subst e;obtain⟨p',vs',e,h1',h2'⟩:=hb;subst e;cases ru;cases rv;by_cases hp:p=p'
   ·subst hp;have e:=Inv.den_inj I pa pb da db;rw[e,mE];exact EqAt.same _
   ·obtain⟨its,Ia,ht,_⟩:=I.tuple (lN.of h1);obtain⟨its2,GX,ht2,_⟩:=I.tuple (lN.of h1');refine EqAt.of_refs hp ?_;have q:=RcAt.tuples (e:=uL xs ys) (show s.heap.IsTuple p its.toArray from ht) (show s.heap.IsTuple p' its2.toArray from ht2) hu (items xs ys vs vs' its its2 (by first|rw[<-eS];exact pa|rw[<-fh];exact pa) (by first|rw[<-eS];exact pb|rw[<-fh];exact pb) hd h2 h2' Ia GX);have z1:its.toArray.size=xs.length:=(by rw[O2,<-Ia.length,<-h2.length]);have z2:its2.toArray.size=ys.length:=(by rw[O2,<-GX.length,<-h2'.length]);rw[z1,z2,fM]at q;exact q
  ·by_cases hL:∃xs ys,a=.lst xs/\b=.lst ys
   ·obtain⟨xs,ys,rfl,rfl⟩:=hL;have da:=ha;have db:=hb;rw[cw]at ha hb;obtain⟨p,vs,e,h1,h2⟩:=ha;subst e;obtain⟨p',vs',e,h1',h2'⟩:=hb;subst e;cases ru;cases rv;by_cases hp:p=p'
    ·subst hp;have e:=Inv.den_inj I pa pb da db;rw[e,mE];exact EqAt.same _
    ·obtain⟨its,Ia,ht,_⟩:=I.list h1;obtain⟨its2,GX,ht2,_⟩:=I.list h1';refine EqAt.of_refs hp ?_;have z1:its.toArray.size=xs.length:=(by rw[O2,<-Ia.length,<-h2.length]);have z2:its2.toArray.size=ys.length:=(by rw[O2,<-GX.length,<-h2'.length]);have er:=fM xs ys;by_cases hz:its.toArray.size=its2.toArray.size
     ·have q:=RcAt.lists (e:=uL xs ys) ht.isList ht2.isList hz hu (items xs ys vs vs' its its2 (by first|rw[<-eS];exact pa|rw[<-fh];exact pa) (by first|rw[<-eS];exact pb|rw[<-fh];exact pb) hd h2 h2' Ia GX);rw[z1]at q;have hz':xs.length=ys.length:=(by omega);rw[<-hz',PQ]at er;simp only[beq_self_eq_true,PR]at er;rw[er]at q;exact q
     ·have hne:(its.toArray.size !=its2.toArray.size)=true:=(by simpa using hz);have q:=RcAt.lists_lengths (A:=A) ht.isList ht2.isList hne hu;have hz':(xs.length==ys.length)=false:=by
       rw[z1,z2]at hz
       simpa using hz
      rw[hz',PV]at er;rw[show pyEq (.lst xs) (.lst ys)=false from er.symm];exact q
   ·exact flatWay (λxs ys z=>hT ⟨xs,ys,z⟩) λxs ys z=>hL ⟨xs,ys,z⟩
end
end TG
namespace TG
open PySem PySem.Spec L2
variable[al]
open PySem.SeqAt (EqAt RcAt RcNeAt)
section
variable{X:Cx}{pins:aM}{σ:St}{H:Hp}{s:Sj}
theorem mZ(I:Inv X pins σ H s){n:Nat}{xs ys:List D}{vs vs':ax}{its its':aP}{A:Sw}(px:uF xs=true)(py:uF ys=true)(hdd:gG (n+1) (.tup xs)=true\/gG (n+1) (.tup ys)=true)(hx:aJ X.K H xs vs)(hy:aJ X.K H ys vs')(rx:Vals vs its)(ry:Vals vs' its')(hA:A.units+n<Td):
  ∀j (h1:j<its.toArray.size) (h2:j<its'.toArray.size),EqAt A s its.toArray[j] its'.toArray[j] (uL xs ys j):=by
 intro j h1 h2;obtain⟨w1,e1,r1⟩:=nE rx h1;obtain⟨w2,e2,r2⟩:=nE ry h2;obtain⟨d1,f1,g1⟩:=nS hx e1;obtain⟨d2,f2,g2⟩:=nS hy e2;have e3:uL xs ys j=pyEq d1 d2:=by unfold uL;rw[f1,f2]
 rw[e3];refine Iq I n d1 d2 w1 w2 _ _ A (lB px _ (Pn f1)) (lB py _ (Pn f2)) ?_ g1 g2 r1 r2 hA;rcases hdd with hdd|hdd
 ·exact .inl (List.all_eq_true.mp hdd d1 (Pn f1))
 ·exact .inr (List.all_eq_true.mp hdd d2 (Pn f2))
inductive Way(I:Inv X pins σ H s):D->Se->Prop where
 |non:Way I .non .none
 |bl (b:Bool):Way I (.bl b) (.bool b)
 |int (i:Int) (t:Tok):Way I (.int i) (.int i t)
 |str (x:Str) (t:Tok):Way I (.str x) (.str x t)
 |tup {xs:List D} {p:Sg} {vs:ax} {its:aP} (h:aJ X.K H xs vs) (r:Vals vs its) (t:s.heap.IsTuple p its.toArray):Way I (.tup xs) (.ref p)
 |lst {xs:List D} {p:Sg} {vs:ax} {its:aP} (h:aJ X.K H xs vs) (r:Vals vs its) (t:s.heap.IsList p its.toArray):Way I (.lst xs) (.ref p)
noncomputable def top:D->Bool
 |.dct _ _=>false
 |.obj _ _ _=>false
 |.exc _ _ _=>false
 |.kt _=>false
 |_=>true
theorem fz{d:D}(h:pl d=true):top d=true:=by
 cases d with
 |dct _ _=>exact(fT h).elim
 |obj _ _ _=>exact(fK h).elim
 |exc _ _ _=>exact(fP h).elim
 |kt _=>exact(hZ h).elim
 |_=>rfl
theorem fj(I:Inv X pins σ H s){d:D}{v:V}{u:Se}(pd:top d=true)(h:eL X.K H d v)(r:RelV v u):Way I d u:=by
 cases d with
 |non=>rw[ip]at h;subst h;cases r;exact .non
 |bl b=>rw[iz]at h;subst h;cases r;exact .bl b
 |int i=>rw[gv]at h;subst h;obtain⟨t,rfl⟩:=r;exact .int i t
 |str x=>rw[fF]at h;subst h;obtain⟨t,rfl⟩:=r;exact .str x t
 |tup xs=>
  rw[cx]at h;obtain⟨p,vs,e,h1,h2⟩:=h;subst e;cases r;obtain⟨its,rv,ht,_⟩:=I.tuple (lN.of h1);exact .tup h2 rv ht
 |lst xs=>
  rw[cw]at h;obtain⟨p,vs,e,h1,h2⟩:=h;subst e;cases r;obtain⟨its,rv,ht,_⟩:=I.list h1;exact .lst h2 rv ht.isList
 |dct _ _=>cases pd
 |obj _ _ _=>cases pd
 |exc _ _ _=>cases pd
 |kt _=>cases pd
theorem IB(I:Inv X pins σ H s){n:Nat}{a b:D}{x y:V}{u v:Se}{A:Sw}(pa:pl a=true)(pb:pl b=true)(hd:gG (n+1) a=true\/gG (n+1) b=true)(ha:eL X.K H a x)(hb:eL X.K H b y)(ru:RelV x u)(rv:RelV y v)(hA:A.units+n+1<Td):RcAt A s u v (pyEq a b):=by
 have hu:A.units<Td:=by omega
 cases fj I (fz pa) ha ru with
 |non=>cases fj I (fz pb) hb rv with
  |non=>exact .none_none
  |bl b=>exact .none_bool b
  |int i t=>exact .none_int i t
  |str x t=>exact .none_str x t
  |tup h r t=>exact .none_tuple t hu
  |lst h r t=>exact .none_list t hu
 |bl z=>cases fj I (fz pb) hb rv with
  |non=>exact .bool_none z
  |bl b=>exact .bool_bool z b
  |int i t=>exact .bool_int z i t
  |str x t=>exact .bool_str z x t
  |tup h r t=>exact .bool_tuple z t hu
  |lst h r t=>exact .bool_list z t hu
 |int z tz=>cases fj I (fz pb) hb rv with
  |non=>exact .int_none z tz
  |bl b=>exact .int_bool z tz b
  |int i t=>exact .int_int z tz i t
  |str x t=>exact .int_str z tz x t
  |tup h r t=>exact .int_tuple z tz t hu
  |lst h r t=>exact .int_list z tz t hu
 |str z tz=>cases fj I (fz pb) hb rv with
  |non=>exact .str_none z tz
  |bl b=>exact .str_bool z tz b
  |int i t=>exact .str_int z tz i t
  |str x t=>exact .str_str z tz x t
  |tup h r t=>exact .str_tuple z tz t hu
  |lst h r t=>exact .str_list z tz t hu
 |@tup xs p vs its h1 r1 t1=>cases fj I (fz pb) hb rv with
  |non=>exact .tuple_none t1 hu
  |bl b=>exact .tuple_bool b t1 hu
  |int i t=>exact .tuple_int i t t1 hu
  |str x t=>exact .tuple_str x t t1 hu
  |@tup ys p' vs' its' h2 r2 t2=>
   have q:=RcAt.tuples (e:=uL xs ys) t1 t2 hu (mZ (A:=A.in1) I (by first|rw[<-eS];exact pa|rw[<-fh];exact pa) (by first|rw[<-eS];exact pb|rw[<-fh];exact pb) hd h1 h2 r1 r2 (by rw[in1_units];omega));have z1:its.toArray.size=xs.length:=(by rw[O2,<-r1.length,<-h1.length]);have z2:its'.toArray.size=ys.length:=(by rw[O2,<-r2.length,<-h2.length]);rw[z1,z2,fM]at q;exact q
  |lst h r t=>exact .tuple_list t1 t hu
 |@lst xs p vs its h1 r1 t1=>cases fj I (fz pb) hb rv with
  |non=>exact .list_none t1 hu
  |bl b=>exact .list_bool b t1 hu
  |int i t=>exact .list_int i t t1 hu
  |str x t=>exact .list_str x t t1 hu
  |tup h r t=>exact .list_tuple t1 t hu
  |@lst ys p' vs' its' h2 r2 t2=>
   have z1:its.toArray.size=xs.length:=(by rw[O2,<-r1.length,<-h1.length]);have z2:its'.toArray.size=ys.length:=(by rw[O2,<-r2.length,<-h2.length]);have er:=fM xs ys;by_cases hz:its.toArray.size=its'.toArray.size
   ·have q:=RcAt.lists (e:=uL xs ys) t1 t2 hz hu (mZ (A:=A.in1) I (by first|rw[<-eS];exact pa|rw[<-fh];exact pa) (by first|rw[<-eS];exact pb|rw[<-fh];exact pb) hd h1 h2 r1 r2 (by rw[in1_units];omega));rw[z1]at q;have hz':xs.length=ys.length:=(by omega);rw[<-hz',PQ]at er;simp only[beq_self_eq_true,PR]at er;rw[er]at q;exact q
   ·have q:=RcAt.lists_lengths (A:=A) t1 t2 (by simpa using hz) hu;have hz':(xs.length==ys.length)=false:=by
     rw[z1,z2]at hz
     simpa using hz
    rw[hz',PV]at er;rw[show pyEq (.lst xs) (.lst ys)=false from er.symm];exact q
theorem Bq(I:Inv X pins σ H s){n:Nat}{a b:D}{x y:V}{u v:Se}{A:Sw}(pa:pl a=true)(pb:pl b=true)(hd:gG (n+1) a=true\/gG (n+1) b=true)(ha:eL X.K H a x)(hb:eL X.K H b y)(ru:RelV x u)(rv:RelV y v)(hA:A.units+n+1<Td):RcNeAt A s u v (!pyEq a b):=by
 have hu:A.units<Td:=by omega
 cases fj I (fz pa) ha ru with
 |non=>cases fj I (fz pb) hb rv with
  |non=>exact .none_none
  |bl b=>exact .none_bool b
  |int i t=>exact .none_int i t
  |str x t=>exact .none_str x t
  |tup h r t=>exact .none_tuple t hu
  |lst h r t=>exact .none_list t hu
 |bl z=>cases fj I (fz pb) hb rv with
  |non=>exact .bool_none z
  |bl b=>exact .bool_bool z b
  |int i t=>exact .bool_int z i t
  |str x t=>exact .bool_str z x t
  |tup h r t=>exact .bool_tuple z t hu
  |lst h r t=>exact .bool_list z t hu
 |int z tz=>cases fj I (fz pb) hb rv with
  |non=>exact .int_none z tz
  |bl b=>exact .int_bool z tz b
  |int i t=>exact .int_int z tz i t
  |str x t=>exact .int_str z tz x t
  |tup h r t=>exact .int_tuple z tz t hu
  |lst h r t=>exact .int_list z tz t hu
 |str z tz=>cases fj I (fz pb) hb rv with
  |non=>exact .str_none z tz
  |bl b=>exact .str_bool z tz b
  |int i t=>exact .str_int z tz i t
  |str x t=>exact .str_str z tz x t
  |tup h r t=>exact .str_tuple z tz t hu
  |lst h r t=>exact .str_list z tz t hu
 |@tup xs p vs its h1 r1 t1=>cases fj I (fz pb) hb rv with
  |non=>exact .tuple_none t1 hu
  |bl b=>exact .tuple_bool b t1 hu
  |int i t=>exact .tuple_int i t t1 hu
  |str x t=>exact .tuple_str x t t1 hu
  |@tup ys p' vs' its' h2 r2 t2=>
   have q:=RcNeAt.tuples (e:=uL xs ys) t1 t2 hu (mZ (A:=A.in1) I (by first|rw[<-eS];exact pa|rw[<-fh];exact pa) (by first|rw[<-eS];exact pb|rw[<-fh];exact pb) hd h1 h2 r1 r2 (by rw[in1_units];omega));have z1:its.toArray.size=xs.length:=(by rw[O2,<-r1.length,<-h1.length]);have z2:its'.toArray.size=ys.length:=(by rw[O2,<-r2.length,<-h2.length]);rw[z1,z2,fM]at q;exact q
  |lst h r t=>exact .tuple_list t1 t hu
 |@lst xs p vs its h1 r1 t1=>cases fj I (fz pb) hb rv with
  |non=>exact .list_none t1 hu
  |bl b=>exact .list_bool b t1 hu
  |int i t=>exact .list_int i t t1 hu
  |str x t=>exact .list_str x t t1 hu
  |tup h r t=>exact .list_tuple t1 t hu
  |@lst ys p' vs' its' h2 r2 t2=>
   have z1:its.toArray.size=xs.length:=(by rw[O2,<-r1.length,<-h1.length]);have z2:its'.toArray.size=ys.length:=(by rw[O2,<-r2.length,<-h2.length]);have er:=fM xs ys;by_cases hz:its.toArray.size=its'.toArray.size
   ·have q:=RcNeAt.lists (e:=uL xs ys) t1 t2 hz hu (mZ (A:=A.in1) I (by first|rw[<-eS];exact pa|rw[<-fh];exact pa) (by first|rw[<-eS];exact pb|rw[<-fh];exact pb) hd h1 h2 r1 r2 (by rw[in1_units];omega));rw[z1]at q;have hz':xs.length=ys.length:=(by omega);rw[<-hz',PQ]at er;simp only[beq_self_eq_true,PR]at er;rw[er]at q;exact q
   ·have q:=RcNeAt.lists_lengths (A:=A) t1 t2 (by simpa using hz) hu;have hz':(xs.length==ys.length)=false:=by
     rw[z1,z2]at hz
     simpa using hz
    rw[hz',PV]at er;rw[show pyEq (.lst xs) (.lst ys)=false from er.symm];exact q
end
section
variable{X:Cx}
noncomputable def rD(K:QR)(g:D->D->aY):R2:=λx y H Q=>∃O a b d,eG H O/\eL K (hid H O) a x/\eL K (hid H O) b y/\g a b=some d/\∀v H',aB H H'->eL K (hid H' O) d v->Q v H'
theorem eE{K:QR}{g:D->D->aY}:dC K (rD K g) g:=λa b d x y O H Q hO hg ha hb q=>⟨O,a,b,d,hO,ha,hb,hg,q⟩
theorem oW{f : Se -> Se -> Sem Se}{g : D -> D -> aY}(h : ∀ (pins : aM) (s : Sj) (σ : St) (H : Hp) (a b d : D) (x y : V) (u v : Se), Inv X pins σ H s -> eL X.K H a x -> eL X.K H b y -> RelV x u -> RelV y v -> g a b = some d ->
      ∃c,d=.bl c/\∀(Q:bf),Q (.bool c) s->Sz (model X.prog X.w) X.A (f u v) Q X.xe s):iZ X f (rD X.K g):=by
  rintro pins s σ H x y u v Q I rx ry ⟨O,a,b,d,hO,ha,hb,hg,q⟩;obtain⟨c,rfl,hq⟩:=h pins s σ H a b d x y u v I (ha.mono (az H O)) (hb.mono (az H O)) rx ry hg;exact hq _ ⟨.bl c,H,I,rfl,q _ H (aB.refl H) (iz.mpr rfl)⟩
noncomputable def gQ(a b:D):aY:=if(pl a&&pl b)&&(gG 8 a||gG 8 b)then some (.bl (pyEq a b))else none
noncomputable def xJ(a b:D):aY:=if(pl a&&pl b)&&(gG 8 a||gG 8 b)then some (.bl (!pyEq a b))else none
theorem z7(hu:X.A.units+64<Td):iZ X (SW .Eq) (rD X.K gQ):=oW λpins s σ H a b d x y u v I ha hb ru rv hg=>by
 obtain⟨h1,h2⟩:=bp hg;subst h2;rw[Pt,Pt,PX]at h1;exact⟨_,rfl,λQ q=>IB (n:=7) (A:=X.A) I h1.1.1 h1.1.2 h1.2 ha hb ru rv ‹0› X.prog X.w X.xe Q q⟩
theorem AH(hu:X.A.units+64<Td):iZ X (SW .NotEq) (rD X.K xJ):=oW λpins s σ H a b d x y u v I ha hb ru rv hg=>by
 obtain⟨h1,h2⟩:=bp hg;subst h2;rw[Pt,Pt,PX]at h1;exact⟨_,rfl,λQ q=>Bq (n:=7) (A:=X.A) I h1.1.1 h1.1.2 h1.2 ha hb ru rv ‹0› X.prog X.w X.xe Q q⟩
noncomputable def Hv(p:Int->Int->D)(a b:D):aY:=match a,b with
 |.int i,.int j=>some (p i j)
 |_,_=>none
noncomputable def Om:=Hv λi j=>.bl (decide (i<j))
noncomputable def wz:=Hv λi j=>.bl (decide (i<=j))
noncomputable def NZ:=Hv λi j=>.bl (decide (j<i))
noncomputable def NW:=Hv λi j=>.bl (decide (j<=i))
theorem gz{K:QR}{g:Int->Int->Bool}:dC K (D9 λi j=>.bl (g i j)) (Hv λi j=>.bl (g i j)):=λa b d x y O H Q hO hg ha hb q=>by
 cases a with
 |int i=>
  cases b with
  |int j=>cases hg;exact⟨i,j,gv.mp ha,gv.mp hb,q _ H (aB.refl H) (iz.mpr rfl)⟩
  |_=>cases hg
 |_=>cases hg
theorem vS{K:QR}{g:Int->Int->Int}:dC K (D9 λi j=>.int (g i j)) (Hv λi j=>.int (g i j)):=λa b d x y O H Q hO hg ha hb q=>by
 cases a with
 |int i=>
  cases b with
  |int j=>cases hg;exact⟨i,j,gv.mp ha,gv.mp hb,q _ H (aB.refl H) (gv.mpr rfl)⟩
  |_=>cases hg
 |_=>cases hg
noncomputable def Ju(c:Int->Int->Bool)(p:Int->Int->Int)(a b:D):aY:=match a,b with
 |.int i,.int j=>if c i j then some (.int (p i j))else none
 |_,_=>none
theorem jF{K:QR}{C:Int->Int->Prop}{c:Int->Int->Bool}{g:Int->Int->Int}(hc:∀i j,c i j=true->C i j):dC K (rI C λi j=>.int (g i j)) (Ju c g):=λa b d x y O H Q hO hg ha hb q=>by
 cases a with
 |int i=>
  cases b with
  |int j=>
   obtain⟨h1,h2⟩:=bp hg;subst h2;exact⟨i,j,gv.mp ha,gv.mp hb,hc i j h1,q _ H (aB.refl H) (gv.mpr rfl)⟩
  |_=>cases hg
 |_=>cases hg
noncomputable def uY:=Hv λi j=>.int (i-j)
noncomputable def t6:=Ju (λi j=>decide ((-(2^64)<i/\i<2^64)\/(-(2^64)<j/\j<2^64))) (·*·)
noncomputable def FK(_ j:Int):Prop:=0<j/\j<10^200
theorem Cd:iZ X (SV .FloorDiv) (rI FK λi j=>.int (i/j)):=KR λi j _ _ _ _ _ hc q=>by
 have h1:(0:Int)<j:=hc.1;have h2:j<10^200:=hc.2;refine PyProof.Rows.floordiv_int ‹0› (by rw[Int.fdiv_eq_ediv_of_nonneg i ‹0›];exact q) (.inl (PyProof.noPylong_of_log2 ?_));have h3:j.natAbs<10^200:=by omega
 rw[PY ‹0›];exact PZ h3 (by decide +kernel)
noncomputable def fD:=Ju (λ_ j=>decide (0<j/\j<10^200)) (·/·)
noncomputable def fQ:=Ju (λ_ j=>decide (0<j)) (·%·)
noncomputable def rP:=Ju (λi j=>decide (0<=j/\j<=1000000/\i.natAbs<2^64)) λi j=>i^j.toNat
theorem HV{K:QR}:dC K (D9 λi j=>.int (i-j)) uY:=vS
theorem HY{K:QR}:dC K (rI Hu λi j=>.int (i*j)) t6:=jF λi j h=>by have q:=of_decide_eq_true h;exact q
theorem HJ{K:QR}:dC K (rI FK λi j=>.int (i/j)) fD:=jF λi j h=>by have q:=of_decide_eq_true h;exact q
theorem GL{K:QR}:dC K (rI (λ_ j=>0<j) λi j=>.int (i%j)) fQ:=jF λ_ _ h=>of_decide_eq_true h
theorem HA{K:QR}:dC K (rI J4 λi j=>.int (i^j.toNat)) rP:=jF λi j h=>by have q:=of_decide_eq_true h;exact q
noncomputable def JD(K:QR):R2:=λx y H Q=>∃l b xs zs,x=.ref l/\y=.ref b/\kg K H l xs/\kg K H b zs/\xs.length+zs.length<=Ss/\∀p,H p=none->Q (.ref p) (upd H p (.lst (xs++zs)))
theorem Ei:iZ X (SV .Add) (JD X.K):=by
 intro pins s σ H x y v u Q I rx ry h;obtain⟨l,b,xs,zs,rfl,rfl,hH,hB,hz,q⟩:=h;cases rx;cases ry;obtain⟨its,r,t1,_⟩:=I.list hH;obtain⟨its2,r2,t2,_⟩:=I.list hB;obtain⟨⟨c1,d1,dt1,sl1⟩,n1,ho,hc,hd,hdt⟩:=t1;obtain⟨⟨c2,d2,dt2,sl2⟩,n2,ho2,hc2,hd2,hdt2⟩:=t2;simp only at hc hd hdt hc2 hd2 hdt2;subst hc hd hdt hc2 hd2 hdt2;have z1:=r.length;have z2:=r2.length;refine Tl ⟨_,ho,rfl⟩ ⟨_,ho2,rfl⟩ noFill_list_add seq_list_add F.slot_list_add F.entry_list_add (F.args_list_add_2 _ _) (PyProof.Rows.list_addW l b its.toArray its2.toArray n1 n2 none none sl1 sl2 (by rw[O2,O2];omega)) ⟨ho,ho2,?_⟩;have ea:its.toArray++its2.toArray=(its++its2).toArray:=by simp
 rw[ea];exact⟨.ref _,_,I.lnew (t':=s.toks) (r.append r2) (by rw[Pp];omega),rfl,q _ I.fresh⟩
noncomputable def G6(K:QR):R2:=λx y H Q=>∃a b xs ys,x=.ref a/\y=.ref b/\lN K H a xs/\lN K H b ys/\xs.length+ys.length<=Ss/\
 (xs=[]->Q (.ref b) H)/\(xs≠[]->ys=[]->Q (.ref a) H)/\(xs≠[]->ys≠[]->∀p,H p=none->Q (.ref p) (upd H p (.tup (xs++ys))))
theorem Az:iZ X (SV .Add) (G6 X.K):=by
 intro pins s σ H x y v u Q I rx ry h;obtain⟨a,b,xs,ys,ex,ey,ha,hb,hz,q0,q1,q2⟩:=h;by_cases hx:xs=[]
 ·subst ex ey;cases rx;cases ry;obtain⟨its,r1,p1,_⟩:=I.tuple ha;obtain⟨its2,r2,p2,_⟩:=I.tuple hb;obtain⟨⟨cls,dd,data,sl⟩,ho,hc,n,hd⟩:=id p1;obtain⟨⟨cls2,dd2,data2,sl2⟩,ho2,hc2,n2,hd2⟩:=id p2;simp only at hc hd hc2 hd2;subst hc hd hc2 hd2;have e:its=[]:=r1.nil_iff.mpr hx;exact Tl ⟨_,ho,rfl⟩ ⟨_,ho2,rfl⟩ Tn To F.slot_tuple_add F.entry_tuple_add (F.args_tuple_add_2 _ _)
   (PyProof.Rows.tuple_addW0 a b its.toArray its2.toArray n n2 dd dd2 sl sl2 (by rw[e];rfl)) ⟨ho,ho2,⟨.ref b,H,I,rfl,q0 hx⟩⟩
 ·exact Fu pins s σ H x y v u Q I rx ry ⟨a,b,xs,ys,ex,ey,ha,hb,hx,hz,q1 hx,q2 hx⟩
noncomputable def aD(a b:D):aY:=match a,b with
 |.int i,.int j=>some (.int (i+j))
 |.str x,.str y=>if small (x.length+y.length)then some (.str (x++y))else none
 |.lst xs,.lst ys=>if small (xs.length+ys.length)then some (.lst (xs++ys))else none
 |.tup xs,.tup ys=>if small (xs.length+ys.length)then some (.tup (xs++ys))else none
 |_,_=>none
theorem EZ:iZ X (SV .Add) (rD X.K aD):=by
 rintro pins s σ H x y u v Q I rx ry ⟨O,a,b,d,hO,ha,hb,hg,q⟩;cases a with
 |int i=>
  cases b with
  |int j=>
   cases hg;exact Hf pins s σ H x y u v Q I rx ry ⟨i,j,gv.mp ha,gv.mp hb,q _ H (aB.refl H) (gv.mpr rfl)⟩
  |_=>cases hg
 |str i=>
  cases b with
  |str j=>
   obtain⟨h1,h2⟩:=bp hg;subst h2;exact vw pins s σ H x y u v Q I rx ry ⟨i,j,fF.mp ha,fF.mp hb,dh h1,q _ H (aB.refl H) (fF.mpr rfl)⟩
  |_=>cases hg
 |lst xs=>
  cases b with
  |lst ys=>
   obtain⟨h1,h2⟩:=bp hg;subst h2;rw[cw]at ha hb;obtain⟨p,vs,ex,g1,g2⟩:=ha;obtain⟨p',vs',ey,g1',g2'⟩:=hb;refine Ei pins s σ H x y u v Q I rx ry ⟨p,p',vs,vs',ex,ey,(az H O).seq g1,(az H O).seq g1',?_,λr hr=>?_⟩
   ·rw[<-g2.length,<-g2'.length];exact dh h1
   ·exact q _ _ (cZ hr _) (gS hO hr (g2.append g2'))
  |_=>cases hg
 |tup xs=>
  cases b with
  |tup ys=>
   obtain⟨h1,h2⟩:=bp hg;subst h2;have da:=ha;have db:=hb;rw[cx]at ha hb;obtain⟨p,vs,ex,g1,g2⟩:=ha;obtain⟨p',vs',ey,g1',g2'⟩:=hb;have l1:=g2.length;have l2:=g2'.length;refine Az pins s σ H x y u v Q I rx ry ⟨p,p',vs,vs',ex,ey,bO (az H O) g1,bO (az H O) g1',?_,λz=>?_,λz z'=>?_,λz z' r hr=>?_⟩
   ·rw[<-l1,<-l2];exact dh h1
   ·have e:xs=[]:=List.length_eq_zero_iff.mp (by rw[l1,z];rfl);rw[<-ey];refine q _ H (aB.refl H) ?_;rw[e,P0];exact db
   ·have e:ys=[]:=List.length_eq_zero_iff.mp (by rw[l2,z'];rfl);rw[<-ex];refine q _ H (aB.refl H) ?_;rw[e,Pa];exact da
   ·exact q _ _ (cZ hr _) (gh hO hr (g2.append g2'))
  |_=>cases hg
 |_=>cases hg
noncomputable def aR(a b:D):aY:=match a,b with
 |.tup xs,.int i=>kF xs i
 |.lst xs,.int i=>kF xs i
 |.str x,.int i=>if small x.length then(kF x.cps.toList i).bind λc=>some (.str ⟨#[c]⟩)else none
 |_,_=>none
theorem wy{K:QR}{H:Hp}{ds:List D}{vs:ax}{i:Int}{d:D}(h:aJ K H ds vs)(e:kF ds i=some d):∃v,kF vs i=some v/\eL K H d v:=by
 unfold kF at e ⊢;obtain⟨j,e1,e2⟩:=bind_some e;rw[<-h.length,e1];exact h.get e2
theorem Mr:J6 X (rD X.K aR):=by
 rintro value slice pins s σ H x y u v Q I rx ry ⟨O,a,b,d,hO,ha,hb,hg,q⟩ hsub;cases a with
 |tup xs=>
  cases b with
  |int i=>
   rw[cx]at ha;obtain⟨p,vs,ex,g1,g2⟩:=ha;obtain⟨w,e1,e2⟩:=wy g2 hg;refine GB value slice pins s σ H x y u v Q I rx ry ?_ hsub;exact⟨p,vs,i,w,ex,gv.mp hb,bO (az H O) g1,e1,q w H (aB.refl H) e2⟩
  |_=>cases hg
 |lst xs=>
  cases b with
  |int i=>
   rw[cw]at ha;obtain⟨p,vs,ex,g1,g2⟩:=ha;obtain⟨w,e1,e2⟩:=wy g2 hg;refine Dx value slice pins s σ H x y u v Q I rx ry ?_ hsub;exact⟨p,vs,i,w,ex,gv.mp hb,(az H O).seq g1,e1,q w H (aB.refl H) e2⟩
  |_=>cases hg
 |str z=>
  cases b with
  |int i=>
   have hg':(if small z.length then(kF z.cps.toList i).bind λc=>some (D.str ⟨#[c]⟩)else none)=some d:=hg;cases hs:small z.length with
   |false=>rw[hs]at hg';cases hg'
   |true=>
    rw[hs]at hg';obtain⟨c,e1,e2⟩:=bind_some hg';cases e2;refine GP value slice pins s σ H x y u v Q I rx ry ?_ hsub;exact⟨z,i,c,fF.mp ha,gv.mp hb,dh hs,e1,q _ H (aB.refl H) (fF.mpr rfl)⟩
  |_=>cases hg
 |_=>cases hg
noncomputable def cutD{α:Type}(xs:List α)(lo hi:et):List α:=(xs.drop (HT.sIx xs.length 0 lo)).take (HT.sIx xs.length xs.length hi-HT.sIx xs.length 0 lo)
theorem pV{M:Sy}{A:Sw}{E:bf}{s:Sj}{t:Sg}{items:Array Se}{Q:Bool->iH}(ht:RZ s.heap t items)(h:Q true s):Sz M A (Builtin.Tuple.tupleIsExact (.ref t)) Q E s:=by
 unfold Builtin.Tuple.tupleIsExact;refine SN (Tu ht.typeIs ?_);exact SM h
theorem jY{prog:Sn}{w:Sl}{A:Sw}{E:bf}{s:Sj}{t sl:Sg}{items:Array Se}{vl vu:Se}{lo hi:et}{Q:bf}(ht:RZ s.heap t items)(hs:s.heap.IsSliceOf sl vl vu .none)(pl:Tp vl lo)(pu:Tp vu hi)
  (hw:HT.sIx items.size 0 lo=0/\HT.sIx items.size items.size hi=items.size) (h:Q (.ref t) s):Sz (model prog w) A (getItem (.ref t) (.ref sl)) Q E s:=by
 obtain⟨os,hos,hcs,hds⟩:=id hs;have hTs:s.TypeIs (.ref sl) "slice":=⟨os,hos,hcs⟩
 unfold getItem
 try with_reducible refine Tr ?_
 first|refine SN (SM ?_)|skip
 refine SN (wpAny_sequenceKey ht.typeIs (by decide) ?_);refine SN (Ts (name:=Str.ofString "__getitem__") ht.typeIs RX
  (Tt RX ht.typeIs PyProof.Rows.entry_tuple_getitem ?_ (PyProof.Rows.args_tuple_getitem _ _)))
 show Sz _ _ (Builtin.Tuple.tupleItemsOf (.ref t) >>= _) _ _ s;refine SN (PyProof.Rows.tupleItemsOf_ ht ?_);refine SN (Tu hTs ?_);rw[if_pos (by decide)];refine SN (HT.md hs pl pu ?_);have hyes:(((HT.sIx items.size 0 lo:Nat):Int)==0&&(1:Int)==1&&(HT.sIx items.size items.size hi-HT.sIx items.size 0 lo)==items.size)=true:=by
  rw[hw.1,hw.2];simp
 show Sz _ _ (if(((HT.sIx items.size 0 lo:Nat):Int)==0&&(1:Int)==1&&(HT.sIx items.size items.size hi-HT.sIx items.size 0 lo)==items.size)=true then _ else _) _ _ s;rw[if_pos hyes];refine SN (pV ht ?_);rw[if_pos rfl]
 first
  |exact SN (TF (SM ⟨_,rfl,SM h⟩))
  |exact SN (TF (SN (SM (SM ⟨_,rfl,SM h⟩))))
noncomputable def gm(a:D)(lo hi:et):aY:=match a with
 |.lst xs=>some (.lst (cutD xs lo hi))
 |.tup xs=>some (.tup (cutD xs lo hi))
 |.str x=>if small x.length then some (.str ⟨(cutD x.cps.toList lo hi).toArray⟩)else none
 |_=>none
theorem Ga(v:et)(d n:Nat)(hd:d<=n):(match v with|none=>(d:Int)|some i=>if(1:Int)>0 then max 0 (min (if i<0 then i+(n:Int)else i) (n:Int))else max (-1) (min (if i<0 then i+(n:Int)else i) ((n:Int)-1)))=((HT.sIx n d v:Nat):Int):=by
 cases v with
 |none=>rfl
 |some i=>
  show(if(1:Int)>0 then max 0 (min (if i<0 then i+(n:Int)else i) (n:Int))else max (-1) (min (if i<0 then i+(n:Int)else i) ((n:Int)-1)))=(((if i<0 then(i+(n:Int)).toNat else min i.toNat n):Nat):Int)
  rw[if_pos (by decide)];by_cases h:i<0
  ·rw[if_pos h,if_pos h];omega
  ·rw[if_neg h,if_neg h];omega
theorem Cz(lo hi:et)(n:Nat):Builtin.Str.strSliceIndices lo hi 1 n=(List.range (HT.sIx n n hi-HT.sIx n 0 lo)).map λk=>HT.sIx n 0 lo+k:=by
 have e1:=Ga lo 0 n (O9 _);have e2:=Ga hi n n (OZ _);have e:Builtin.Str.strSliceIndices lo hi 1 n=sliceRange ((HT.sIx n 0 lo:Nat):Int) ((HT.sIx n n hi:Nat):Int) 1:=by
  rw[<-e1,<-e2];cases lo<;>cases hi<;>rfl
 rw[e];unfold sliceRange;dsimp only;rw[if_pos (by decide:(1:Int)>0)];have e3:(if((HT.sIx n 0 lo:Nat):Int)<((HT.sIx n n hi:Nat):Int)then(((HT.sIx n n hi:Nat):Int)-((HT.sIx n 0 lo:Nat):Int)+1-1)/1 else 0:Int).toNat=HT.sIx n n hi-HT.sIx n 0 lo:=by
  rw[Int.ediv_one];split<;>omega
 rw[e3];refine List.map_congr_left λk _=>?_;omega
theorem zW{α:Type}(l:List α)(a:Nat):∀n:Nat,((List.range n).map λk=>a+k).filterMap (λi=>l[i]?)=(l.drop a).take n
 |0=>by simp
 |n+1=>by
  rw[List.range_succ,P4,List.filterMap_append,zW l a n,List.take_add_one,List.getElem?_drop];cases e:l[a+n]?<;>simp[e]
theorem xK(x:Str)(lo hi:et):Txt.slice x lo hi=⟨(cutD x.cps.toList lo hi).toArray⟩:=by
 have hl:x.cps.toList.length=x.length:=by simp[Str.length]
 have pick:(Builtin.Str.strSliceIndices lo hi 1 x.length).filterMap (x.cps[·]?)=cutD x.cps.toList lo hi:=by
  rw[Cz];have q:=zW x.cps.toList (HT.sIx x.length 0 lo) (HT.sIx x.length x.length hi-HT.sIx x.length 0 lo);unfold cutD;rw[hl,<-q];congr 1;funext i;simp
 unfold Txt.slice;split
 ·rename_i h;have h':(Builtin.Str.strSliceIndices lo hi 1 x.length).length=x.length:=by simpa using h
  rw[Cz,O6,P5]at h';have h1:=HT.GK x.length x.length (OZ _) hi;have z1:HT.sIx x.length 0 lo=0\/x.length=0:=by omega
  have e:cutD x.cps.toList lo hi=x.cps.toList:=by
   unfold cutD;rw[hl,h'];rcases z1 with z1|z1
   ·rw[z1,PJ,<-hl,List.take_length]
   ·have:x.cps.toList=[]:=List.length_eq_zero_iff.mp (by rw[hl];exact z1)
    rw[this];simp
  rw[e]
 ·rw[pick]
noncomputable def Mm(K:QR):V->et->et->Hp->VK->Prop:=λx lo hi H Q=>∃O a d,eG H O/\eL K (hid H O) a x/\gm a lo hi=some d/\∀v H',aB H H'->eL K (hid H' O) d v->Q v H'
theorem aJ.cut{K:QR}{H:Hp}{ds:List D}{vs:ax}(h:aJ K H ds vs)(lo hi:et):aJ K H (cutD ds lo hi) (sX vs lo hi):=by
 unfold cutD sX;rw[h.length];exact(h.drop _).take _
theorem Mb:Ky X (Mm X.K):=by
 rintro pins s σ H x v vl vu lo hi sl Q I rx hs pl pu ⟨O,a,d,hO,ha,hg,q⟩;cases a with
 |lst xs=>
  cases hg;rw[cw]at ha;obtain⟨p,vs,ex,g1,g2⟩:=ha;exact Dh pins s σ H x v vl vu lo hi sl Q I rx hs pl pu ⟨p,vs,ex,(az H O).seq g1,λr hr=>q _ _ (cZ hr _) (gS hO hr (g2.cut lo hi))⟩
 |tup xs=>
  cases hg;have da:=ha;rw[cx]at ha;obtain⟨p,vs,ex,g1,g2⟩:=ha;by_cases hw:HT.sIx vs.length 0 lo=0/\HT.sIx vs.length vs.length hi=vs.length
  ·subst ex;cases rx;obtain⟨its,r,ht,hz⟩:=I.tuple (bO (az H O) g1);have hlen:its.toArray.size=vs.length:=(by rw[O2];exact r.length.symm);refine⟨"tuple",_,PyProof.Rows.slot_tuple_getitem.lookup,ht.typeIs,jY ht hs pl pu (by rw[hlen];exact hw) ⟨.ref p,H,I,rfl,q _ H (aB.refl H) ?_⟩⟩;have e:cutD xs lo hi=xs:=by
    unfold cutD;rw[g2.length,hw.1,hw.2,P6,PJ,<-g2.length,List.take_length]
   rw[e];exact da
  ·exact G4 pins s σ H x v vl vu lo hi sl Q I rx hs pl pu ⟨p,vs,ex,bO (az H O) g1,hw,λr hr=>q _ _ (cZ hr _) (gh hO hr (g2.cut lo hi))⟩
 |str z=>
  obtain⟨h1,h2⟩:=bp hg;subst h2;rw[fF]at ha;subst ha;obtain⟨t,rfl⟩:=rx;have fin:∀t' tk,EP X pins σ Q (.str (Txt.slice z lo hi) t') {s with toks:=tk}:=λt' tk=>by
   rw[xK];exact⟨.str _,H,I.tok _,⟨_,rfl⟩,q _ H (aB.refl H) (fF.mpr rfl)⟩
  obtain⟨os,hos,hcs,hds⟩:=id hs;have hz:=dh h1;refine⟨"str",_,F.slot_str_getitem.lookup,Tw _ _ _,?_⟩;cases pl with
  |none=>
   cases pu with
   |none=>exact TH (l:=none) (u:=none) (st:=none) ⟨os,hos,hcs,hds⟩ rfl (TJ ⟨OM (Txt.slice_le z _ _) hz,λt' k=>fin t' k⟩)
   |int j tj=>exact TH (l:=none) (u:=some (j,tj)) (st:=none) ⟨os,hos,hcs,hds⟩ rfl (TJ ⟨OM (Txt.slice_le z _ _) hz,λt' k=>fin t' k⟩)
  |int i ti=>
   cases pu with
   |none=>exact TH (l:=some (i,ti)) (u:=none) (st:=none) ⟨os,hos,hcs,hds⟩ rfl (TJ ⟨OM (Txt.slice_le z _ _) hz,λt' k=>fin t' k⟩)
   |int j tj=>exact TH (l:=some (i,ti)) (u:=some (j,tj)) (st:=none) ⟨os,hos,hcs,hds⟩ rfl (TJ ⟨OM (Txt.slice_le z _ _) hz,λt' k=>fin t' k⟩)
 |_=>cases hg
noncomputable def bK:ak->R (et):=λ_=>.ok none
noncomputable def vt:D->Option (et)
 |.int i=>some (some i)
 |_=>none
noncomputable def eI(f:FX):ak->R (et):=λρ=>(f ρ).bind λd=>rO (vt d)
noncomputable def Oi(X:Cx)(F:ak->R et):TO:=λσ H Q=>∃O ρ,eA X.K O H ρ σ/\fH X σ O H (F ρ) λo=>∀H',aB H H'->Q o H'
noncomputable def FO(X:Cx)(e:Option Sh)(F:ak->R et):Prop:=PO X e (Oi X F)
noncomputable def cz(f:FX)(l h:ak->R et):FX:=λρ=>(f ρ).bind λa=>(l ρ).bind λlo=>(h ρ).bind λhi=>rO (gm a lo hi)
end
end TG
namespace TG
open PySem PySem.Spec L2
variable[al]
noncomputable def CM(K:QR)(g:List D->aY):ax->Hp->VK->Prop:=λxs H Q=>∃O ds d,eG H O/\aJ K (hid H O) ds xs/\g ds=some d/\∀v H',aB H H'->eL K (hid H' O) d v->Q v H'
theorem oh{K:QR}{g:List D->aY}:wY K (CM K g) g:=λds d xs O H Q hO hg hd q=>⟨O,ds,d,hO,hd,hg,q⟩
section
variable{X:Cx}{x:Str}{p pos:Pos}{e:Sh}{es:aF}{id T:String}{g:List D->aY}{f:aC}
noncomputable def ic:List D->aY
 |[.lst xs]=>some (.int xs.length)
 |[.tup xs]=>some (.int xs.length)
 |[.str x]=>if small x.length then some (.int x.length)else none
 |[.kt xs]=>some (.int xs.length)
 |_=>none
theorem yc:fw X (.builtin "len") (CM X.K ic):=by
 rintro pins s σ H xs us Q I r ⟨O,ds,d,hO,hd,hg,q⟩;unfold ic at hg;split at hg
 ·rename_i ys;cases hg;obtain⟨v,ev,h1⟩:=hd.one;rw[cw]at h1;obtain⟨p,vs,ep,g1,g2⟩:=h1;exact iq pins s σ H xs us Q I r ⟨p,vs,by rw[ev,ep],.inl ((az H O).seq g1),q _ H (aB.refl H) (gv.mpr (by rw[g2.length]))⟩
 ·rename_i ys;cases hg;obtain⟨v,ev,h1⟩:=hd.one;rw[cx]at h1;obtain⟨p,vs,ep,g1,g2⟩:=h1;exact iq pins s σ H xs us Q I r ⟨p,vs,by rw[ev,ep],.inr (bO (az H O) g1),q _ H (aB.refl H) (gv.mpr (by rw[g2.length]))⟩
 ·rename_i z;obtain⟨h1,h2⟩:=bp hg;subst h2;obtain⟨v,ev,h1'⟩:=hd.one;exact rz pins s σ H xs us Q I r ⟨z,by rw[ev,fF.mp h1'],dh h1,q _ H (aB.refl H) (gv.mpr rfl)⟩
 ·rename_i ys;cases hg;obtain⟨v,ev,h1⟩:=hd.one;obtain⟨p,ep,g1⟩:=MV.mp h1;exact iq pins s σ H xs us Q I r ⟨p,ys.map .str,by rw[ev,ep],.inr (.inr g1),q _ H (aB.refl H) (gv.mpr (by rw[O6]))⟩
 ·cases hg
noncomputable def iL:List D->aY
 |[.lst xs]=>some (.tup xs)
 |[.tup xs]=>some (.tup xs)
 |_=>none
theorem t7:fw X (.type "tuple") (CM X.K iL):=by
 rintro pins s σ H xs us Q I r ⟨O,ds,d,hO,hd,hg,q⟩;unfold iL at hg;split at hg
 ·rename_i ys;cases hg;obtain⟨v,ev,h1⟩:=hd.one;rw[cw]at h1;obtain⟨p,vs,ep,g1,g2⟩:=h1;exact j6 pins s σ H xs us Q I r ⟨p,vs,by rw[ev,ep],.inl ⟨(az H O).seq g1,λl hl=>q _ _ (cZ hl _) (gh hO hl g2)⟩⟩
 ·rename_i ys;cases hg;obtain⟨v,ev,h1⟩:=hd.one;have h0:=h1;rw[cx]at h1;obtain⟨p,vs,ep,g1,g2⟩:=h1;rw[ep]at h0;exact j6 pins s σ H xs us Q I r ⟨p,vs,by rw[ev,ep],.inr ⟨bO (az H O) g1,q _ H (aB.refl H) h0⟩⟩
 ·cases hg
noncomputable def sS:List D->aY
 |[.int i,.int j]=>some (.int (if j>i then j else i))
 |_=>none
noncomputable def tL:List D->aY
 |[.int i,.int j]=>some (.int (if j<i then j else i))
 |_=>none
theorem vG(hc:X.calm=true):fw X (.builtin "max") (CM X.K sS):=by
 rintro pins s σ H xs us Q I r ⟨O,ds,d,hO,hd,hg,q⟩;unfold sS at hg;split at hg
 ·rename_i i j;cases hg;obtain⟨v,w,ev,h1,h2⟩:=hd.two;exact xG hc pins s σ H xs us Q I r ⟨i,j,by rw[ev,gv.mp h1,gv.mp h2],q _ H (aB.refl H) (gv.mpr rfl)⟩
 ·cases hg
theorem vT(hc:X.calm=true):fw X (.builtin "min") (CM X.K tL):=by
 rintro pins s σ H xs us Q I r ⟨O,ds,d,hO,hd,hg,q⟩;unfold tL at hg;split at hg
 ·rename_i i j;cases hg;obtain⟨v,w,ev,h1,h2⟩:=hd.two;exact yf hc pins s σ H xs us Q I r ⟨i,j,by rw[ev,gv.mp h1,gv.mp h2],q _ H (aB.refl H) (gv.mpr rfl)⟩
 ·cases hg
noncomputable def Hw:D->String
 |.non=>"NoneType"
 |.bl _=>"bool"
 |.int _=>"int"
 |.str _=>"str"
 |.tup _=>"tuple"
 |.lst _=>"list"
 |.dct _ _=>"dict"
 |_=>""
noncomputable def CZ(T:String)(d:D):Bool:=match d with
 |.bl _=>T=="bool"||T=="int"
 |.non=>T=="NoneType"
 |.int _=>T=="int"
 |.str _=>T=="str"
 |.tup _=>T=="tuple"
 |.lst _=>T=="list"
 |.dct _ _=>T=="dict"
 |_=>false
noncomputable def vi(K:QR)(T:String):Prop:=∀d:D,top d=true->Rw K (.type (Hw d)) (.type T)=some (CZ T d)
noncomputable def Mz(K:QR)(T:String):ax->Hp->VK->Prop:=λxs H Q=>∃O x d,xs=[x,.ty T]/\top d=true/\eL K (hid H O) d x/\Q (.bl (CZ T d)) H
theorem Be(ok:vi X.K T):fw X (.builtin "isinstance") (Mz X.K T):=by
 rintro pins s σ H xs us Q I r ⟨O,x,d,ex,td,hd,q⟩;subst ex;obtain⟨u,w',rfl,rx,rt⟩:=vals2 r;cases rt;have e:=ok d td;have fin:∀tk,EP X pins σ Q (.bool (CZ T d)) {s with toks:=tk}:=λtk=>⟨.bl _,H,I.tok _,rfl,q⟩
 cases fj I td (hd.mono (az H O)) rx with
 |non=>exact Rx PySem.W.kitx_none I.kIn True.intro e (λz=>nomatch z) fin
 |bl b=>exact Rx PySem.W.kitx_bool I.kIn True.intro e (λz=>nomatch z) fin
 |int i t=>exact Rx PySem.W.kitx_int I.kIn True.intro e (λz=>nomatch z) fin
 |str y t=>exact Rx PySem.W.kitx_str I.kIn True.intro e (λz=>nomatch z) fin
 |tup h rv t=>
  obtain⟨o,h1,h2,_⟩:=t;exact Rx PySem.W.kitx_tuple I.kIn ⟨o,h1,h2⟩ e (λz=>nomatch z) fin
 |lst h rv t=>
  obtain⟨o,h1,h2,_⟩:=t;exact Rx PySem.W.kitx_list I.kIn ⟨o,h1,h2⟩ e (λz=>nomatch z) fin
theorem lF:Sv "isinstance"=some (.builtin "isinstance"):=by first|rfl|decide +kernel
noncomputable def vR(T:String)(d:D):aY:=if top d then some (.bl (CZ T d))else none
noncomputable def mh(T:String)(f:FX):FX:=f1 (vR T) f
end
section
variable{X:Cx}{a:Sh}{f:FX}{pos:Pos}
noncomputable def isNon:D->Bool
 |.non=>true
 |_=>false
noncomputable def MY(d:D):aY:=some (.bl (isNon d))
noncomputable def Jp(d:D):aY:=some (.bl (!isNon d))
noncomputable def MF(f:FX):FX:=f1 MY f
noncomputable def J8(f:FX):FX:=f1 Jp f
end
noncomputable def Walk(K:QR)(Hd:Hp)(J:It)(ds:List D):Prop:=
 ∀(Hn:Hp)(O':ap)(i:Nat),eG Hn O'->aB Hd (hid Hn O')->(∀d,ds[i]?=some d->J.go i Hn/\∀x H2,J.yld i Hn x H2->aB Hn H2/\eL K (hid H2 O') d x)/\(i=ds.length->J.stop i Hn)
noncomputable def La(X:Cx)(G:aC):TI:=λσ H RR=>∃O ρ,eA X.K O H ρ σ/\fH X σ O H (G ρ) λds=>∀J H1,aB H H1->Walk X.K (hid H1 O) J ds->RR J H1
noncomputable def FI(X:Cx)(tg iter:Sh)(G:aC):Prop:=PI X tg iter (La X G)
noncomputable def oK:D->Option (List D)
 |.lst xs=>some xs
 |.tup xs=>some xs
 |_=>none
noncomputable def fS(f:FX):aC:=λρ=>(f ρ).bind λd=>rO (oK d)
section
variable{X:Cx}{tg:Sh}
theorem yk{K:QR}{Hd:Hp}{a:Sg}{ds:List D}{vs:ax}(h:kg K Hd a vs)(g:aJ K Hd ds vs):Walk K Hd (Lc K a) ds:=λHn O' i hO s=>
  have s':aB Hd Hn:=s.trans (az Hn O')
  ⟨fun d e=>by
    obtain⟨v,ev,dv⟩:=g.get e;refine⟨⟨vs,v,s'.seq h,ev⟩,λx H2 zq=>zq.elim λe2 y=>?_⟩;have q:=y vs (s'.seq h);rw[ev]at q;cases q;subst e2;exact⟨aB.refl _,dv.mono s⟩,
   λhl=>⟨vs,s'.seq h,by rw[<-g.length];exact O7 hl.symm⟩⟩
theorem AK{K:QR}{Hd:Hp}{a:Sg}{ds:List D}{vs:ax}(h:Hd a=some (.tup vs))(g:aJ K Hd ds vs):Walk K Hd (Lg K a) ds:=λHn O' i hO s=>
  have s':aB Hd Hn:=s.trans (az Hn O')
  ⟨fun d e=>by
    obtain⟨v,ev,dv⟩:=g.get e;refine⟨⟨vs,v,bO s' h,ev⟩,λx H2 zq=>zq.elim λe2 y=>?_⟩;have q:=y vs (bO s' h);rw[ev]at q;cases q;subst e2;exact⟨aB.refl _,dv.mono s⟩,
   λhl=>⟨vs,bO s' h,by rw[<-g.length];exact O7 hl.symm⟩⟩
noncomputable def fk(lo:Int)(n:Nat):List D:=(List.range n).map λ(k:Nat)=>D.int (lo+(k:Int))
theorem pS(lo:Int)(n:Nat):(fk lo n).length=n:=by unfold fk;rw[O6,P5]
theorem uO{K:QR}{Hd:Hp}(lo:Int)(n:Nat):Walk K Hd (Kp lo n) (fk lo n):=λHn O' i hO s=>
  ⟨fun d e=>by
    unfold fk at e;rw[Pm]at e;cases hi:(List.range n)[i]? with
    |none=>rw[hi]at e;cases e
    |some k=>
      rw[hi]at e;cases e;have hlt:i<n:=by
        have:=(List.getElem?_eq_some_iff.mp hi).1
        rwa [P5]at this
      have ek:k=i:=by
        rw[P7 hlt]at hi;exact(Option.some.inj hi).symm
      subst ek;exact⟨hlt,λx H2 zq=>zq.elim λe1 e2=>by subst e1;exact⟨aB.refl _,gv.mpr e2⟩⟩,
   λhl=>by rw[pS]at hl;exact O7 hl.symm⟩
noncomputable def okR(j:Int):Bool:=decide (-(2^62)<=j/\j<2^62)
noncomputable def kQ:List D->Option (List D)
 |[.int j]=>if okR j then some (fk 0 j.toNat)else none
 |_=>none
noncomputable def v9:List D->Option (List D)
 |[.int i,.int j]=>if okR i&&okR j then some (fk i (j-i).toNat)else none
 |_=>none
noncomputable def fW(f:aC):aC:=λρ=>(f ρ).bind λds=>rO (kQ ds)
noncomputable def El(f:aC):aC:=λρ=>(f ρ).bind λds=>rO (v9 ds)
end
noncomputable abbrev GF:=D->ak->Option ak
noncomputable def Kn(K:QR)(g:GF):TG:=λv σ H Q=>∃O ρ d ρ',eA K O H ρ σ/\eL K (hid H O) d v/\g d ρ=some ρ'/\∀σ',eA K O H ρ' σ'->(∀(i:Nat) x,ρ'[i]?=some (some x)->(∀d,x≠.val d)->σ'[i]?=σ[i]?/\ρ[i]?=some (some x))->Q σ' H
noncomputable def FG(X:Cx)(tg:Sh)(g:GF):Prop:=PG X tg (Kn X.K g)
noncomputable def setV(i:Nat)(d:D)(ρ:ak):ak:=ρ.set i (some (.val d))
theorem aG{α:Type}{l:List α}{i j:Nat}{a b:α}(h:(l.set i a)[j]?=some b):(j=i/\b=a)\/(j≠i/\l[j]?=some b):=by
 by_cases e:j=i
 ·subst e;left;have hj:j<(l.set j a).length:=(List.getElem?_eq_some_iff.mp h).1;rw[P8]at hj;rw[OV hj]at h;exact⟨rfl,(Option.some.inj h).symm⟩
 ·right;rw[OW (Ne.symm e)]at h;exact⟨e,h⟩
theorem eA.setV{K:QR}{O:ap}{H:Hp}{ρ:ak}{σ:St}(E:eA K O H ρ σ){i:Nat}{d:D}{v:V}(hi:i<σ.length)(hd:eL K (hid H O) d v):eA K O H (setV i d ρ) (σ.set i (some v)):=
  ⟨fun j d' e=>by
    rcases aG e with⟨hj,eq⟩|⟨ne,eq⟩
    ·cases eq;rw[hj];exact⟨v,OV hi,hd⟩
    · obtain⟨w,e1,e2⟩:=E.val j d' eq
      exact⟨w,by rw[OW (Ne.symm ne)];exact e1,e2⟩,
   λj xs e=>by
    rcases aG e with⟨_,eq⟩|⟨ne,eq⟩
    ·cases eq
    · obtain⟨a,e1,e2⟩:=E.own j xs eq
      exact⟨a,by rw[OW (Ne.symm ne)];exact e1,e2⟩,
   λj k xs ys a e1 e2 e3 e4=>by
    rcases aG e1 with⟨_,q1⟩|⟨ne1,q1⟩
    ·cases q1
    · rcases aG e2 with⟨_,q2⟩|⟨ne2,q2⟩
      ·cases q2
      · rw[OW (Ne.symm ne1)]at e3
        rw[OW (Ne.symm ne2)]at e4;exact E.one j k xs ys a q1 q2 e3 e4,E.all⟩
section
variable{X:Cx}{pos:Pos}
noncomputable def gN(i:Nat):GF:=λd ρ=>some (setV i d ρ)
noncomputable abbrev CK:=List D->ak->Option ak
noncomputable def LL(K:QR)(g:CK):Gn:=λvs σ H Q=>∃O ρ ds ρ',eA K O H ρ σ/\aJ K (hid H O) ds vs/\g ds ρ=some ρ'/\∀σ',eA K O H ρ' σ'->(∀(i:Nat) x,ρ'[i]?=some (some x)->(∀d,x≠.val d)->σ'[i]?=σ[i]?/\ρ[i]?=some (some x))->Q σ' H
noncomputable def N2(X:Cx)(ts:aF)(g:CK):Prop:=Js X ts (LL X.K g)
noncomputable def Gw:CK:=λds ρ=>match ds with
 |[]=>some ρ
 |_=>none
noncomputable def A6(g:GF)(h:CK):CK:=λds ρ=>match ds with
 |d::r=>(g d ρ).bind λρ1=>h r ρ1
 |_=>none
noncomputable def gT(n:Nat)(g:CK):GF:=λd ρ=>match d with
 |.tup xs=>if xs.length=n then g xs ρ else none
 |_=>none
end
noncomputable def Dt{α:Type}(r:R α):R α:=match r with
 |.ok a=>.ok a
 |.error _=>un
theorem Ag{α:Type}{r:R α}{a:α}(h:Dt r=.ok a):r=.ok a:=by
 cases r with
 |ok b=>exact h
 |error z=>cases h
noncomputable def inB(ix:gj)(ρ:ak):ak:=ix.map λo=>match o with
 |some i=>match ρ[i]? with
  |some (some (.val d))=>some (.val d)
  |_=>none
 |none=>none
noncomputable def Am(ρ:ak)(g:GF)(C:aX)(Fe:FX):List D->R (List D)
 |[]=>.ok []
 |d::ds=>(rO (g d ρ)).bind λρ1=>(Dt (C ρ1)).bind λc=>if c then(Dt (Fe ρ1)).bind λv=>(Am ρ g C Fe ds).bind λr=>.ok (v::r)else Am ρ g C Fe ds
theorem uz(ρ:ak)(g:GF)(C:aX)(Fe:FX)(d:D)(ds:List D):Am ρ g C Fe (d::ds)=(rO (g d ρ)).bind λρ1=>(Dt (C ρ1)).bind λc=>if c then(Dt (Fe ρ1)).bind λv=>(Am ρ g C Fe ds).bind λr=>.ok (v::r)else Am ρ g C Fe ds:=rfl
noncomputable def ja(ix:gj)(G:aC)(g:GF)(C:aX)(Fe:FX):FX:=λρ=>(G ρ).bind λds=>if small ds.length then Dt ((Am (inB ix ρ) g C Fe ds).bind λr=>.ok (.lst r))else un
noncomputable def Mx(X:Cx)(ifs:aF)(F:aX):Prop:=Ho X ifs (KA X F)
noncomputable def eK:aX:=λ_=>.ok true
theorem Kx{X:Cx}:Mx X [] eK:=λpins s σ H Q I zq=>zq.elim λO zq=>zq.elim λρ zq=>zq.elim λE q=>Du pins s σ H Q I (q H (aB.refl H))
theorem lA{ix:gj}{ρ:ak}{j:Nat}{x:S}(e:(inB ix ρ)[j]?=some (some x)):∃i d,ix[j]?=some (some i)/\ρ[i]?=some (some (.val d))/\x=.val d:=by
 unfold inB at e;rw[Pm]at e;cases q:ix[j]? with
 |none=>rw[q]at e;cases e
 |some o=>
  rw[q]at e;cases o with
  |none=>cases e
  |some i=>
   have e':(match ρ[i]? with|some (some (.val d))=>some (S.val d)|_=>none)=some x:=Option.some.inj e;split at e'
   ·rename_i d hd;cases e';exact⟨i,d,rfl,hd,rfl⟩
   ·cases e'
theorem EG{K:QR}{O:ap}{H:Hp}{ρ:ak}{σ:St}(ix:gj)(E:eA K O H ρ σ):eA K O H (inB ix ρ) (inBlock ix σ):=by
 refine⟨λj d e=>?_,λj xs e=>?_,λj k xs ys a e=>?_,E.all⟩
 ·obtain⟨i,d',q1,q2,q3⟩:=lA e;cases q3;obtain⟨v,e1,e2⟩:=E.val i d q2;refine⟨v,?_,e2⟩;unfold inBlock;rw[Pm,q1];show some ((σ[i]?).getD none)=some (some v);rw[e1];rfl
 ·obtain⟨_,_,_,_,q3⟩:=lA e;cases q3
 ·obtain⟨_,_,_,_,q3⟩:=lA e;cases q3
theorem um{H:Hp}{O:ap}{p:Sg}{o:HO}(hp:H p=none):aB (hid H O) (hid (upd H p o) (p::O)):=λb u h=>by
 unfold hid at h ⊢;by_cases hb:b∈O
 ·rw[if_pos hb]at h;cases h
 ·rw[if_neg hb]at h;have ne:=aL h hp;rw[if_neg (by intro z;rcases List.mem_cons.mp z with z|z;exact ne z;exact hb z),av ne];exact h
theorem eA.hideNew{K:QR}{O:ap}{H:Hp}{ρ:ak}{σ:St}{p:Sg}{o:HO}(m:jd o)(E:eA K O H ρ σ)(hp:H p=none):eA K (p::O) (upd H p o) ρ σ:=by
 have s:aB (hid H O) (hid (upd H p o) (p::O)):=um hp;refine⟨λi d e=>let ⟨v,a,b⟩:=E.val i d e;⟨v,a,b.mono s⟩,λi xs e=>?_,E.one,(E.all.same (cZ hp o)).cons aT m⟩;obtain⟨a,e1,e2,e3⟩:=E.own i xs e;obtain⟨u,hu⟩:=e3.some;exact⟨a,e1,OT _ e2,e3.mono (by rw[av (aL hu hp)]) s⟩
theorem eA.rewrite{K:QR}{O:ap}{H:Hp}{ρ:ak}{σ:St}{p:Sg}{o:HO}(m:jd o)(E:eA K O H ρ σ)(hp:p∈O)(hs:∀(i:Nat) xs,ρ[i]?=some (some (.own xs))->σ[i]?≠some (some (.ref p))):eA K O (upd H p o) ρ σ:=by
 have s:aB (hid H O) (hid (upd H p o) O):=jK hp;refine⟨λi d e=>let ⟨v,a,b⟩:=E.val i d e;⟨v,a,b.mono s⟩,λi xs e=>?_,E.one,E.all.upd hp m⟩;obtain⟨a,e1,e2,e3⟩:=E.own i xs e;have ne:a≠p:=λz=>hs i xs e (by rw[<-z];exact e1);exact⟨a,e1,e2,e3.mono (by rw[av ne]) s⟩
theorem eA.forget{K:QR}{O:ap}{H:Hp}{ρ ρ':ak}{σ:St}(E:eA K O H ρ σ)(h:∀(i:Nat) x,ρ'[i]?=some (some x)->ρ[i]?=some (some x)):eA K O H ρ' σ:=
 ⟨λi d e=>E.val i d (h i _ e),λi xs e=>E.own i xs (h i _ e),λi j xs ys a e1 e2=>E.one i j xs ys a (h i _ e1) (h j _ e2),E.all⟩
noncomputable def Fills(ρ:ak)(g:GF):Prop:=∀d ρ1,g d ρ=some ρ1->∀(i:Nat) x,ρ[i]?=some (some x)->ρ1[i]?=some (some x)
theorem qA(ix:gj)(ρ:ak):∀(i:Nat) xs,(inB ix ρ)[i]?≠some (some (.own xs)):=by
 intro j xs e;obtain⟨_,_,_,_,q3⟩:=lA e;cases q3
theorem Jq{α:Type}{o:Option α}{a:α}(h:rO o=.ok a):o=some a:=by
 cases o with
 |none=>cases h
 |some b=>cases h;rfl
end TG
namespace TG
open PySem PySem.Spec L2
variable[al]
section
variable{X:Cx}{elt tg iter:Sh}{ifs:aF}{scope:Sx}{pos:Pos}{N:ah}{ix:gj}{G:aC}{g:GF}{C:aX}{Fe:FX}
structure mV(ix:gj)(g:GF):Prop where
 fill:∀ρ,Fills (inB ix ρ) g
 own:∀ρ d ρ1,g d (inB ix ρ)=some ρ1->∀(i:Nat) xs,ρ1[i]?≠some (some (.own xs))
theorem ut{ρ:ak}{i:Nat}(h:ix[i]?=some none):∀x,(inB ix ρ)[i]?≠some (some x):=λx e=>by
 obtain⟨_,_,q,_⟩:=lA e;rw[h]at q;cases q
theorem jX{i:Nat}(h:ix[i]?=some none):mV ix (gN i):=
  ⟨fun ρ d ρ1 e j x q=>by
    cases e;by_cases z:j=i
    ·subst z;exact absurd q (ut h x)
    ·unfold setV;rw[OW (Ne.symm z)];exact q,
   λρ d ρ1 e j xs q=>by
    cases e;rcases aG q with⟨_,z⟩|⟨_,z⟩
    ·cases z
    ·exact qA ix ρ j xs z⟩
noncomputable def E9(ix:gj)(is:bx):Bool:=is.all λi=>match ix[i]? with
 |some none=>true
 |_=>false
noncomputable def uG:bx->CK
 |[]=>Gw
 |i::is=>A6 (gN i) (uG is)
theorem w8:∀(is:bx)(ds:List D)(ρ ρ1:ak),uG is ds ρ=some ρ1->∀(k:Nat)(x:S),ρ1[k]?=some (some x)->(k∈is/\∃d,x=.val d)\/ρ[k]?=some (some x)
 |[],ds,ρ,ρ1,h,k,x,e=>by
  cases ds with
  |nil=>cases h;exact .inr e
  |cons _ _=>cases h
 |i::is,ds,ρ,ρ1,h,k,x,e=>by
  cases ds with
  |nil=>cases h
  |cons d ds=>
   rcases w8 is ds (setV i d ρ) ρ1 h k x e with⟨a,b⟩|q
   ·exact .inl ⟨OT _ a,b⟩
   ·rcases aG q with⟨z,w⟩|⟨_,w⟩
    ·exact .inl ⟨by rw[z];exact OS,d,Option.some.inj w⟩
    ·exact .inr w
theorem uy:∀(is:bx)(ds:List D)(ρ ρ1:ak),uG is ds ρ=some ρ1->∀(k:Nat)(x:S),k∉is->ρ[k]?=some (some x)->ρ1[k]?=some (some x)
 |[],ds,ρ,ρ1,h,k,x,_,e=>by
  cases ds with
  |nil=>cases h;exact e
  |cons _ _=>cases h
 |i::is,ds,ρ,ρ1,h,k,x,n,e=>by
  cases ds with
  |nil=>cases h
  |cons d ds=>
   refine uy is ds (setV i d ρ) ρ1 h k x (λz=>n (OT _ z)) ?_;unfold setV;rw[OW (λz=>n (by rw[z];exact OS))];exact e
theorem iM{is:bx}{n:Nat}(h:E9 ix is=true):mV ix (gT n (uG is)):=by
 have hn:∀i∈is,ix[i]?=some none:=λi hi=>by
  have:=List.all_eq_true.mp h i hi
  cases e:ix[i]? with
  |none=>rw[e]at this;cases this
  |some o=>cases o with
   |none=>rfl
   |some _=>rw[e]at this;cases this
 have shape:∀ρ d ρ1,gT n (uG is) d ρ=some ρ1->∃ds,uG is ds ρ=some ρ1:=λρ d ρ1 e=>by
  cases d with
  |tup xs=>
   have e':(if xs.length=n then uG is xs ρ else none)=some ρ1:=e;by_cases hl:xs.length=n
   ·rw[if_pos hl]at e';exact⟨xs,e'⟩
   ·rw[if_neg hl]at e';cases e'
  |_=>cases e
 refine⟨λρ d ρ1 e k x q=>?_,λρ d ρ1 e k xs q=>?_⟩
 ·obtain⟨ds,e⟩:=shape _ d ρ1 e;exact uy is ds _ ρ1 e k x (λz=>ut (hn k z) x q) q
 ·obtain⟨ds,e⟩:=shape _ d ρ1 e;rcases w8 is ds _ ρ1 e k _ q with⟨_,d,z⟩|z
  ·cases z
  ·exact qA ix ρ k xs z
structure lg(X:Cx)(scope:Sx)(N:ah)(ix:gj):Prop where
 cell:∀y∈scope.names,y.2≠.cell
 kind:scope.kind=.function
 names:∀y∈scope.names,y.2=.local->scope.names.lookup y.1=some .local
 free:∀y∈scope.names,y.2=.free->X.env.scope.names.lookup y.1=some .cell\/X.env.scope.names.lookup y.1=some .free
 ix:sG X.N N scope.names ix=true
noncomputable def jU(XS:n8)(XN:ah)(scope:Sx)(N:ah)(ix:gj):Bool:=
 scope.names.all (λy=>decide (y.2≠.cell))&&decide (scope.kind=.function)&&scope.names.all (λy=>decide (y.2≠.local)||decide (scope.names.lookup y.1=some .local)) &&
  scope.names.all (λy=>decide (y.2≠.free)||(decide (XS.lookup y.1=some .cell)||decide (XS.lookup y.1=some .free)))&&sG XN N scope.names ix
theorem lg.of(h:jU X.env.scope.names X.N scope N ix=true):lg X scope N ix:=by
 unfold jU at h;simp only[Pt]at h;obtain⟨⟨⟨⟨h1,h2⟩,h3⟩,h4⟩,h5⟩:=h;refine⟨λy hy=>of_decide_eq_true (List.all_eq_true.mp h1 y hy),of_decide_eq_true h2,λy hy e=>?_,λy hy e=>?_,h5⟩
 ·rcases PX _ _ ▸ List.all_eq_true.mp h3 y hy with q|q
  ·exact absurd e (of_decide_eq_true q)
  ·exact of_decide_eq_true q
 ·rcases PX _ _ ▸ List.all_eq_true.mp h4 y hy with q|q
  ·exact absurd e (of_decide_eq_true q)
  ·rcases PX _ _ ▸ q with q|q
   ·exact .inl (of_decide_eq_true q)
   ·exact .inr (of_decide_eq_true q)
noncomputable def Nf(X:Cx)(scope:Sx)(N:ah)(tg elt:Sh)(ifs:aF)(g:GF)(C:aX)(Fe:FX):Prop:=
 ∀cl C' fp s H E,FG (bH X scope N cl C' fp s H E) tg g/\Mx (bH X scope N cl C' fp s H E) ifs C/\FE (bH X scope N cl C' fp s H E) elt Fe
noncomputable def G1(K:QR)(F:aX):TT:=λσ H Q=>∃O ρ b,eA K O H ρ σ/\F ρ=.ok b/\∀H',aB H H'->Q b H'
noncomputable def Ld(K:QR)(F:FX):TE:=λσ H Q=>∃O ρ d,eA K O H ρ σ/\F ρ=.ok d/\∀v H',aB H H'->eL K (hid H' O) d v->Q v H'
theorem Nf.k(hb:Nf X scope N tg elt ifs g C Fe):∀cl C' fp s H E,PG (bH X scope N cl C' fp s H E) tg (Kn X.K g)/\Ho (bH X scope N cl C' fp s H E) ifs (G1 X.K C)/\PE (bH X scope N cl C' fp s H E) elt (Ld X.K Fe):=λcl C' fp s H E=>by
 obtain⟨h1,h2,h3⟩:=hb cl C' fp s H E;refine⟨h1,λpins s σ H Q I zq=>zq.elim λO zq=>zq.elim λρ zq=>zq.elim λb zq=>zq.elim λe1 zq=>zq.elim λe2 q=>h2 pins s σ H Q I ⟨O,ρ,e1,by rw[e2];exact q⟩,λpins s σ H Q I zq=>zq.elim λO zq=>zq.elim λρ zq=>zq.elim λd zq=>zq.elim λe1 zq=>zq.elim λe2 q=>h3 pins s σ H Q I ⟨O,ρ,e1,by rw[e2];exact q⟩⟩
noncomputable def LK(X:Cx)(F:FX):TE:=λσ H Q=>∃O ρ,eA X.K O H ρ σ/\fH X σ O H (F ρ) λd=>∀D H' total acc,d=.lst total->aB H H'->H D=none->H' D=some (.lst acc)->aJ X.K (hid H' (D::O)) total acc->Q (.ref D) H'
theorem K5{F:FX}:∀σ H Q,tF X F σ H Q->LK X F σ H Q:=λσ H Q zq=>zq.elim λO zq=>zq.elim λρ zq=>zq.elim λE hF=>⟨O,ρ,E,hF.imp λd q D H' total acc e sm hD hD' dn=>by
 subst e;have DO:D∉O:=E.all.not hD;exact q _ H' sm (cw.mpr ⟨D,acc,rfl,kg.of (by rw[lZ DO];exact hD'),dn.mono (eT λa ha=>OT _ ha)⟩)⟩
theorem CH(tk:mV ix g):∀σ H Q,LK X (ja ix G g C Fe) σ H Q->Kh (La X G) (Kn X.K g) (G1 X.K C) (Ld X.K Fe) ix σ H Q:=λσ H Q zq=>zq.elim λO zq=>zq.elim λρ zq=>zq.elim λE hF=>by
 refine⟨O,ρ,E,(fH.bind hF).imp λds hF=>?_⟩;have hz:small ds.length=true:=by
  cases e:small ds.length with
  |true=>rfl
  |false=>rw[e]at hF;exact hF.elim
 rw[hz,if_pos rfl]at hF;cases hL:Am (inB ix ρ) g C Fe ds with
 |error z=>rw[hL]at hF;exact hF.elim
 |ok total=>
 rw[hL]at hF;have q:∀D H' total' acc,TG.D.lst total=.lst total'->aB H H'->H D=none->H' D=some (.lst acc)->aJ X.K (hid H' (D::O)) total' acc->Q (.ref D) H':=hF;have e2:=hL;have hfill:=tk.fill;have hown:=tk.own;refine λJ H1 s1 wk D hD=>?_;have E1:eA X.K (D::O) (upd H1 D (.lst [])) (inB ix ρ) (inBlock ix σ):=((EG ix E).same s1).hideNew trivial hD;have DO:D∉O:=(E.all.same s1).not hD;refine⟨λi m σ' H'=>m=ds.length-i/\i<=ds.length/\aB H1 H'/\eA X.K (D::O) H' (inB ix ρ) σ'/\∃acc dn rest,H' D=some (.lst acc)/\acc.length<=i/\aJ X.K (hid H' (D::O)) dn acc/\Am (inB ix ρ) g C Fe (ds.drop i)=.ok rest/\dn++rest=total,
  ⟨ds.length,by rw[P6],O9 _,cZ hD _,E1,[],[],total,aT,OZ _,cC.mpr rfl,by rw[PJ];exact e2,rfl⟩,?_⟩
 rintro i m σ' H' ⟨rfl,hi,sm,E',acc,dn,rest,hacc,hlen,hdn,hrest,htot⟩;have sH:aB (hid H1 O) (hid H' (D::O)):=λb o h=>by
  have h2:=sm b o (az H1 O b o h);unfold hid at h ⊢;by_cases hb:b∈O
  ·rw[if_pos hb]at h;cases h
  ·rw[if_neg hb]at h;have ne:b≠D:=aL h hD;rw[if_neg (by intro z;rcases List.mem_cons.mp z with z|z;exact ne z;exact hb z)];exact h2
 by_cases hlt:i<ds.length
 ·right;obtain⟨go,yl⟩:=(wk H' (D::O) i E'.all sH).1 ds[i] (by simp[hlt]);refine⟨go,λx H2 y=>?_⟩;obtain⟨s2,dx'⟩:=yl x H2 y;have E':=E'.same s2;have sm:=sm.trans s2;have hacc:=s2 _ _ hacc;have hdn:=hdn.mono (bP s2);rw[P9 hlt,uz]at hrest;obtain⟨ρ1,g1,hrest⟩:=nO hrest;have g1:=Jq g1;obtain⟨c,c1,hrest⟩:=nO hrest;have c1:=Ag c1;refine⟨D::O,inB ix ρ,ds[i],ρ1,E',dx',g1,λσ3 E3 _=>?_⟩;refine⟨D::O,ρ1,c,E3,c1,λH4 s4=>?_⟩;have E4:=E3.same s4;have back:∀{H5:Hp},eA X.K (D::O) H5 ρ1 σ3->eA X.K (D::O) H5 (inB ix ρ) σ3:=λz=>z.forget λj x e=>hfill ρ _ _ g1 j x e;cases c with
  |true=>
   refine pR ?_;rw[if_pos rfl]at hrest;obtain⟨v,v1,hrest⟩:=nO hrest;have v1:=Ag v1;obtain⟨r,r1,hrest⟩:=nO hrest;cases hrest;refine⟨D::O,ρ1,v,E4,v1,λw H5 s5 dw=>?_⟩;have s45:=s4.trans s5;have ha5:H5 D=some (.lst acc):=s45 _ _ hacc;have hzl:ds.length<Ss:=Nat.lt_of_le_of_lt (of_decide_eq_true hz) (by decide);refine⟨acc,ha5,by omega,ds.length-(i+1),by omega,rfl,hlt,?_,?_,acc++[w],dn++[v],r,aT,by rw[Pp,Px];omega,?_,r1,by rw[Qa];exact htot⟩
   ·intro b o h;rw[av (aL h hD)];exact s45 _ _ (sm _ _ h)
   ·exact back ((E3.same s45).rewrite trivial OS λj xs e=>absurd e (hown ρ _ _ g1 j xs))
   ·have s6:aB (hid H5 (D::O)) (hid (upd H5 D (.lst (acc++[w]))) (D::O)):=jK OS;exact(hdn.mono ((bP s45).trans s6)).snoc (dw.mono s6)
  |false=>
   refine pL ?_;rw[if_neg OX]at hrest;exact⟨ds.length-(i+1),by omega,rfl,hlt,sm.trans s4,back E4,acc,dn,rest,s4 _ _ hacc,by omega,hdn.mono (bP s4),hrest,htot⟩
 ·left;have ei:i=ds.length:=by omega
  subst ei;refine⟨(wk H' (D::O) ds.length E'.all sH).2 rfl,?_⟩;rw[List.drop_length]at hrest;cases hrest;rw[Pa]at htot;subst htot;exact q D H' _ acc rfl (s1.trans sm) (s1.free hD) hacc hdn
theorem FL(tk:mV ix g):∀σ H Q,tF X (ja ix G g C Fe) σ H Q->Kh (La X G) (Kn X.K g) (G1 X.K C) (Ld X.K Fe) ix σ H Q:=λσ H Q h=>CH tk σ H Q (K5 σ H Q h)
end
structure Ks where
 nx:ak->R D
 bk:ak->R D:=λ_=>un
 ct:ak->R D:=λ_=>un
 ex:Ex->ak->R D:=λx _=>.error (some x)
noncomputable abbrev aS:=Ks->ak->R D
noncomputable def km{α:Type}(r:R α)(k:Ks)(ρ:ak)(f:α->R D):R D:=match r with
 |.ok a=>f a
 |.error (some x)=>k.ex x ρ
 |.error none=>un
structure Base(Hb:Hp)(Ob:ap)(H:Hp)(O:ap):Prop where
 same:aB Hb H
 sub:∀a∈Ob,a∈O
 new:∀a∈O,a∈Ob\/Hb a=none
noncomputable def Bp(K:QR)(H:Hp)(O:ap):ap->List D->Prop
 |[],[]=>True
 |b::bs,x::xs=>gq K H O b x/\Bp K H O bs xs
 |_,_=>False
noncomputable def w6(K:QR)(H:Hp)(O:ap)(a:Sg)(bs:ap)(d:D):Prop:=
 ∃xs,Bp K H O bs xs/\((d=.lst xs/\H a=some (.lst (bs.map .ref)))\/(∃kvs:List (List Key×V),d=.dct (kvs.map λp=>.tup (p.1.map qW)) xs/\H a=some (.dT kvs)/\kvs.map (·.2)=bs.map .ref)\/(d=.dct [] xs/\bs=[]/\H a=some (.dK [])))
noncomputable def AJ(K:QR)(Hb:Hp)(Ob O:ap)(H:Hp)(ρ:ak)(σ:St)(i:Nat)(d:D):Prop:=
 ∃a bs,σ[i]?=some (some (.ref a))/\w6 K H O a bs d/\(a::bs).Nodup/\(∀b∈a::bs,b∈O/\Hb b=none/\b∉Ob/\∀(j:Nat) d',ρ[j]?=some (some (.own d'))->σ[j]?≠some (some (.ref b)))/\∀(j:Nat) d',ρ[j]?=some (some (.nest d'))->j=i
theorem Bp.mono{K:QR}{H H':Hp}{O O':ap}(s:aB (hid H O) (hid H' O')):∀{bs:ap}{xs:List D},Bp K H O bs xs->(∀b∈bs,(∃o,H b=some o)->H' b=H b)->Bp K H' O' bs xs
 |[],[],_,_=>trivial
 |b::bs,x::xs,h,e=>⟨h.1.mono (e b OS h.1.some).symm s,Bp.mono s h.2 λb' hb=>e b' (OT _ hb)⟩
 |[],_::_,h,_=>h.elim
 |_::_,[],h,_=>h.elim
theorem Bp.some{K:QR}{H:Hp}{O:ap}:∀{bs:ap}{xs:List D},Bp K H O bs xs->∀b∈bs,∃o,H b=some o
 |[],_,_,_,hb=>nomatch hb
 |b::bs,x::xs,h,b',hb=>by
  rcases List.mem_cons.mp hb with z|z
  ·rw[z];exact h.1.some
  ·exact Bp.some h.2 b' z
 |_::_,[],h,_,_=>h.elim
theorem w6.some{K:QR}{H:Hp}{O:ap}{a:Sg}{bs:ap}{d:D}(h:w6 K H O a bs d):∀b∈a::bs,∃o,H b=some o:=λb hb=>by
 obtain⟨xs,h1,h2⟩:=h;rcases List.mem_cons.mp hb with z|z
 ·rw[z];rcases h2 with⟨_,q⟩|⟨_,_,q,_⟩|⟨_,_,q⟩<;>exact⟨_,q⟩
 ·exact h1.some b z
theorem w6.mono{K:QR}{H H':Hp}{O O':ap}{a:Sg}{bs:ap}{d:D}(h:w6 K H O a bs d)(s:aB (hid H O) (hid H' O'))(e:∀b∈a::bs,(∃o,H b=Option.some o)->H' b=H b):w6 K H' O' a bs d:=by
 have ea:=e a OS (h.some a OS);obtain⟨xs,h1,h2⟩:=h;refine⟨xs,h1.mono s λb hb=>e b (OT _ hb),?_⟩;rw[ea];exact h2
theorem AJ.to{K:QR}{Hb Hb':Hp}{Ob O O':ap}{H H':Hp}{ρ ρ':ak}{σ σ':St}{i:Nat}{d:D}(h:AJ K Hb Ob O H ρ σ i d)(hσ:σ'[i]?=σ[i]?)(s:aB (hid H O) (hid H' O'))
  (k:∀b,b∈O->Hb b=none->b∉Ob->(∀(j:Nat) d',ρ[j]?=some (some (.own d'))->σ[j]?≠some (some (.ref b)))->(∃o,H b=some o)->H' b=H b/\b∈O'/\Hb' b=none/\∀(j:Nat) d',ρ'[j]?=some (some (.own d'))->σ'[j]?≠some (some (.ref b)))
  (n:∀(j:Nat) d',ρ'[j]?=some (some (.nest d'))->∃d2,ρ[j]?=some (some (.nest d2))):AJ K Hb' Ob O' H' ρ' σ' i d:=by
 obtain⟨a,bs,h1,h2,h3,h4,h5⟩:=h;refine⟨a,bs,hσ.trans h1,h2.mono s λb hb ho=>?_,h3,λb hb=>?_,λj d' q=>?_⟩
 ·obtain⟨q1,q2,q3,q4⟩:=h4 b hb;exact(k b q1 q2 q3 q4 ho).1
 ·obtain⟨q1,q2,q3,q4⟩:=h4 b hb;obtain⟨_,w2,w3,w4⟩:=k b q1 q2 q3 q4 (h2.some b hb);exact⟨w2,w3,q3,w4⟩
 ·obtain⟨d2,q⟩:=n j d' q;exact h5 j d2 q
structure bi(K:QR)(Hb:Hp)(Ob O:ap)(H:Hp)(ρ:ak)(σ:St):Prop where
 env:eA K O H ρ σ
 base:Base Hb Ob H O
 mine:∀(i:Nat) xs a,ρ[i]?=some (some (.own xs))->σ[i]?=some (some (.ref a))->Hb a=none/\a∉Ob
 nst:∀(i:Nat) d,ρ[i]?=some (some (.nest d))->AJ K Hb Ob O H ρ σ i d
theorem Base.same'{Hb:Hp}{Ob:ap}{H H':Hp}{O:ap}(b:Base Hb Ob H O)(s:aB H H'):Base Hb Ob H' O:=⟨b.same.trans s,b.sub,b.new⟩
theorem bi.same{K:QR}{Hb:Hp}{Ob O:ap}{H H':Hp}{ρ:ak}{σ:St}(h:bi K Hb Ob O H ρ σ)(s:aB H H'):bi K Hb Ob O H' ρ σ:=⟨h.env.same s,h.base.same' s,h.mine,λi d q=>(h.nst i d q).to rfl (bP s) (λb q1 q2 q3 q4 zq=>zq.elim λo ho=>⟨by rw[ho,s _ _ ho],q1,q2,q4⟩) λj d' z=>⟨d',z⟩⟩
theorem bi.after{K:QR}{Hb:Hp}{Ob O:ap}{H:Hp}{ρ ρ':ak}{σ σ':St}(S:bi K Hb Ob O H ρ σ)(E':eA K O H ρ' σ')(own:∀(i:Nat) x,ρ'[i]?=some (some x)->(∀d,x≠.val d)->σ'[i]?=σ[i]?/\ρ[i]?=some (some x)):bi K Hb Ob O H ρ' σ':=
 ⟨E',S.base,fun i xs a q1 q2=>by
  obtain⟨w1,w2⟩:=own i _ q1 (λ_ z=>nomatch z);rw[w1]at q2;exact S.mine i xs a w2 q2,λi d q=>by
  obtain⟨w1,w2⟩:=own i _ q (λ_ z=>nomatch z);refine(S.nst i d w2).to w1 (λ_ _ z=>z) (λb q1 q2 q3 q4 _=>⟨rfl,q1,q2,λl d' w=>?_⟩) λl d' w=>⟨d',(own l _ w (λ_ z=>nomatch z)).2⟩
  obtain⟨z1,z2⟩:=own l _ w (λ_ z=>nomatch z);rw[z1];exact q4 l d' z2⟩
structure Kk(X:Cx)(Hb:Hp)(Ob:ap)(E:Ends)(k:Ks)(r:R D):Prop where
 ne:r≠un
 nx:∀O ρ σ H,bi X.K Hb Ob O H ρ σ->k.nx ρ=r->E.nx σ H
 bk:∀O ρ σ H,bi X.K Hb Ob O H ρ σ->k.bk ρ=r->E.bk σ H
 ct:∀O ρ σ H,bi X.K Hb Ob O H ρ σ->k.ct ρ=r->E.ct σ H
 rt:∀d O v H,r=.ok d->Base Hb Ob H O->eL X.K (hid H O) d v->E.rt v H
 ex:∀O ρ σ H x,bi X.K Hb Ob O H ρ σ->k.ex x ρ=r->AY X σ O H x
noncomputable def FD(X:Cx)(Hb:Hp)(Ob:ap)(F:aS):TS:=λE σ H=>∃O ρ k r,bi X.K Hb Ob O H ρ σ/\F k ρ=r/\Kk X Hb Ob E k r
noncomputable def FS(X:Cx)(st:Si)(F:aS):Prop:=∀Hb Ob,PS X st (FD X Hb Ob F)
noncomputable def JO(X:Cx)(st:cS)(F:aS):Prop:=∀Hb Ob,pH X st (FD X Hb Ob F)
theorem fH.on{X:Cx}{Hb:Hp}{Ob O:ap}{H:Hp}{ρ:ak}{σ:St}{E:Ends}{k:Ks}{r:R D}{α:Type}{fr:R α}{G:α->R D}{Q:α->Prop}(h:km fr k ρ G=r)(hk:Kk X Hb Ob E k r)(S:bi X.K Hb Ob O H ρ σ)(q:∀a,G a=r->Q a):fH X σ O H fr Q:=by
 match fr,h with
 |.ok a,h=>exact q a h
 |.error (some x),h=>exact hk.ex O ρ σ H x S h
 |.error none,h=>exact absurd h.symm hk.ne
section
variable{X:Cx}{st:Si}{rest body:cS}{pos:Pos}
noncomputable def aU:aS:=λk ρ=>k.nx ρ
noncomputable def aq(F1 F2:aS):aS:=λk ρ=>F1 {k with nx:=F2 k} ρ
noncomputable def aK(f:FX):aS:=λk ρ=>km (f ρ) k ρ .ok
noncomputable def JK:aS:=λ_ _=>.ok .non
noncomputable def wN(f:FX):aS:=λk ρ=>km (f ρ) k ρ λ_=>k.nx ρ
noncomputable def fm(c:aX)(A B:aS):aS:=λk ρ=>km (c ρ) k ρ λb=>if b then A k ρ else B k ρ
noncomputable def bB(i:Nat)(f:FX):aS:=λk ρ=>km (f ρ) k ρ λd=>k.nx (setV i d ρ)
theorem bi.setV{K:QR}{Hb:Hp}{Ob O:ap}{H:Hp}{ρ:ak}{σ:St}(E:bi K Hb Ob O H ρ σ){i:Nat}{d:D}{v:V}(hi:i<σ.length)(hd:eL K (hid H O) d v):bi K Hb Ob O H (setV i d ρ) (σ.set i (some v)):=
  ⟨E.env.setV hi hd,E.base,fun j xs a e1 e2=>by
    rcases aG e1 with⟨_,q⟩|⟨ne,q⟩
    ·cases q
    · rw[OW (Ne.symm ne)]at e2
      exact E.mine j xs a q e2,
   λj dn e=>by
    rcases aG e with⟨_,q⟩|⟨ne,q⟩
    ·cases q
    · refine(E.nst j dn q).to (OW (Ne.symm ne)) (λ_ _ z=>z) (λb q1 q2 q3 q4 _=>⟨rfl,q1,q2,λl d' w=>?_⟩) λl d' w=>?_
      · rcases aG w with⟨_,z⟩|⟨nl,z⟩
        ·cases z
        ·rw[OW (Ne.symm nl)];exact q4 l d' z
      · rcases aG w with⟨_,z⟩|⟨_,z⟩
        ·cases z
        ·exact⟨d',z⟩⟩
theorem qb{f:FX}{i:Nat}(hi:i<X.N.length)(h:PS X st (Aa (tF X f) (qB i))):FS X st (bB i f):=λHb Ob pins s σ H E I zq=>zq.elim λO zq=>zq.elim λρ zq=>zq.elim λk zq=>zq.elim λr zq=>zq.elim λS zq=>zq.elim λhF hk=>
 h pins s σ H E I ⟨O,ρ,S.env,fH.on hF hk S λd e v H1 s1 d1=>hk.nx O _ _ H1 ((S.same s1).setV (by rw[I.len];exact hi) d1) e⟩
noncomputable def rT(f:FX)(g:GF):aS:=λk ρ=>km (f ρ) k ρ λd=>(rO (g d ρ)).bind k.nx
noncomputable def ql:aS:=λ_ _=>un
noncomputable def kill(is:bx)(ρ:ak):ak:=is.foldl (λρ i=>ρ.set i none) ρ
theorem gZ:∀(is:bx)(ρ:ak)(i:Nat)(x:S),(kill is ρ)[i]?=some (some x)->ρ[i]?=some (some x)
 |[],ρ,i,x,e=>e
 |j::is,ρ,i,x,e=>by
  rcases aG (gZ is (ρ.set j none) i x e)with⟨_,q⟩|⟨_,q⟩
  ·cases q
  ·exact q
theorem bi.kill{K:QR}{Hb:Hp}{Ob O:ap}{H:Hp}{ρ:ak}{σ:St}(E:bi K Hb Ob O H ρ σ)(is:bx):bi K Hb Ob O H (kill is ρ) σ:=
 ⟨E.env.forget (gZ is ρ),E.base,λi xs a e1 e2=>E.mine i xs a (gZ is ρ i _ e1) e2,λi d q=>(E.nst i d (gZ is ρ i _ q)).to rfl (λ_ _ z=>z) (λb q1 q2 q3 q4 _=>⟨rfl,q1,q2,λl d' w=>q4 l d' (gZ is ρ l _ w)⟩) λl d' w=>⟨d',gZ is ρ l _ w⟩⟩
noncomputable def o3(is:bx)(F:aS):aS:=λk ρ=>F k (kill is ρ)
end
noncomputable def iY(g:GF)(B:aS)(k:Ks):List D->ak->R D
 |[],ρ=>k.nx ρ
 |d::ds,ρ=>(rO (g d ρ)).bind λρ1=>B ⟨iY g B k ds,k.nx,iY g B k ds,k.ex⟩ ρ1
noncomputable def yH(G:aC)(g:GF)(B:aS):aS:=λk ρ=>km (G ρ) k ρ λds=>iY g B k ds ρ
noncomputable def lb(H:Hp)(O Ob:ap):Hp:=λb=>if b∈O/\b∉Ob then none else H b
theorem qL{H:Hp}{O Ob:ap}{b:Sg}(h1:b∈O)(h2:b∉Ob):lb H O Ob b=none:=by unfold lb;rw[if_pos ⟨h1,h2⟩]
theorem Di{H:Hp}{O Ob:ap}{b:Sg}{o:HO}(h:lb H O Ob b=some o):H b=some o/\¬(b∈O/\b∉Ob):=by
 unfold lb at h;split at h
 ·cases h
 ·rename_i n;exact⟨h,n⟩
theorem Ax{H:Hp}{O Ob:ap}{b:Sg}{o:HO}(h:H b=some o)(n:¬(b∈O/\b∉Ob)):lb H O Ob b=some o:=by unfold lb;rw[if_neg n];exact h
theorem Base.loop{Hb:Hp}{Ob:ap}{H:Hp}{O:ap}(b:Base Hb Ob H O):Base (lb H O Ob) Ob H O:=
 ⟨fun c o h=>(Di h).1,b.sub,fun a ha=>by
  by_cases h:a∈Ob
  ·exact .inl h
  ·exact .inr (qL ha h)⟩
theorem Base.back{Hb:Hp}{Ob:ap}{H H':Hp}{O O':ap}(b:Base Hb Ob H O)(b':Base (lb H O Ob) Ob H' O'):Base Hb Ob H' O':=by
 have up:aB Hb (lb H O Ob):=λc o h=>Ax (b.same c o h) λzq=>zq.elim λz1 z2=>by
  rcases b.new c z1 with z|z
  ·exact z2 z
  ·rw[z]at h;cases h
 exact⟨up.trans b'.same,b'.sub,λa ha=>(b'.new a ha).imp id up.free⟩
theorem bi.loop{K:QR}{Hb:Hp}{Ob O:ap}{H:Hp}{ρ:ak}{σ:St}(E:bi K Hb Ob O H ρ σ):bi K (lb H O Ob) Ob O H ρ σ:=
 ⟨E.env,E.base.loop,fun i xs a e1 e2=>by
  obtain⟨_,n⟩:=E.mine i xs a e1 e2;obtain⟨a',e3,e4,_⟩:=E.env.own i xs e1;rw[e2]at e3;cases e3;exact⟨qL e4 n,n⟩,λi d q=>(E.nst i d q).to rfl (λ_ _ z=>z) (λb q1 q2 q3 q4 _=>⟨rfl,q1,qL q1 q3,q4⟩) λl d' w=>⟨d',w⟩⟩
theorem bi.back{K:QR}{Hb:Hp}{Ob O O':ap}{H H':Hp}{ρ':ak}{σ':St}(b:Base Hb Ob H O)(E:bi K (lb H O Ob) Ob O' H' ρ' σ'):bi K Hb Ob O' H' ρ' σ':=
 have up:aB Hb (lb H O Ob):=λc o h=>Ax (b.same c o h) λzq=>zq.elim λz1 z2=>by
  rcases b.new c z1 with z|z
  ·exact z2 z
  ·rw[z]at h;cases h
 ⟨E.env,b.back E.base,fun i xs a e1 e2=>by
  obtain⟨z,n⟩:=E.mine i xs a e1 e2;exact⟨up.free z,n⟩,λi d q=>(E.nst i d q).to rfl (λ_ _ z=>z) (λb q1 q2 q3 q4 _=>⟨rfl,q1,up.free q2,q4⟩) λl d' w=>⟨d',w⟩⟩
theorem zt{Hb:Hp}{Ob O O':ap}{H H':Hp}(b:Base Hb Ob H O)(b':Base (lb H O Ob) Ob H' O'):aB (hid H O) (hid H' O'):=λc o h=>by
 unfold hid at h ⊢;by_cases hc:c∈O
 ·rw[if_pos hc]at h;cases h
 ·rw[if_neg hc]at h;have h1:lb H O Ob c=some o:=Ax h λz=>hc z.1;rw[if_neg]
  ·exact b'.same _ _ h1
  ·intro z;rcases b'.new c z with z|z
   ·exact hc (b.sub c z)
   ·rw[h1]at z;cases z
theorem Kk.loop{X:Cx}{Hb:Hp}{Ob O:ap}{H:Hp}{E E':Ends}{k k':Ks}{r:R D}(hk:Kk X Hb Ob E k r)(b:Base Hb Ob H O)(hn:∀O' ρ' σ' H',bi X.K (lb H O Ob) Ob O' H' ρ' σ'->k'.nx ρ'=r->E'.nx σ' H')(hc:∀O' ρ' σ' H',bi X.K (lb H O Ob) Ob O' H' ρ' σ'->k'.ct ρ'=r->E'.ct σ' H')
    (eb:k'.bk=k.nx) (ee:k'.ex=k.ex) (Eb:E'.bk=E.nx) (Er:E'.rt=E.rt):Kk X (lb H O Ob) Ob E' k' r:=
  ⟨hk.ne,hn,fun O' ρ' σ' H' S e=>by rw [Eb]; exact hk.nx O' ρ' σ' H' (S.back b) (by rw [<- eb]; exact e),hc,fun d O' v H' e b' dv=>by rw [Er]; exact hk.rt d O' v H' e (b.back b') dv,
   λO' ρ' σ' H' x S e=>hk.ex O' ρ' σ' H' x (S.back b) (by rw[<-ee];exact e)⟩
section
variable{X:Cx}{st:Si}{rest body:cS}{pos:Pos}
noncomputable def eW(c:aX)(B:aS)(k:Ks):Nat->ak->R D
 |0,_=>un
 |n+1,ρ=>km (c ρ) k ρ λb=>if b then B ⟨eW c B k n,k.nx,eW c B k n,k.ex⟩ ρ else k.nx ρ
noncomputable def kn(n:Nat)(c:aX)(B:aS):aS:=λk ρ=>eW c B k n ρ
end
end TG
namespace TG
open PySem PySem.Spec L2
variable[al]
theorem bi.setO{K:QR}{Hb:Hp}{Ob O:ap}{H:Hp}{ρ:ak}{σ:St}(E:bi K Hb Ob O H ρ σ){i:Nat}{d d':D}{a:Sg}{o:HO}(hi:ρ[i]?=some (some (.own d)))(ha:σ[i]?=some (some (.ref a)))(m:jd o)(new:gq K (upd H a o) O a d'):
  bi K Hb Ob O (upd H a o) (ρ.set i (some (.own d'))) σ:=by
 obtain⟨a',ha',haO,hat⟩:=E.env.own i d hi;rw[ha]at ha';cases ha';obtain⟨m1,m2⟩:=E.mine i d a hi ha;have s:aB (hid H O) (hid (upd H a o) O):=jK haO;have own:∀(j:Nat) ys,(ρ.set i (some (.own d')))[j]?=some (some (.own ys))->∃ys',ρ[j]?=some (some (.own ys')):=λj ys q=>by
  rcases aG q with⟨hj,_⟩|⟨_,q⟩
  ·rw[hj];exact⟨d,hi⟩
  ·exact⟨ys,q⟩
 refine⟨⟨λj d1 e=>?_,λj ys e=>?_,λj l ys zs b q1 q2 q3 q4=>?_,E.env.all.upd haO m⟩,⟨λb u h=>?_,E.base.sub,E.base.new⟩,λj ys b q1 q2=>?_,λj dn q=>?_⟩
 ·rcases aG e with⟨_,q⟩|⟨ne,q⟩
  ·cases q
  ·obtain⟨w,q1,q2⟩:=E.env.val j d1 q;exact⟨w,q1,q2.mono s⟩
 ·rcases aG e with⟨hj,q⟩|⟨ne,q⟩
  ·cases q;rw[hj];exact⟨a,ha,haO,new⟩
  ·obtain⟨b,q1,q2,q3⟩:=E.env.own j ys q;have nb:b≠a:=λz=>ne (E.env.one j i ys d a q hi (by rw[<-z];exact q1) ha);exact⟨b,q1,q2,q3.mono (by rw[av nb]) s⟩
 ·obtain⟨_,q1'⟩:=own j ys q1;obtain⟨_,q2'⟩:=own l zs q2;exact E.env.one j l _ _ b q1' q2' q3 q4
 ·have nb:b≠a:=λz=>by rw[z,m1]at h;cases h
  rw[av nb];exact E.base.same b u h
 ·obtain⟨ys',q⟩:=own j ys q1;exact E.mine j ys' b q q2
 ·have q:ρ[j]?=some (some (.nest dn)):=by
   rcases aG q with⟨_,z⟩|⟨_,z⟩
   ·cases z
   ·exact z
  refine(E.nst j dn q).to rfl s (λb q1 q2 q3 q4 _=>⟨av λz=>q4 i d hi (by rw[z];exact ha),q1,q2,λl d1 w=>?_⟩) λl d1 w=>?_
  ·obtain⟨_,w'⟩:=own l d1 w;exact q4 l _ w'
  ·rcases aG w with⟨_,z⟩|⟨_,z⟩
   ·cases z
   ·exact⟨d1,z⟩
theorem bi.setNew{K:QR}{Hb:Hp}{Ob O:ap}{H H':Hp}{ρ:ak}{σ:St}(E:bi K Hb Ob O H ρ σ){i:Nat}{d:D}{p:Sg}(hi:i<σ.length)(sm:aB H H')(hp:H p=none)(m:∃o,H' p=some o/\jd o)(new:gq K H' (p::O) p d):
  bi K Hb Ob (p::O) H' (ρ.set i (some (.own d))) (σ.set i (some (.ref p))):=by
 have hpO:p∉O:=E.env.all.not hp;have s:aB (hid H O) (hid H' (p::O)):=λb o h=>by
  unfold hid at h ⊢;by_cases hb:b∈O
  ·rw[if_pos hb]at h;cases h
  ·rw[if_neg hb]at h;have ne:=aL h hp;rw[if_neg (by intro z;rcases List.mem_cons.mp z with z|z;exact ne z;exact hb z)];exact sm _ _ h
 have other:∀(j:Nat) xs,ρ[j]?=some (some (.own xs))->σ[j]?≠some (some (.ref p)):=λj xs e z=>by
  obtain⟨a,e1,e2,e3⟩:=E.env.own j xs e;rw[z]at e1;cases e1;obtain⟨o,e3⟩:=e3.some;rw[hp]at e3;cases e3
 refine⟨⟨λj d' e=>?_,λj xs e=>?_,λj k xs ys a e1 e2 e3 e4=>?_,⟨(E.env.all.same sm).1,λa ha=>?_⟩⟩,⟨E.base.same.trans sm,λa ha=>OT _ (E.base.sub a ha),λa ha=>?_⟩,λj xs a e1 e2=>?_,λj dn e=>?_⟩
 ·rcases aG e with⟨_,q⟩|⟨ne,q⟩
  ·cases q
  ·obtain⟨v,q1,q2⟩:=E.env.val j d' q;exact⟨v,by rw[OW (Ne.symm ne)];exact q1,q2.mono s⟩
 ·rcases aG e with⟨hj,q⟩|⟨ne,q⟩
  ·cases q;rw[hj];exact⟨p,OV hi,OS,new⟩
  ·obtain⟨a,q1,q2,q3⟩:=E.env.own j xs q;obtain⟨o,ho⟩:=q3.some;exact⟨a,by rw[OW (Ne.symm ne)];exact q1,OT _ q2,q3.mono (wj sm ho) s⟩
 ·rcases aG e1 with⟨hj,q1⟩|⟨nj,q1⟩
  ·rcases aG e2 with⟨hk,q2⟩|⟨nk,q2⟩
   ·exact hj.trans hk.symm
   ·rw[hj,OV hi]at e3;cases e3;rw[OW (Ne.symm nk)]at e4;exact absurd e4 (other k ys q2)
  ·rcases aG e2 with⟨hk,q2⟩|⟨nk,q2⟩
   ·rw[hk,OV hi]at e4;cases e4;rw[OW (Ne.symm nj)]at e3;exact absurd e3 (other j xs q1)
   ·rw[OW (Ne.symm nj)]at e3;rw[OW (Ne.symm nk)]at e4;exact E.env.one j k xs ys a q1 q2 e3 e4
 ·rcases List.mem_cons.mp ha with rfl|ha
  ·exact m
  ·exact(E.env.all.same sm).2 a ha
 ·rcases List.mem_cons.mp ha with rfl|ha
  ·exact .inr (E.base.same.free hp)
  ·exact E.base.new a ha
 ·rcases aG e1 with⟨hj,q1⟩|⟨nj,q1⟩
  ·rw[hj,OV hi]at e2;cases e2;exact⟨E.base.same.free hp,λz=>hpO (E.base.sub p z)⟩
  ·rw[OW (Ne.symm nj)]at e2;exact E.mine j xs a q1 e2
 ·rcases aG e with⟨_,q⟩|⟨ne,q⟩
  ·cases q
  ·refine(E.nst j dn q).to (OW (Ne.symm ne)) s (λb q1 q2 q3 q4 zq=>zq.elim λo ho=>⟨by rw[ho,sm _ _ ho],OT _ q1,q2,λl d1 w=>?_⟩) λl d1 w=>?_
   ·rcases aG w with⟨hl,z⟩|⟨nl,z⟩
    ·rw[hl,OV hi];intro z;cases z;rw[hp]at ho;cases ho
    ·rw[OW (Ne.symm nl)];exact q4 l d1 z
   ·rcases aG w with⟨_,z⟩|⟨_,z⟩
    ·cases z
    ·exact⟨d1,z⟩
noncomputable def KS(X:Cx)(F:FX):TE:=λσ H Q=>∃O ρ,eA X.K O H ρ σ/\fH X σ O H (F ρ) λd=>∀p H',aB H H'->H p=none->(∃o,H' p=some o/\jd o)->gq X.K H' (p::O) p d->Q (.ref p) H'
noncomputable def FN(X:Cx)(e:Sh)(F:FX):Prop:=PE X e (KS X F)
section
variable{X:Cx}{pos:Pos}
theorem mO{K:QR}{H:Hp}{O:ap}{p:Sg}{ds:List D}{vs:ax}(hp:H p=none)(d:aJ K (hid H O) ds vs):gq K (upd H p (.lst vs)) (p::O) p (.lst ds):=⟨_,vs,aT,rfl,d.mono (um hp)⟩
noncomputable def mS(i:Nat)(f:FX):aS:=λk ρ=>km (f ρ) k ρ λd=>k.nx (ρ.set i (some (.own d)))
theorem pY{st:Si}{f:FX}{i:Nat}(hi:i<X.N.length)(h:PS X st (Aa (KS X f) (qB i))):FS X st (mS i f):=λHb Ob pins s σ H E I zq=>zq.elim λO zq=>zq.elim λρ zq=>zq.elim λk zq=>zq.elim λr zq=>zq.elim λS zq=>zq.elim λhF hk=>
 h pins s σ H E I ⟨O,ρ,S.env,fH.on hF hk S λd e p H1 s1 hp m o=>hk.nx _ _ _ H1 (S.setNew (by rw[I.len];exact hi) s1 hp m o) e⟩
end
theorem Gd{X:Cx}{F:FX}:∀σ H Q,KS X F σ H Q->LK X F σ H Q:=λσ H Q zq=>zq.elim λO zq=>zq.elim λρ zq=>zq.elim λE hF=>⟨O,ρ,E,hF.imp λd q D H' total acc e sm hD hD' dn=>by
 subst e;exact q D H' sm hD ⟨_,hD',trivial⟩ ⟨_,acc,hD',rfl,dn⟩⟩
noncomputable def zn(i:Nat)(u:List D->List D->Option (List D))(f:aC):aS:=λk ρ=>match ρ[i]? with
 |some (some (.own (.lst xs)))=>km (f ρ) k ρ λds=>(rO (u xs ds)).bind λys=>k.nx (ρ.set i (some (.own (.lst ys))))
 |_=>un
noncomputable def Al(K:QR)(r:V->ax->Hp->VK->Prop)(u:List D->List D->Option (List D)):Prop:=
 ∀(H:Hp)(O:ap)(a:Sg)(xs ys as:List D)(ws vs:ax)(Q:VK),eG H O->a∈O->H a=some (.lst ws)->aJ K (hid H O) xs ws->aJ K (hid H O) as vs->u xs as=some ys->(∀ws' v,aJ K (hid H O) ys ws'->Q v (upd H a (.lst ws')))->r (.ref a) vs H Q
theorem ji{K:QR}{H:Hp}{O:ap}{a:Sg}{ys:List D}{ws:ax}(ha:a∈O)(h:aJ K (hid H O) ys ws):gq K (upd H a (.lst ws)) O a (.lst ys):=⟨_,ws,aT,rfl,h.mono (jK ha)⟩
theorem Cp(i:Nat)(u:List D->List D->Option (List D))(f:aC)(k:Ks)(ρ:ak):(∃xs,ρ[i]?=some (some (.own (.lst xs)))/\zn i u f k ρ=km (f ρ) k ρ λds=>(rO (u xs ds)).bind λys=>k.nx (ρ.set i (some (.own (.lst ys)))))\/zn i u f k ρ=un:=by
 unfold zn;cases ρ[i]? with
 |none=>exact .inr rfl
 |some x=>cases x with
  |none=>exact .inr rfl
  |some s=>cases s with
   |own d=>cases d with
    |lst xs=>exact .inl ⟨xs,rfl,rfl⟩
    |_=>exact .inr rfl
   |_=>exact .inr rfl
noncomputable def tM(xs:List D)(ds:List D):Option (List D):=match ds with
 |[y]=>if small (xs.length+1)then some (xs++[y])else none
 |_=>none
theorem qf{K:QR}:Al K wI tM:=λH O a xs ys as ws vs Q hO haO ha dx da hu q=>by
 unfold tM at hu;split at hu
 ·rename_i y;obtain⟨h1,h2⟩:=bp hu;subst h2;obtain⟨v,rfl,dv⟩:=da.one
  have:=dh h1
  rw[dx.length]at this;exact⟨a,ws,v,rfl,rfl,ha,by omega,q _ _ (dx.snoc dv)⟩
 ·cases hu
noncomputable def frz(i:Nat)(ρ:ak):ak:=match ρ[i]? with
 |some (some (.own d))=>setV i d ρ
 |_=>ρ
theorem uJ(i:Nat)(ρ:ak):(∃d,ρ[i]?=some (some (.own d))/\frz i ρ=setV i d ρ)\/frz i ρ=ρ:=by
 unfold frz;cases ρ[i]? with
 |none=>exact .inr rfl
 |some x=>cases x with
  |none=>exact .inr rfl
  |some s=>cases s with
   |own d=>exact .inl ⟨d,rfl,rfl⟩
   |_=>exact .inr rfl
theorem eA.frz{K:QR}{O:ap}{H:Hp}{ρ:ak}{σ:St}(E:eA K O H ρ σ)(i:Nat):∃O',eA K O' H (frz i ρ) σ/\(∀b∈O',b∈O)/\∀b∈O,b∉O'->∃d,ρ[i]?=some (some (.own d))/\σ[i]?=some (some (.ref b)):=by
 rcases uJ i ρ with⟨d,hd,fe⟩|fe
 ·rw[fe];obtain⟨a,ha,haO,hat⟩:=E.own i d hd;have sub:∀b∈O.filter (λb=>decide (b≠a)),b∈O:=λb hb=>(List.mem_filter.mp hb).1;have s:aB (hid H O) (hid H (O.filter λb=>decide (b≠a))):=eT sub;have na:a∉O.filter λb=>decide (b≠a):=λz=>absurd rfl (of_decide_eq_true (List.mem_filter.mp z).2);refine⟨O.filter λb=>decide (b≠a),⟨λj d' e=>?_,λj ys e=>?_,λj l ys zs b q1 q2 q3 q4=>?_,⟨E.all.1,λb hb=>E.all.2 b (sub b hb)⟩⟩,sub,λb hb nb=>?_⟩
  ·rcases aG e with⟨hj,q⟩|⟨ne,q⟩
   ·cases q;rw[hj];exact⟨.ref a,ha,hat.den s na⟩
   ·obtain⟨w,q1,q2⟩:=E.val j d' q;exact⟨w,q1,q2.mono s⟩
  ·rcases aG e with⟨_,q⟩|⟨ne,q⟩
   ·cases q
   ·obtain⟨b,q1,q2,q3⟩:=E.own j ys q;have nb:b≠a:=λz=>ne (E.one j i ys d a q hd (by rw[<-z];exact q1) ha);exact⟨b,q1,List.mem_filter.mpr ⟨q2,decide_eq_true nb⟩,q3.mono rfl s⟩
  ·rcases aG q1 with⟨_,q⟩|⟨_,q⟩
   ·cases q
   ·rcases aG q2 with⟨_,q'⟩|⟨_,q'⟩
    ·cases q'
    ·exact E.one j l ys zs b q q' q3 q4
  ·by_cases z:b=a
   ·exact⟨d,hd,by rw[z];exact ha⟩
   ·exact absurd (List.mem_filter.mpr ⟨hb,decide_eq_true z⟩) nb
 ·rw[fe];exact⟨O,E,λ_ z=>z,λb hb nb=>absurd hb nb⟩
noncomputable def Lr(i:Nat)(F:aS):aS:=λk ρ=>F k (frz i ρ)
mutual
noncomputable def lf:D->Bool
 |.tup xs=>K2 xs
 |.lst _=>false
 |.dct _ _=>false
 |.obj _ _ vs=>K2 vs
 |.exc _ _ _=>false
 |.kt _=>false
 |_=>true
noncomputable def K2:List D->Bool
 |[]=>true
 |x::xs=>lf x&&K2 xs
end
noncomputable def frzs(is:bx)(ρ:ak):ak:=is.foldl (λρ i=>frz i ρ) ρ
theorem eA.frzs{K:QR}{H:Hp}{σ:St}:∀(is:bx){O:ap}{ρ:ak},eA K O H ρ σ->∃O',eA K O' H (frzs is ρ) σ
 |[],O,_,E=>⟨O,E⟩
 |i::is,_,_,E=>by
  obtain⟨O',E',_⟩:=E.frz i;exact eA.frzs is E'
noncomputable def oH(is:bx)(f:aX):aX:=λρ=>Dt (f (frzs is ρ))
end TG
namespace TG
open PySem PySem.Spec L2
variable[al]
noncomputable def yr(K:QR)(n:Nat)(g:cy):Sp:=λvs H Q E=>∃O ds,vs.length=n/\eG H O/\aJ K (hid H O) ds vs/\match g ds with
 |.ok d=>∀v H',aB H H'->eL K (hid H' O) d v->Q v H'
 |.error (some x)=>Kj K H O x E
 |.error none=>False
section
variable{X:Cx}{k:Nat}{f C:Sg}{fd:Te}{ps:ah}{sp:Sp}{x m:Str}{p pos apos:Pos}{e o:Sh}{es:aF}{ta:TE}{t:TA}
theorem sL{pins:aM}{σ:St}{H:Hp}{s:Sj}{Q:VK}{E:XK}{us:aP}{vs:ax}(F:fG X.prog X.w X.K X.mg X.base (gB X.prog X.w) k f fd ps sp)(hr:dq k X.A)(hb:Binds X.K fd ps [])(hx:gW (gB X.prog X.w) X σ E)
  (I:Inv X pins σ H s) (r:Vals vs us) (h:sp vs H Q E):Sz (model X.prog X.w) X.A (call (.ref f) us) (EP X pins σ Q) X.xe s:=by
 have hl:(us++[]).length=ps.length:=by rw[Pa,<-r.length];exact F.len _ _ _ _ h
 have hb':=hb s us I.kIn hl;rw[Pa]at hb';refine Tg (Th (F.run X.A X.stack s H ⟨us,[]⟩ us vs Q E hr I.env0 hb' r h) λr s' hq=>?_);cases r with
 |error e=>exact hx pins H s e s' I hq
 |ok fl=>
  cases fl with
  |ret u=>exact I.after hq
  |next=>exact False.elim hq
  |brk=>exact False.elim hq
  |cont=>exact False.elim hq
noncomputable def vQ(X:Cx)(sp:Sp)(t:TA):TE:=λσ H Q=>t σ H λvs H1=>∃E,gW (gB X.prog X.w) X σ E/\sp vs H1 Q E
theorem jm(F:fG X.prog X.w X.K X.mg X.base (gB X.prog X.w) k f fd ps sp)(hr:dq k X.A)(hg:Gl X x)(hm:X.mg x=some (.ref f))(hk:Rm X.K (.ref f)=true)(hb:Binds X.K fd ps [])
  (ha:PA X (e::es) t) (hdb:(x==("__debug__":Str))=false:=by decide) (he:SA (e::es) X.env=(false,eval e X.env)::SA es X.env:=by rfl) (hpl:(backTo pos (SA es X.env)).any (·.1)=false:=by rfl):
  PE X (.Call (.Name x p) (e::es) [] pos) (vQ X sp t):=by
 intro pins s σ H Q I h;refine Ti (gx I hg hm ?_ hdb);refine Rn (h₀:=X.base) I.ok.mod.kin hk (dj (ha pos pins s σ H _ I h) λus s1 zq=>zq.elim λvs zq=>zq.elim λH1 zq=>zq.elim λI1 zq=>zq.elim λr zq=>zq.elim λE zq=>zq.elim λhx q=>⟨I1.kIn,?_⟩) he hpl;exact sL F hr hb hx I1 r q
theorem xP{n:Nat}{g:cy}{f:aC}(hn:∀ds,g ds≠un->ds.length=n):∀σ H Q,tF X (fR g f) σ H Q->vQ X (yr X.K n g) (Kf X f) σ H Q:=λσ H Q zq=>zq.elim λO zq=>zq.elim λρ zq=>zq.elim λE hF=>
 ⟨O,ρ,E,(fH.bind hF).imp fun ds hF vs H1 s1 d1=>by
  cases hg:g ds with
  |ok d=>
   rw[hg]at hF;refine⟨E0,lH,O,ds,by rw[<-d1.length];exact hn ds (by rw[hg];intro z;cases z),E.all.same s1,d1,?_⟩;rw[hg];exact λv H2 s2 d2=>hF v H2 (s1.trans s2) d2
  |error z=>
   rw[hg]at hF;cases z with
   |none=>exact hF.elim
   |some x=>
    refine⟨qc X O H1 x,lG (AY.mono hF s1),O,ds,by rw[<-d1.length];exact hn ds (by rw[hg];intro z;cases z),E.all.same s1,d1,?_⟩;rw[hg];exact o4⟩
end
noncomputable def Callee(P:Sn)(w:Sl)(K:QR)(mg:bg)(base:Sr)(k:Nat)(x:Str)(ps:ah)(g:cy):Prop:=
 ∃f fd,fG P w K mg base (gB P w) k f fd ps (yr K ps.length g)/\Binds K fd ps []/\Rm K (.ref f)=true/\mg x=some (.ref f)
noncomputable def Ar(n:Nat)(g:cy):Prop:=∀ds,g ds≠un->ds.length=n
noncomputable def K0:Ks:={nx:=λ_=>.ok .non}
noncomputable def env0(n:Nat)(ds:List D):ak:=ds.map (λd=>some (.val d))++List.replicate (n-ds.length) none
noncomputable def au(B:aS)(np n:Nat):cy:=λds=>if ds.length=np then B K0 (env0 n ds)else un
theorem kd{B:aS}{np n:Nat}:Ar np (au B np n):=λds h=>by
 unfold au at h;split at h
 ·assumption
 ·exact absurd rfl h
theorem gF{n:Nat}{ds:List D}(i:Nat)(x:S)(e:(env0 n ds)[i]?=some (some x)):∃d,ds[i]?=some d/\x=.val d:=by
 unfold env0 at e;by_cases hi:i<ds.length
 ·rw[Pl (by rw[O6];exact hi),Pm,PP hi]at e;have e':some (S.val ds[i])=some x:=Option.some.inj e;exact⟨ds[i],by rw[PP hi],(Option.some.inj e').symm⟩
 ·rw[Pj (by rw[O6];omega),O6,Pk]at e;split at e
  ·cases e
  ·cases e
theorem o8{K:QR}{O:ap}{H:Hp}{N:ah}{ds:List D}{vs:ax}(hO:eG H O)(h:aJ K (hid H O) ds vs):eA K O H (env0 N.length ds) (L2.start N vs):=by
 refine⟨λi d e=>?_,λi xs e=>?_,λi j xs ys a e=>?_,hO⟩
 ·obtain⟨d',e1,e2⟩:=gF i _ e;cases e2;obtain⟨v,e3,e4⟩:=h.get e1;refine⟨v,?_,e4⟩;unfold L2.start;have hi:i<vs.length:=(List.getElem?_eq_some_iff.mp e3).1;rw[Pl (by rw[O6];exact hi),Pm,e3];rfl
 ·obtain⟨d',_,e2⟩:=gF i _ e;cases e2
 ·obtain⟨d',_,e2⟩:=gF i _ e;cases e2
section
variable{P:Sn}{w:Sl}{K:QR}{mg:bg}{base:Sr}
structure BodyOk(P:Sn)(w:Sl)(K:QR)(mg:bg)(base:Sr)(k:Nat)(N:ah)(qual:Str)(st:Si)(f:Sg)(B:aS):Prop where
 h:∀(cdv:Se)(A:Sw)(outer:List Env)(s:Sj)(H:Hp)(E:XK),dq k (A.deeper (RY qual (aj st) s.heap.objs.size f cdv))->SK (model P w) (A.deeper (RY qual (aj st) s.heap.objs.size f cdv)) (RY qual (aj st) s.heap.objs.size f cdv) (eY (gB P w) P w K mg base N qual (aj st) f cdv A outer s H E).xe->
  JO (eY (gB P w) P w K mg base N qual (aj st) f cdv A outer s H E) (cH st) B
theorem Jm{x qual:Str}{st:Si}{f:Sg}{fd:Te}{N ps:ah}{k:Nat}{sp:Sp}{CX:sZ}(F:kc K x qual st f fd)(S:aO N ps (aj st))(len:∀vs H Q E,sp vs H Q E->vs.length=ps.length)
  (hbody:∀ (cdv:Se) (A:Sw) (outer:List Env) (s:Sj) (H:Hp) (vs:ax) (Q:VK) (E:XK),dq k (A.deeper (RY qual (aj st) s.heap.objs.size f cdv))->sp vs H Q E ->
   ∃t,pH (eY CX P w K mg base N qual (aj st) f cdv A outer s H E) (cH st) t/\t {nx:=λ_ H'=>Q .non H',rt:=Q} (L2.start N vs) H):fG P w K mg base CX (k+1) f fd ps sp:=by
 obtain⟨oc,od,kV,doc,pm,an,cdv,ct,osl,rfl,lk,hcd⟩:=F.ex;exact FU lk hcd S len λA outer s H vs Q E hr hsp=>hbody cdv A outer s H vs Q E hr hsp
theorem fG.any{CX:sZ}{k:Nat}{f:Sg}{fd:Te}{ps:ah}{sp:Sp}(F:fG P w K mg base Kz k f fd ps sp):fG P w K mg base CX k f fd ps sp:=
 ⟨F.len,fun A outer s H args us vs Q E hr he hb hv hs=>Th (F.run A outer s H args us vs Q E hr he hb hv hs) fun r s' h=>by
  cases r with
  |error e=>exact False.elim h
  |ok fl=>cases fl<;>exact h⟩
theorem qX{x qual:Str}{st:Si}{f:Sg}{fd:Te}{N ps:ah}{k:Nat}{B:aS}(F:kc K x qual st f fd)(SC:aO N ps (aj st))(hb:BodyOk P w K mg base k N qual st f B):
  fG P w K mg base (gB P w) (k+1) f fd ps (yr K ps.length (au B ps.length N.length)):=by
 refine Jm F SC (λvs H Q E h=>?_) λcdv A outer s H vs Q E hr h=>?_
 ·obtain⟨O,ds,h1,_⟩:=h;exact h1
 ·obtain⟨O,ds,h1,h2,h3,h4⟩:=h;have hl:ds.length=ps.length:=h3.length.trans h1;have e4:au B ps.length N.length ds=B K0 (env0 N.length ds):=by unfold au;rw[if_pos hl]
  rw[e4]at h4;refine⟨_,hb.h cdv A outer s H E hr PassesOwn.leaving H O,O,env0 N.length ds,K0,_,⟨o8 h2 h3,⟨aB.refl H,λ_ z=>z,λa z=>.inl z⟩,λi xs a e=>?_,λi d e=>by obtain⟨d',_,e2⟩:=gF i _ e;cases e2⟩,rfl,?_⟩
  ·obtain⟨d',_,e2⟩:=gF i _ e;cases e2
  ·generalize B K0 (env0 N.length ds)=r at h4;refine⟨λz=>by rw[z]at h4;exact h4,λO' ρ' σ' H' S e=>?_,λO' ρ' σ' H' S e=>?_,λO' ρ' σ' H' S e=>?_,λd O' v H' e b dv=>?_,λO' ρ' σ' H' x S e=>?_⟩
   ·have e:(.ok .non:R D)=r:=e;subst e;exact h4 .non H' S.base.same (ip.mpr rfl)
   ·have e:(un:R D)=r:=e;subst e;exact h4.elim
   ·have e:(un:R D)=r:=e;subst e;exact h4.elim
   ·subst e;exact h4 v H' b.same (dv.mono (eT b.sub))
   ·have e:(.error (some x):R D)=r:=e;subst e;exact BJ h4 S.base.same S.base.sub
theorem xr{x qual:Str}{st:Si}{f:Sg}{fd:Te}{N ps:ah}{k:Nat}{B:aS}(F:kc K x qual st f fd)(b:Binds K fd ps [])(m:mg x=some (.ref f))(SC:aO N ps (aj st))(hb:BodyOk P w K mg base k N qual st f B):
  Callee P w K mg base (k+1) x ps (au B ps.length N.length):=⟨f,fd,qX F SC hb,b,F.kp,m⟩
theorem ui{x qual:Str}{st:Si}{f:Sg}{fd:Te}{ps:ah}(k:Nat)(F:kc K x qual st f fd)(b:Binds K fd ps [])(m:mg x=some (.ref f)):Callee P w K mg base k x ps (λ_=>un):=by
 have no:∀vs H Q E,¬yr K ps.length (λ_=>un) vs H Q E:=λvs H Q E zq=>zq.elim λO zq=>zq.elim λds zq=>zq.elim λ_ zq=>zq.elim λ_ zq=>zq.elim λ_ e=>e;exact⟨f,fd,⟨λvs H Q E h=>absurd h (no vs H Q E),λA outer s H args us vs Q E _ _ _ _ h=>absurd h (no vs H Q E)⟩,b,F.kp,m⟩
end
theorem nH{K:QR}{T:String}(h1:Rw K (.type "NoneType") (.type T)=some (T=="NoneType"))(h2:Rw K (.type "bool") (.type T)=some (T=="bool"||T=="int"))(h3:Rw K (.type "int") (.type T)=some (T=="int"))(h4:Rw K (.type "str") (.type T)=some (T=="str"))
  (h5:Rw K (.type "tuple") (.type T)=some (T=="tuple")) (h6:Rw K (.type "list") (.type T)=some (T=="list")):vi K T:=λd hd=>by
 cases d with
 |dct _ _=>cases hd
 |obj _ _ _=>cases hd
 |exc _ _ _=>cases hd
 |kt _=>cases hd
 |non=>exact h1
 |bl _=>exact h2
 |int _=>exact h3
 |str _=>exact h4
 |tup _=>exact h5
 |lst _=>exact h6
theorem AX{K:QR}:vi K "int":=nH rfl rfl rfl rfl rfl rfl
theorem yC{K:QR}:vi K "bool":=nH rfl rfl rfl rfl rfl rfl
theorem zN{K:QR}:vi K "str":=nH rfl rfl rfl rfl rfl rfl
theorem vH{K:QR}:vi K "tuple":=nH rfl rfl rfl rfl rfl rfl
end TG
namespace TG
open PySem PySem.Spec L2
variable[al]
section
variable{X:Cx}{a b c:Sh}{fa fb fc:FX}{pos:Pos}
theorem HN{r:V->Hp->VK->Prop}{g:D->aY}(s:DC X.K r g):∀σ H Q,tF X (f1 g fa) σ H Q->Ng r (tF X fa) σ H Q:=λσ H Q zq=>zq.elim λO zq=>zq.elim λρ zq=>zq.elim λE hF=>⟨O,ρ,E,(fH.bind hF).imp λa hF x H1 s1 d1=>by
 obtain⟨d,e,q⟩:=fH.rO hF;exact s a d x O H1 Q (E.all.same s1) e d1 λv H2 s2 d2=>q v H2 (s1.trans s2) d2⟩
noncomputable def ii(g g':D->D->aY)(fa fb fc:FX):FX:=λρ=>(fa ρ).bind λx=>(fb ρ).bind λy=>(rO (g x y)).bind λz=>vp z ((fc ρ).bind λw=>rO (g' y w))
theorem qw{r r':R2}{g g':D->D->aY}(s:dC X.K r g)(s':dC X.K r' g'):∀σ H Q,tF X (ii g g' fa fb fc) σ H Q->vq r r' (tF X fa) (tF X fb) (tF X fc) σ H Q:=λσ H Q zq=>zq.elim λO zq=>zq.elim λρ zq=>zq.elim λE hF=>
 ⟨O,ρ,E,(fH.bind hF).imp fun x hF v1 H1 s1 d1=>⟨O,ρ,E.same s1,((fH.bind hF).mono s1).imp fun y hF v2 H2 s2 d2=>by
  obtain⟨z,e3,hF⟩:=fH.rO (fH.bind hF);refine s x y z v1 v2 O H2 _ (E.all.same (s1.trans s2)) e3 (d1.mono (bP s2)) d2 λv3 H3 s3 d3=>?_;cases z with
  |bl k=>
   refine⟨k,iz.mp d3,?_⟩;cases k with
   |false=>exact pL (hF _ H3 ((s1.trans s2).trans s3) (iz.mpr rfl))
   |true=>
    refine pR ⟨O,ρ,E.same ((s1.trans s2).trans s3),((fH.bind (show fH X σ O H ((fc ρ).bind λw=>rO (g' y w)) _ from hF)).mono ((s1.trans s2).trans s3)).imp λw hF v4 H4 s4 d4=>?_⟩;obtain⟨d,e5,q⟩:=fH.rO hF;exact s' y w d v2 v4 O H4 Q (E.all.same (((s1.trans s2).trans s3).trans s4)) e5 (d2.mono (bP (s3.trans s4))) d4 λv5 H5 s5 d5=>q v5 H5 ((((s1.trans s2).trans s3).trans s4).trans s5) d5
  |_=>exact hF.elim⟩⟩
noncomputable def HG:D->aY
 |.int i=>some (.int (-i))
 |_=>none
noncomputable def Eu(f:FX):FX:=f1 HG f
noncomputable def mU:List D->aY
 |[.int i]=>if decide (i.natAbs.log2<1920)then some (.str (toString i))else none
 |_=>none
theorem yP:fw X (.type "str") (CM X.K mU):=by
 rintro pins s σ H xs us Q I r ⟨O,ds,d,hO,hd,hg,q⟩;unfold mU at hg;split at hg
 ·rename_i i;obtain⟨h1,h2⟩:=bp hg;subst h2;obtain⟨v,ev,h1'⟩:=hd.one;exact ro pins s σ H xs us Q I r ⟨i,by rw[ev,gv.mp h1'],of_decide_eq_true h1,q _ H (aB.refl H) (fF.mpr rfl)⟩
 ·cases hg
noncomputable def zC:D->aY
 |.str x=>if small x.length then some (.str (Txt.upper x))else none
 |_=>none
noncomputable def Ii(f:FX):FX:=f1 zC f
noncomputable def IG:D->aY
 |.lst xs=>some (.lst xs.reverse)
 |.tup xs=>some (.tup xs.reverse)
 |_=>none
noncomputable def Lz(f:FX):FX:=f1 IG f
noncomputable def allB:List D->Option Bool
 |[]=>some true
 |.bl b::r=>(allB r).bind λc=>some (b&&c)
 |_=>none
noncomputable def qZ:List D->aY
 |[.lst xs]=>(allB xs).bind λb=>some (.bl b)
 |_=>none
theorem tD:∀{xs:List D}{b:Bool},allB xs=some b->∃bs:List Bool,xs=bs.map .bl/\b=bs.all id
 |[],b,h=>by cases h;exact⟨[],rfl,rfl⟩
 |.bl x::r,b,h=>by
  obtain⟨c,e1,e2⟩:=bind_some (show((allB r).bind λc=>some (x&&c))=some b from h);cases e2;obtain⟨bs,e3,e4⟩:=tD e1;exact⟨x::bs,by rw[O5,e3],by rw[PL,e4];rfl⟩
 |.non::_,_,h=>by cases h
 |.int _::_,_,h=>by cases h
 |.str _::_,_,h=>by cases h
 |.tup _::_,_,h=>by cases h
 |.lst _::_,_,h=>by cases h
 |.dct _ _::_,_,h=>by cases h
 |.obj _ _ _::_,_,h=>by cases h
 |.exc _ _ _::_,_,h=>by cases h
 |.kt _::_,_,h=>by cases h
theorem oz{K:QR}{H:Hp}:∀{bs:List Bool}{vs:ax}{us:aP},aJ K H (bs.map .bl) vs->Vals vs us->us=bs.map Value.bool
 |[],vs,us,h,r=>by
  rw[Py,cC]at h;subst h;cases r;rfl
 |b::bs,vs,us,h,r=>by
  rw[O5,bh]at h;obtain⟨v,r',e,h1,h2⟩:=h;subst e;cases r with
  |cons q1 q2=>
   rw[iz]at h1;subst h1;cases q1;rw[O5,oz h2 q2]
theorem range_all(bs:List Bool):((List.range bs.length).all λi=>(bs[i]?).getD true)=bs.all id:=by
 induction bs with
 |nil=>rfl
 |cons b bs ih=>
  rw[O3,PN,PL,List.all_map,PL,<-ih];rfl
theorem x5(hc:X.calm=true):fw X (.builtin "all") (CM X.K qZ):=by
 rintro pins s σ H xs us Q I r ⟨O,ds,d,hO,hd,hg,q⟩;unfold qZ at hg;split at hg
 ·rename_i ys;obtain⟨bv,e1,e2⟩:=bind_some hg;cases e2;obtain⟨bs,eb,ev⟩:=tD e1;subst eb ev;obtain⟨v,evv,h1⟩:=hd.one;subst evv;obtain⟨p,vs,ep,g1,g2⟩:=cw.mp h1;subst ep;obtain⟨u,eu,ru⟩:=vals1 r;subst eu;cases ru;obtain⟨its,rv,pl,hz⟩:=I.list ((az H O).seq g1);have ei:=oz g2 rv;have hl:=pl.isList;have hlt:p<s.heap.objs.size:=by obtain⟨_,e,_⟩:=hl;exact RN e
  refine call_all_walk (SR hl ?_);refine⟨s.heap.objs.size,[s.heap.objs.size,p],[s.heap.objs.size],its.toArray.size,_,_,λi=>(bs[i]?).getD true,rfl,Walks.list (A:=X.A.in1) (I.ok.hd hc) _ p (OL hlt) its.toArray,
   ⟨⟨_,RM _ rfl,rfl,rfl⟩,hl.push _⟩,λi v s' Q' E' hP hQ=>?_,λh' tk hk=>?_⟩
  ·have e:bs[i]?.map Value.bool=some v:=by
    rw[<-Pm,<-ei]
    simpa using hP
   cases eb:bs[i]? with
   |none=>rw[eb]at e;cases e
   |some b=>
    rw[eb]at e;cases e;simp only[eb,Option.getD_some]at hQ;exact SF hQ
  ·have e:((List.range its.toArray.size).all λi=>(bs[i]?).getD true)=bs.all id:=by
    have:its.toArray.size=bs.length:=(by rw[O2,ei,O6]);rw[this];exact range_all bs
   rw[e];have k:∀b x,s.heap.get? b=some x->h'.get? b=some x:=λb x e=>hk b x (λhm=>by rw[List.mem_singleton.mp hm]at e;exact OJ _ (RN e)) (RP _ e);exact⟨.bl _,H,I.kept k,rfl,q _ H (aB.refl H) (iz.mpr rfl)⟩
 ·cases hg
end
end TG
namespace ZI
open PySem PySem.Spec PyProof.Rows
section
variable{prog:Sn}{w:Sl}{A:Sw}{E:Se->Sj->Prop}{s:Sj}
theorem vg{it t:Sg}{i:Nat}{its:Array Se}{x:Se}{Q:Se->Sj->Prop}(hit:s.heap.IsTupleIter it t i)(ht:s.heap.IsTuple t its)(hx:its[i]?=some x)
  (hQ:∀g,g.IsTupleIter it t (i+1)->RO it s.heap g->Q x {s with heap:=g}):Sz (model prog w) A (Builtin.SmallTypes.nextOf (.ref it)) Q E s:=by
 obtain⟨ob,h1,h2,h3⟩:=id hit;obtain⟨ol,g1,_,n,g2⟩:=ht;unfold Builtin.SmallTypes.nextOf;refine SN (Ts (name:=Str.ofString "__next__") hit.typeIs F.slot_tuple_iterator_next (Tt F.slot_tuple_iterator_next hit.typeIs F.entry_tuple_iterator_next ?_ (F.args_tuple_iterator_next_1 _)));show Sz _ _ (field (.ref it) 0 >>= _) _ _ s;refine SN (Tq h1 h3 (x:=.ref t) rfl ?_);show Sz _ _ (if(Value.ref t==Value.none)=true then _ else _) _ _ s;rw[if_neg (show¬((Value.ref t==Value.none)=true)from λz=>OX z)];show Sz _ _ (field (.ref it) 1 >>= _) _ _ s;refine SN (Tq h1 h3 (x:=.int i 0) rfl ?_);show Sz _ _ (seqItems? (.ref t) >>= _) _ _ s;refine SN (TK g1 g2 ?_);simp only[Pq,hx];refine SN (wpAny_setField h1 h3 (by simp) (SM ⟨x,rfl,SM (hQ _ ⟨_,RV _ h1 (Obj.isFreed_of_fields (Obj.data_mapFields h3 _)),(Obj.cls_mapFields ..).trans h2,by rw[Obj.data_mapFields h3];simp[rawInt]⟩ (Heap.SameBut.update ..))⟩))
theorem xX{it t:Sg}{i:Nat}{its:Array Se}{Q:Se->Sj->Prop}(hh:A.handled=none)(hit:s.heap.IsTupleIter it t i)(ht:s.heap.IsTuple t its)(hx:its[i]?=none)
  (hE:∀g e,Heap.ExtBut it s.heap g->(∃o,g.get? e=some o/\o.cls=.type "StopIteration")->E (.ref e) {s with heap:=g}):Sz (model prog w) A (Builtin.SmallTypes.nextOf (.ref it)) Q E s:=by
 obtain⟨ob,h1,h2,h3⟩:=id hit;obtain⟨ol,g1,_,n,g2⟩:=ht;unfold Builtin.SmallTypes.nextOf;refine SN (Ts (name:=Str.ofString "__next__") hit.typeIs F.slot_tuple_iterator_next (Tt F.slot_tuple_iterator_next hit.typeIs F.entry_tuple_iterator_next ?_ (F.args_tuple_iterator_next_1 _)));show Sz _ _ (field (.ref it) 0 >>= _) _ _ s;refine SN (Tq h1 h3 (x:=.ref t) rfl ?_);show Sz _ _ (if(Value.ref t==Value.none)=true then _ else _) _ _ s;rw[if_neg (show¬((Value.ref t==Value.none)=true)from λz=>OX z)];show Sz _ _ (field (.ref it) 1 >>= _) _ _ s;refine SN (Tq h1 h3 (x:=.int i 0) rfl ?_);show Sz _ _ (seqItems? (.ref t) >>= _) _ _ s;refine SN (TK g1 g2 ?_);simp only[Pq,hx];refine SN (TF (SN (wpAny_setField h1 h3 (by simp) ?_)));show Sz _ _ (newExc (.type "StopIteration") [] >>= _) _ _ _;refine SN ?_;simp only[newExc,newTuple];refine SN (Tv ?_ (by size_fits));refine SN (m:=firstArgMember _ _) (wpAny_of_eq (a:=Value.none) (by first|rfl|(simp only[firstArgMember];rfl)) ?_);refine Tv ?_ (by size_fits);simp only[raiseNew];refine SN (wpAny_handled ?_)
 first|rw[show A.in1.handled=none from hh]|rw[hh]
 refine SN (SM (wpAny_throw ?_));exact hE _ _ (((Heap.SameBut.update ..).extBut.push _).push _) ⟨_,RM _ rfl,rfl⟩
end
theorem IE{prog:Sn}{w:Sl}{A:Sw}(hh:A.handled=none)(it t:Sg)(hne:t≠it)(its:Array Se):Draws prog w A it [it,t] its.size (λi v=>its[i]?=some v) (λi h=>h.IsTupleIter it t i/\h.IsTuple t its)where
 live:=λi h ⟨⟨o,e,_⟩,_⟩=>⟨o,e⟩
 frame:=λi h h' ⟨x,y⟩ k=>⟨x.at λo e=>k it (by simp) o e,let ⟨o,e,r⟩:=y;⟨o,k t (by simp) o e,r⟩⟩
 item:=λi s Q E hi ⟨x,y⟩ hQ=>vg x y (Array.getElem?_eq_getElem hi) λg hg hs=>hQ _ g s.toks (Array.getElem?_eq_getElem hi) ⟨hg,let ⟨o,e,r⟩:=y;⟨o,(hs.2 t hne).trans e,r⟩⟩ hs
 done:=λs Q E ⟨x,y⟩ hE=>xX hh x y (by simp) hE
structure Apart(z TI TO i1 i2:Sg)(fp1 fp2:List Sg):Prop where
 a1:TI≠z
 a2:TO≠z
 a3:TI≠TO
 b1:z∉fp1
 b2:TO∉fp1
 b3:i2∉fp1
 c1:z∉fp2
 c2:TO∉fp2
 c3:i1∉fp2
 d1:TI≠i1
 d2:TI≠i2
 e1:i1∈fp1
 e2:i2∈fp2
section
variable{prog:Sn}{w:Sl}{A:Sw}{E:Se->Sj->Prop}{s:Sj}{z TI TO i1 i2:Sg}{fp1 fp2:List Sg}{n1 n2 i:Nat}{P1 P2:Nat->Se->Prop}{S1 S2:Nat->Sr->Prop}{a b:Se}
theorem next_item{Q:Se->Sj->Prop}(Ap:Apart z TI TO i1 i2 fp1 fp2)(D1:Draws prog w A i1 fp1 n1 P1 S1)(D2:Draws prog w A i2 fp2 n2 P2 S2)(hz:TL s.heap z TI TO .none)(hTI:TN s.heap TI (.ref i1) (.ref i2))(hTO:TN s.heap TO a b)(st1:S1 i s.heap)(st2:S2 i s.heap)(l1:i<n1)(l2:i<n2)
  (hQ:∀ x y g tk,P1 i x->P2 i y->TL g z TI TO (rawInt s.heap.objs.size)->TN g TO x y->S1 (i+1) g->S2 (i+1) g->TN g s.heap.objs.size x y->g.objs.size=s.heap.objs.size+1 ->
   (∀c o,c≠z->c≠TO->c≠i1->c≠i2->s.heap.get? c=some o->g.get? c=some o)->Q (.ref s.heap.objs.size) {s with heap:=g,toks:=tk}):
  Sz (model prog w) A (Builtin.«zip.__next__» ⟨[.ref z],[]⟩) (λfin s'=>∃v,fin=.done (.ret v)/\Q v s') E s:=by
 have n1z:i1≠z:=λe=>Ap.b1 (e ▸ Ap.e1);have n2z:i2≠z:=λe=>Ap.c1 (e ▸ Ap.e2);have n1T:i1≠TO:=λe=>Ap.b2 (e ▸ Ap.e1);have n2T:i2≠TO:=λe=>Ap.c2 (e ▸ Ap.e2);show Sz _ _ (field (.ref z) 2 >>= _) _ _ _;refine SN (Tq hz rfl (x:=.bool false) rfl ?_);show Sz _ _ (field (.ref z) 3 >>= _) _ _ _;refine SN (Tq hz rfl (x:=.ref TI) rfl ?_);refine SN (TK hTI rfl ?_);show Sz _ _ (Builtin.SmallTypes.ownedTupleIsFree (.ref z) >>= _) _ _ _;refine SN ?_;unfold Builtin.SmallTypes.ownedTupleIsFree;refine SN (Tq hz rfl (x:=.none) rfl (SM ?_));simp only[if_true];refine SN (TF ?_);refine SN (Tq hz rfl (x:=.ref TO) rfl ?_);refine SN (TQ hz (by simp) λg1 hz1 k1=>?_);have hz1:TL g1 z TI TO .ellipsis:=hz1;refine SN ?_;simp only[List.zipIdx_cons,List.zipIdx_nil,PB,Qb];refine SN (SN (TR ?_));show Sz _ _ (Builtin.SmallTypes.nextOf (.ref i1) >>= _) _ _ _;have q1:S1 i g1:=D1.frame _ _ _ st1 λb hb o e=>k1.extBut _ _ (λz'=>Ap.b1 (z' ▸ hb)) e;refine SN (D1.item i {s with heap:=g1} _ _ l1 q1 λx g2 tk2 p1 q2 k2=>SM ?_);have t2:TN g2 TO a b:=k2.extBut _ _ n1T.symm (k1.extBut _ _ Ap.a2 hTO);refine SN (TK t2 rfl ?_);refine SN (TU t2 λg3 t3 k3=>?_);have t3:TN g3 TO x b:=t3;refine SN (TV (SM ?_));refine SN (SN (TR ?_));show Sz _ _ (Builtin.SmallTypes.nextOf (.ref i2) >>= _) _ _ _;have q3:S2 i g3:=D2.frame _ _ _ st2 λb hb o e=>k3.extBut _ _ (λz'=>Ap.c2 (z' ▸ hb)) (k2.extBut _ _ (λz'=>Ap.c3 (z' ▸ hb)) (k1.extBut _ _ (λz'=>Ap.c1 (z' ▸ hb)) e));refine SN (D2.item i {s with heap:=g3,toks:=tk2} _ _ l2 q3 λy g4 tk4 p2 q4 k4=>SM ?_);have t4:TN g4 TO x b:=k4.extBut _ _ n2T.symm t3;refine SN (TK t4 rfl ?_);refine SN (TU t4 λg5 t5 k5=>?_);have t5:TN g5 TO x y:=t5;refine SN (TV (SM (SM ?_)));refine SN (TK t5 rfl ?_);refine SN (wpAny_newTuple ?_);have hsz:g5.objs.size=s.heap.objs.size:=by rw[k5.1,k4.1,k3.1,k2.1,k1.1]
 have hz5:TL g5 z TI TO .ellipsis:=k5.extBut _ _ Ap.a2.symm (k4.extBut _ _ n2z.symm (k3.extBut _ _ Ap.a2.symm (k2.extBut _ _ n1z.symm hz1)));have k15:∀c o,c≠z->c≠TO->c≠i1->c≠i2->s.heap.get? c=some o->g5.get? c=some o:=λc o c1 c2 c3 c4 e=>k5.extBut _ _ c2 (k4.extBut _ _ c4 (k3.extBut _ _ c2 (k2.extBut _ _ c3 (k1.extBut _ _ c1 e))));have r1:S1 (i+1) g5:=D1.frame _ _ _ q2 λb hb o e=>k5.extBut _ _ (λz'=>Ap.b2 (z' ▸ hb)) (k4.extBut _ _ (λz'=>Ap.b3 (z' ▸ hb)) (k3.extBut _ _ (λz'=>Ap.b2 (z' ▸ hb)) e));have r2:S2 (i+1) g5:=D2.frame _ _ _ q4 λb hb o e=>k5.extBut _ _ (λz'=>Ap.c2 (z' ▸ hb)) e;have lz:z<g5.objs.size:=RN hz5;show Sz _ _ (Builtin.SmallTypes.ownedTupleHandOut (.ref z) (.ref g5.objs.size) >>= _) _ _ _;refine SN ?_;unfold Builtin.SmallTypes.ownedTupleHandOut;have hz6:TL (g5.push {cls:=.type "tuple",data:=.seq #[x,y]}) z TI TO .ellipsis:=RP _ hz5;refine SN (TQ hz6 (by simp) λg7 hz7 k7=>?_);have hz7:TL g7 z TI TO (rawInt g5.objs.size):=hz7;refine TQ hz7 (by simp) λg8 hz8 k8=>?_;have hz8:TL g8 z TI TO (rawInt g5.objs.size):=hz8;have up:∀c o,c≠z->g5.get? c=some o->g8.get? c=some o:=λc o c1 e=>k8.extBut _ _ c1 (k7.extBut _ _ c1 (RP _ e));have t8:TN g8 g5.objs.size x y:=k8.extBut _ _ (OY lz) (k7.extBut _ _ (OY lz) (RM _ rfl));have s8:g8.objs.size=g5.objs.size+1:=by rw[k8.1,k7.1,RQ]
 rw[hsz]at hz8 t8 s8;refine SM ⟨_,rfl,?_⟩;show Q (.ref g5.objs.size) _;rw[hsz];exact hQ x y g8 tk4 p1 p2 hz8 (up _ _ Ap.a2 t5) (D1.frame _ _ _ r1 λb hb o e=>up b o (λz'=>Ap.b1 (z' ▸ hb)) e) (D2.frame _ _ _ r2 λb hb o e=>up b o (λz'=>Ap.c1 (z' ▸ hb)) e) t8 s8 λc o c1 c2 c3 c4 e=>up c o c1 (k15 c o c1 c2 c3 c4 e)
theorem next_end{Q:Fin->Sj->Prop}(Ap:Apart z TI TO i1 i2 fp1 fp2)(D1:Draws prog w A i1 fp1 n1 P1 S1)(D2:Draws prog w A i2 fp2 n2 P2 S2)(hz:TL s.heap z TI TO .none)(hTI:TN s.heap TI (.ref i1) (.ref i2))(hTO:TN s.heap TO a b)(st1:S1 i s.heap)(st2:S2 i s.heap)(hend:i=n1\/(i<n1/\i=n2))
  (hE:∀g e tk,(∀c o,c≠z->c≠TO->c≠i1->c≠i2->s.heap.get? c=some o->g.get? c=some o)->(∃o,g.get? e=some o/\o.cls=.type "StopIteration")->E (.ref e) {s with heap:=g,toks:=tk}):
  Sz (model prog w) A (Builtin.«zip.__next__» ⟨[.ref z],[]⟩) Q E s:=by
 have n1z:i1≠z:=λe=>Ap.b1 (e ▸ Ap.e1);have n2z:i2≠z:=λe=>Ap.c1 (e ▸ Ap.e2);have n1T:i1≠TO:=λe=>Ap.b2 (e ▸ Ap.e1);show Sz _ _ (field (.ref z) 2 >>= _) _ _ _;refine SN (Tq hz rfl (x:=.bool false) rfl ?_);show Sz _ _ (field (.ref z) 3 >>= _) _ _ _;refine SN (Tq hz rfl (x:=.ref TI) rfl ?_);refine SN (TK hTI rfl ?_);show Sz _ _ (Builtin.SmallTypes.ownedTupleIsFree (.ref z) >>= _) _ _ _;refine SN ?_;unfold Builtin.SmallTypes.ownedTupleIsFree;refine SN (Tq hz rfl (x:=.none) rfl (SM ?_));simp only[if_true];refine SN (TF ?_);refine SN (Tq hz rfl (x:=.ref TO) rfl ?_);refine SN (TQ hz (by simp) λg1 hz1 k1=>?_);have hz1:TL g1 z TI TO .ellipsis:=hz1;refine SN ?_;simp only[List.zipIdx_cons,List.zipIdx_nil,PB,Qb];refine SN (SN (TR ?_));show Sz _ _ (Builtin.SmallTypes.nextOf (.ref i1) >>= _) _ _ _;have q1:S1 i g1:=D1.frame _ _ _ st1 λb hb o e=>k1.extBut _ _ (λz'=>Ap.b1 (z' ▸ hb)) e;rcases hend with hend|⟨l1,hend⟩
 ·subst hend;refine SN (D1.done {s with heap:=g1} _ _ q1 λg2 e k2 he=>?_);obtain⟨oe,hoe,hce⟩:=he;have hz2:TL g2 z TI TO .ellipsis:=k2 _ _ n1z.symm hz1;have hez:e≠z:=λx=>by rw[x,hz2]at hoe;cases hoe;simp at hce
  exact TQ hz2 (by simp) λg3 _ k3=>hE g3 e s.toks (λc o c1 _ c3 _ x=>k3.extBut _ _ c1 (k2 _ _ c3 (k1.extBut _ _ c1 x))) ⟨oe,k3.extBut _ _ hez hoe,hce⟩
 ·refine SN (D1.item i {s with heap:=g1} _ _ l1 q1 λx g2 tk2 p1 q2 k2=>SM ?_);have t2:TN g2 TO a b:=k2.extBut _ _ n1T.symm (k1.extBut _ _ Ap.a2 hTO);refine SN (TK t2 rfl ?_);refine SN (TU t2 λg3 t3 k3=>?_);refine SN (TV (SM ?_));refine SN (SN (TR ?_));show Sz _ _ (Builtin.SmallTypes.nextOf (.ref i2) >>= _) _ _ _;have q3:S2 i g3:=D2.frame _ _ _ st2 λb hb o e=>k3.extBut _ _ (λz'=>Ap.c2 (z' ▸ hb)) (k2.extBut _ _ (λz'=>Ap.c3 (z' ▸ hb)) (k1.extBut _ _ (λz'=>Ap.c1 (z' ▸ hb)) e));subst hend;refine SN (D2.done {s with heap:=g3,toks:=tk2} _ _ q3 λg4 e k4 he=>?_);obtain⟨oe,hoe,hce⟩:=he;have hz4:TL g4 z TI TO .ellipsis:=k4 _ _ n2z.symm (k3.extBut _ _ Ap.a2.symm (k2.extBut _ _ n1z.symm hz1));have hez:e≠z:=λx=>by rw[x,hz4]at hoe;cases hoe;simp at hce
  exact TQ hz4 (by simp) λg5 _ k5=>hE g5 e tk2 (λc o c1 c2 c3 c4 x=>k5.extBut _ _ c1 (k4 _ _ c4 (k3.extBut _ _ c2 (k2.extBut _ _ c3 (k1.extBut _ _ c1 x))))) ⟨oe,k5.extBut _ _ hez hoe,hce⟩
end
noncomputable def SQ(b:Bool)(h:Sr)(l:Sg)(xs:Array Se):Prop:=if b then h.IsList l xs else h.IsTuple l xs
noncomputable def SI(b:Bool)(h:Sr)(i l:Sg)(k:Nat):Prop:=if b then h.IsListIter i l k else h.IsTupleIter i l k
noncomputable def KG(b:Bool):String:=if b then"list_iterator"else"tuple_iterator"
theorem SQ.keep{b:Bool}{h h':Sr}{l:Sg}{xs:Array Se}(x:SQ b h l xs)(k:∀o,h.get? l=some o->h'.get? l=some o):SQ b h' l xs:=by
 cases b with
 |true=>exact Heap.IsList.at x k
 |false=>obtain⟨o,e,r⟩:=(show h.IsTuple l xs from x);exact(show h'.IsTuple l xs from⟨o,k o e,r⟩)
theorem SI.keep{b:Bool}{h h':Sr}{i l:Sg}{n:Nat}(x:SI b h i l n)(k:∀o,h.get? i=some o->h'.get? i=some o):SI b h' i l n:=by
 cases b with
 |true=>exact Heap.IsListIter.at x k
 |false=>exact Heap.IsTupleIter.at x k
theorem SQ.lt{b:Bool}{h:Sr}{l:Sg}{xs:Array Se}(x:SQ b h l xs):l<h.objs.size:=by
 cases b with
 |true=>obtain⟨o,e,_⟩:=(show h.IsList l xs from x);exact RN e
 |false=>obtain⟨o,e,_⟩:=(show h.IsTuple l xs from x);exact RN e
theorem SI.get{b:Bool}{h:Sr}{i l:Sg}{n:Nat}(x:SI b h i l n):∃o,h.get? i=some o/\∀v,o.data≠.cell v:=by
 cases b with
 |true=>obtain⟨o,e,_,d⟩:=(show h.IsListIter i l n from x);exact⟨o,e,λv z=>by rw[d]at z;cases z⟩
 |false=>obtain⟨o,e,_,d⟩:=(show h.IsTupleIter i l n from x);exact⟨o,e,λv z=>by rw[d]at z;cases z⟩
theorem SI.new{b:Bool}{h:Sr}{l:Sg}:SI b (h.push {cls:=.type (KG b),data:=.fields #[.ref l,.int 0 0]}) h.objs.size l 0:=by
 cases b with
 |true=>exact⟨_,RM _ rfl,rfl,rfl⟩
 |false=>exact⟨_,RM _ rfl,rfl,rfl⟩
theorem zJ{b:Bool}{prog:Sn}{w:Sl}{A:Sw}{E:Se->Sj->Prop}{s:Sj}{l:Sg}{xs:Array Se}{Q:Se->Sj->Prop}(h:SQ b s.heap l xs)
  (hQ:Q (.ref s.heap.objs.size) {s with heap:=s.heap.push {cls:=.type (KG b),data:=.fields #[.ref l,.int 0 0]}}):Sz (model prog w) A (pyIter (.ref l)) Q E s:=by
 cases b with
 |true=>exact SR h hQ
 |false=>exact wpAny_pyIter_tuple h hQ
theorem nM{prog:Sn}{w:Sl}{A:Sw}(b:Bool)(hh:A.handled=none)(it l:Sg)(hne:l≠it)(its:Array Se):Draws prog w A it [it,l] its.size (λi v=>its[i]?=some v) (λi h=>SI b h it l i/\SQ b h l its):=by
 cases b with
 |true=>exact Draws.list hh it l hne its
 |false=>exact IE hh it l hne its
noncomputable abbrev IR(b1:Bool)(h:Sr)(l1:Sg):Sr:=h.push {cls:=.type (KG b1),data:=.fields #[.ref l1,.int 0 0]}
noncomputable abbrev Je(b1 b2:Bool)(h:Sr)(l1 l2:Sg):Sr:=(IR b1 h l1).push {cls:=.type (KG b2),data:=.fields #[.ref l2,.int 0 0]}
noncomputable abbrev Kr(b1 b2:Bool)(h:Sr)(l1 l2:Sg):Sr:=(Je b1 b2 h l1 l2).push {cls:=.type "tuple",data:=.seq #[.ref h.objs.size,.ref (IR b1 h l1).objs.size]}
noncomputable abbrev Kt(b1 b2:Bool)(h:Sr)(l1 l2:Sg):Sr:=(Kr b1 b2 h l1 l2).push {cls:=.type "tuple",data:=.seq #[.none,.none]}
noncomputable abbrev Ge(b1 b2:Bool)(h:Sr)(l1 l2:Sg):Sr:=(Kt b1 b2 h l1 l2).push {cls:=.type "zip",data:=.fields #[.none,.bool false,.bool false,.ref (Je b1 b2 h l1 l2).objs.size,.ref (Kr b1 b2 h l1 l2).objs.size]}
theorem Au(b1 b2:Bool)(l1 l2:Sg)(xs ys:Array Se):Meets (Builtin.«zip.__new__» ⟨[.type "zip",.ref l1,.ref l2],[]⟩) (λ_ R s=>SQ b1 s.heap l1 xs/\SQ b2 s.heap l2 ys/\R (.ok (.ret (.ref (Kt b1 b2 s.heap l1 l2).objs.size))) {s with heap:=Ge b1 b2 s.heap l1 l2}):=
 .of_wp λprog w A R s h=>by
  obtain⟨hp,g,d,tk,os⟩:=s;obtain⟨q1,q2,h⟩:=h;have hsub:=sub_zip;have e1:SQ b1 (Shared.heap ⟨hp,g,d,tk,os⟩) l1 xs:=q1;have e2:SQ b2 (Shared.heap ⟨IR b1 hp l1,g,d,tk,os⟩) l2 ys:=q2.keep λo e=>RP _ e
  wp_walk using zJ e1,zJ e2
  exact⟨_,rfl,h⟩
theorem BU{prog:Sn}{w:Sl}{A:Sw}{E:Se->Sj->Prop}{s:Sj}{b1 b2:Bool}{l1 l2:Sg}{xs ys:Array Se}{Q:Se->Sj->Prop}(h1:SQ b1 s.heap l1 xs)(h2:SQ b2 s.heap l2 ys)
  (h:∀ g,TL g (s.heap.objs.size+4) (s.heap.objs.size+2) (s.heap.objs.size+3) .none->TN g (s.heap.objs.size+2) (.ref s.heap.objs.size) (.ref (s.heap.objs.size+1))->TN g (s.heap.objs.size+3) .none .none->SI b1 g s.heap.objs.size l1 0->SI b2 g (s.heap.objs.size+1) l2 0 ->
   (∀c o,s.heap.get? c=some o->g.get? c=some o)->Q (.ref (s.heap.objs.size+4)) {s with heap:=g}):Sz (model prog w) A (call (.type "zip") [.ref l1,.ref l2]) Q E s:=by
 refine callType_new F.called_zip (by decide) (F.typeCall_zip_2 _ _) (F.newCall_zip_2 _ _) (λobj=>F.args_object_init_3 obj _ _) F.entry_zip_new (Au b1 b2 l1 l2 xs ys) ⟨h1,h2,?_⟩;have z1:(IR b1 s.heap l1).objs.size=s.heap.objs.size+1:=RQ ..
 have z2:(Je b1 b2 s.heap l1 l2).objs.size=s.heap.objs.size+2:=by rw[RQ,z1]
 have z3:(Kr b1 b2 s.heap l1 l2).objs.size=s.heap.objs.size+3:=by rw[RQ,z2]
 have z4:(Kt b1 b2 s.heap l1 l2).objs.size=s.heap.objs.size+4:=by rw[RQ,z3]
 have u1:∀c o,(IR b1 s.heap l1).get? c=some o->(Ge b1 b2 s.heap l1 l2).get? c=some o:=λc o e=>RP _ (RP _ (RP _ (RP _ e)));have u2:∀c o,(Je b1 b2 s.heap l1 l2).get? c=some o->(Ge b1 b2 s.heap l1 l2).get? c=some o:=λc o e=>RP _ (RP _ (RP _ e));have g5:(Ge b1 b2 s.heap l1 l2).get? (Kt b1 b2 s.heap l1 l2).objs.size=some _:=RM _ rfl;have g4:(Ge b1 b2 s.heap l1 l2).get? (Kr b1 b2 s.heap l1 l2).objs.size=some _:=RP _ (RM _ rfl);have g3:(Ge b1 b2 s.heap l1 l2).get? (Je b1 b2 s.heap l1 l2).objs.size=some _:=RP _ (RP _ (RM _ rfl));have g2:SI b2 (Ge b1 b2 s.heap l1 l2) (IR b1 s.heap l1).objs.size l2 0:=SI.keep (SI.new (h:=IR b1 s.heap l1)) λo e=>u2 _ o e;have g1:SI b1 (Ge b1 b2 s.heap l1 l2) s.heap.objs.size l1 0:=SI.keep SI.new λo e=>u1 _ o e;show _/\_;rw[z2,z3,z4]at g5;rw[z1,z2]at g3;rw[z3]at g4;rw[z1]at g2;rw[z4];exact⟨⟨_,g5,rfl⟩,h _ g5 g3 g4 g1 g2 λc o e=>u1 c o (RP _ e)⟩
end ZI
namespace TG
open PySem PySem.Spec L2 ZI
variable[al]
section
variable{X:Cx}{pins:aM}{σ:St}{H:Hp}{s:Sj}{h':Sr}
theorem Inv.turnedL{ch:ap}{p:Sg}{o:HO}{t':Nat}(I:Inv X pins σ H s)(hf:∀b∈ch,oM X pins H b)(k:∀b u,b∉ch->s.heap.get? b=some u->h'.get? b=some u)(hp:s.heap.objs.size<=p)(new:gE X.prog X.w (upd H p o) h' p o):
  Inv X pins σ (upd H p o) {s with heap:=h',toks:=t'}:=by
 have hn:=I.hok.fresh hp;have nch:∀b u,H b=some u->b∉ch:=λb u e z=>by rw[(hf b z).1]at e;cases e
 refine I.step (g':=s.gens) (d':=s.drawn) (ch:=ch) (λb hb=>?_) (λb o _ _ hc e _=>k b o hc e) (λb o _ _ hc e _=>⟨o.slots,k b o hc e⟩) (λb u _ q n=>by rw[av (OL (OI (RN q) hp))];exact n)
  (λb o hc e=>⟨o,k b o hc e⟩) (λb xs q=>by rw[av (aL q hn)];exact q) (λb u xs q=>by rw[av (aL q hn)];exact q) (λb ps q=>⟨#[],by rw[av (aL q hn),q];simp⟩) (λm hm=>?_) (λb u e=>?_) I.bare
 ·obtain⟨_,f1,_,f3,f4,f5⟩:=hf b hb;exact⟨f3,f1,f4,f5⟩
 ·obtain⟨o,es,ep,ho,r⟩:=hm;exact⟨o,es,ep,k _ o (λz=>(hf _ z).2.1 rfl) ho,r⟩
 ·by_cases hb:b=p
  ·subst hb;rw[aT]at e;cases e;exact new
  ·rw[av hb]at e;refine(I.hok b u e).stay (λc v hc q=>k c v ?_ q) (λc q=>by rw[av (aL q hn)];exact q) λc xs q=>by rw[av (aL q hn)];exact q
   rcases hc with z|z
   ·rw[z];exact nch b u e
   ·exact nch c _ z
theorem Inv.turned0{ch:ap}{t':Nat}(I:Inv X pins σ H s)(hf:∀b∈ch,oM X pins H b)(k:∀b u,b∉ch->s.heap.get? b=some u->h'.get? b=some u):Inv X pins σ H {s with heap:=h',toks:=t'}:=by
 have nch:∀b u,H b=some u->b∉ch:=λb u e z=>by rw[(hf b z).1]at e;cases e
 refine I.step (g':=s.gens) (d':=s.drawn) (ch:=ch) (λb hb=>?_) (λb o _ _ hc e _=>k b o hc e) (λb o _ _ hc e _=>⟨o.slots,k b o hc e⟩) (λ_ _ _ _ n=>n)
  (λb o hc e=>⟨o,k b o hc e⟩) (λ_ _ e=>e) (λ_ _ _ e=>e) (λb ps e=>⟨#[],by rw[e];simp⟩) (λm hm=>?_) (λb u e=>?_) I.bare
 ·obtain⟨_,f1,_,f3,f4,f5⟩:=hf b hb;exact⟨f3,f1,f4,f5⟩
 ·obtain⟨o,es,ep,ho,r⟩:=hm;exact⟨o,es,ep,k _ o (λz=>(hf _ z).2.1 rfl) ho,r⟩
 ·refine(I.hok b u e).stay (λc v hc q=>k c v ?_ q) (λ_ q=>q) λ_ _ q=>q;rcases hc with z|z
  ·rw[z];exact nch b u e
  ·exact nch c _ z
end
noncomputable def SX(K:QR)(b:Bool)(H:Hp)(a:Sg)(xs:ax):Prop:=if b then kg K H a xs else lN K H a xs
theorem SX.same{K:QR}{b:Bool}{H H':Hp}{a:Sg}{xs:ax}(e:aB H H')(h:SX K b H a xs):SX K b H' a xs:=by
 cases b with
 |true=>exact e.seq (show kg K H a xs from h)
 |false=>exact xx e (show lN K H a xs from h)
section
variable{X:Cx}{pins:aM}{σ:St}{H:Hp}{s:Sj}
theorem Inv.sx(I:Inv X pins σ H s){b:Bool}{a:Sg}{xs:ax}(h:SX X.K b H a xs):∃its:aP,Vals xs its/\SQ b s.heap a its.toArray/\xs.length<=Ss:=by
 cases b with
 |true=>obtain⟨its,r,p,z⟩:=I.list (show kg X.K H a xs from h);exact⟨its,r,p.isList,z⟩
 |false=>obtain⟨its,r,p,z⟩:=I.tuple (show lN X.K H a xs from h);exact⟨its,r,p,z⟩
theorem Inv.sx_inj(I:Inv X pins σ H s){b:Bool}{a:Sg}{xs ys:ax}(h:SX X.K b H a xs)(h':SX X.K b H a ys):xs=ys:=by
 cases b with
 |true=>exact I.list_inj h h'
 |false=>exact I.tuple_inj h h'
end
noncomputable def Ni(K:QR)(b1 b2:Bool)(a1 a2:Sg):It:=
  ⟨fun i H=>∃ xs ys,SX K b1 H a1 xs/\SX K b2 H a2 ys/\i < xs.length/\i < ys.length,
   λi H v H'=>∃p x y,v=.ref p/\H p=none/\H'=upd H p (.tup [x,y])/\(∀xs,SX K b1 H a1 xs->xs[i]?=some x)/\∀ys,SX K b2 H a2 ys->ys[i]?=some y,
   λi H=>∃xs ys,SX K b1 H a1 xs/\SX K b2 H a2 ys/\(i=xs.length\/(i<xs.length/\i=ys.length))⟩
theorem Ao{P:Sn}{w:Sl}{K:QR}{es:aF}{k:Nat}{pos:Pos}{b1 b2:Bool}{a1 a2 z TI TO i1 i2:Sg}(Ap:Apart z TI TO i1 i2 [i1,a1] [i2,a2])(n1:a1≠i1)(n2:a2≠i2)(n3:z≠i1)(n4:z≠i2):Turn P w K (.Tuple es k pos) (Ni K b1 b2 a1 a2) [z,TI,TO,i1,i2] z
  (λi h=>TL h z TI TO .none/\TN h TI (.ref i1) (.ref i2)/\(∃a b,TN h TO a b)/\SI b1 h i1 a1 i/\SI b2 h i2 a2 i)where
 mem:=by simp
 obj:=λi h ⟨hz,hI,⟨a,b,hO⟩,s1,s2⟩ c hc=>by
  simp only[Qc,Qd,or_false]at hc;rcases hc with rfl|rfl|rfl|rfl|rfl
  ·exact⟨_,hz,λv q=>by cases q⟩
  ·exact⟨_,hI,λv q=>by cases q⟩
  ·exact⟨_,hO,λv q=>by cases q⟩
  ·exact s1.get
  ·exact s2.get
 keep:=λi h h' ⟨hz,hI,⟨a,b,hO⟩,s1,s2⟩ kp=>⟨kp z (by simp) _ hz,kp TI (by simp) _ hI,⟨a,b,kp TO (by simp) _ hO⟩,s1.keep λo e=>kp i1 (by simp) o e,s2.keep λo e=>kp i2 (by simp) o e⟩
 item:=by
  rintro X hP hw hK hc i pins s σ H E I hf ⟨hz,hI,⟨a,b,hO⟩,s1,s2⟩ hg;subst hP hw hK;obtain⟨xs,ys,g1,g2,l1,l2⟩:=hg;obtain⟨its1,r1,q1,z1⟩:=Inv.sx I g1;obtain⟨its2,r2,q2,z2⟩:=Inv.sx I g2;have hh:X.A.in1.handled=none:=I.ok.hd hc;have hT:s.TypeIs (.ref z) "zip":=⟨_,hz,rfl⟩
  unfold pyNext;refine SN (TY (Ts (name:=Str.ofString "__next__") hT F.slot_zip_next (Tt F.slot_zip_next hT F.entry_zip_next
   (next_item Ap (nM (A:=X.A.in1) b1 hh i1 a1 n1 its1.toArray) (nM (A:=X.A.in1) b2 hh i2 a2 n2 its2.toArray) hz hI hO ⟨s1,q1⟩ ⟨s2,q2⟩ (by rw[O2,<-r1.length];exact l1) (by rw[O2,<-r2.length];exact l2) λu v g tk p1 p2 hz' hO' t1 t2 hp sz kp=>?_) (F.args_zip_next_1 _))))
  have e1:its1[i]?=some u:=by simpa using p1
  have e2:its2[i]?=some v:=by simpa using p2
  have hx:∃x,xs[i]?=some x/\RelV x u:=by
   obtain⟨u',hu,ru⟩:=r1.get (i:=i) (x:=xs[i]) (by simp[l1]);rw[e1]at hu;cases hu;exact⟨xs[i],by simp[l1],ru⟩
  have hy:∃y,ys[i]?=some y/\RelV y v:=by
   obtain⟨u',hu,ru⟩:=r2.get (i:=i) (x:=ys[i]) (by simp[l2]);rw[e2]at hu;cases hu;exact⟨ys[i],by simp[l2],ru⟩
  obtain⟨x,ex,rx⟩:=hx;obtain⟨y,ey,ry⟩:=hy;refine SM ⟨_,rfl,?_⟩;refine wpAny_letOwnedTupleGo_zip hz' λg' hz2 sb=>?_;have hpz:s.heap.objs.size≠z:=OY (RN hz);have hp':TN g' s.heap.objs.size u v:=sb.extBut _ _ hpz hp;have I':Inv X pins σ (upd H s.heap.objs.size (.tup [x,y])) {s with heap:=g',toks:=tk}:=Inv.turnedL (ch:=[z,TI,TO,i1,i2]) I hf (λc o hc e=>by
   simp only[Qc,Qd,or_false,not_or]at hc;exact sb.extBut _ _ hc.1 (kp c o hc.1 hc.2.2.1 hc.2.2.2.1 hc.2.2.2.2 e)) (OZ _) ⟨by show 2<=Ss;decide,[u,v],.cons rx (.cons ry .nil),_,hp',rfl,_,rfl,rfl⟩
  have fr:H s.heap.objs.size=none:=I.fresh;have ne:∀c∈[z,TI,TO,i1,i2],c≠s.heap.objs.size:=λc hc e=>by
   simp only[Qc,Qd,or_false]at hc;rcases hc with rfl|rfl|rfl|rfl|rfl
   ·exact hpz e.symm
   ·exact absurd (RN hI) (by rw[e];exact OJ _)
   ·exact absurd (RN hO) (by rw[e];exact OJ _)
   ·obtain⟨o,q,_⟩:=s1.get;exact absurd (RN q) (by rw[e];exact OJ _)
   ·obtain⟨o,q,_⟩:=s2.get;exact absurd (RN q) (by rw[e];exact OJ _)
  refine⟨.ref s.heap.objs.size,_,I',rfl,⟨_,x,y,rfl,fr,rfl,λxs' h=>by rw[Inv.sx_inj I h g1];exact ex,λys' h=>by rw[Inv.sx_inj I h g2];exact ey⟩,⟨hz2,?_,⟨u,v,sb.extBut _ _ Ap.a2 hO'⟩,?_,?_⟩,λc hc=>by rw[av (ne c hc)];exact(hf c hc).1⟩
  ·exact sb.extBut _ _ Ap.a1 (kp TI _ Ap.a1 Ap.a3 Ap.d1 Ap.d2 hI)
  ·exact t1.1.keep λo e=>sb.extBut _ _ n3.symm e
  ·exact t2.1.keep λo e=>sb.extBut _ _ n4.symm e
 done:=by
  rintro X hP hw hK hc i pins s σ H E I hf ⟨hz,hI,⟨a,b,hO⟩,s1,s2⟩ hg;subst hP hw hK;obtain⟨xs,ys,g1,g2,hl⟩:=hg;obtain⟨its1,r1,q1,z1⟩:=Inv.sx I g1;obtain⟨its2,r2,q2,z2⟩:=Inv.sx I g2;have hh:X.A.in1.handled=none:=I.ok.hd hc;have hT:s.TypeIs (.ref z) "zip":=⟨_,hz,rfl⟩
  unfold pyNext;refine SN (TY (Ts (name:=Str.ofString "__next__") hT F.slot_zip_next (Tt F.slot_zip_next hT F.entry_zip_next
   (next_end (i:=i) Ap (nM (A:=X.A.in1) b1 hh i1 a1 n1 its1.toArray) (nM (A:=X.A.in1) b2 hh i2 a2 n2 its2.toArray) hz hI hO ⟨s1,q1⟩ ⟨s2,q2⟩ (by rw[O2,O2,<-r1.length,<-r2.length];exact hl) λg e tk kp he=>?_) (F.args_zip_next_1 _))))
  obtain⟨o,ho,hce⟩:=he;refine SN (wpAny_isInstance (T:="StopIteration") (b:=true) ⟨o,ho,hce⟩ isSubtype_stop ?_);refine SM ⟨rfl,Inv.turned0 (ch:=[z,TI,TO,i1,i2]) I hf λc o hc e=>?_⟩;simp only[Qc,Qd,or_false,not_or]at hc;exact kp c o hc.1 hc.2.2.1 hc.2.2.2.1 hc.2.2.2.2 e
 self:=λ_ _ _ _ _ ⟨hz,_⟩ h=>wpAny_pyIter_zip hz h
noncomputable def Fv:D->Option (Bool×List D)
 |.lst xs=>some (true,xs)
 |.tup xs=>some (false,xs)
 |.kt xs=>some (false,xs.map .str)
 |_=>none
theorem kh{K:QR}{H:Hp}:∀xs:ah,aJ K H (xs.map D.str) (xs.map V.str)
 |[]=>cC.mpr rfl
 |x::xs=>bh.mpr ⟨_,_,rfl,fF.mpr rfl,kh xs⟩
theorem tq{K:QR}{H:Hp}{d:D}{b:Bool}{xs:List D}{v:V}(e:Fv d=some (b,xs))(h:eL K H d v):∃a vs,v=.ref a/\SX K b H a vs/\aJ K H xs vs:=by
 cases d with
 |lst ys=>cases e;exact cw.mp h
 |tup ys=>cases e;obtain⟨a,vs,e1,e2,e3⟩:=cx.mp h;exact⟨a,vs,e1,lN.of e2,e3⟩
 |kt ys=>cases e;obtain⟨a,e1,e2⟩:=MV.mp h;exact⟨a,ys.map .str,e1,show lN K H a _ from .inr e2,kh ys⟩
 |_=>cases e
noncomputable def ku:List D->List D->List D
 |x::xs,y::ys=>.tup [x,y]::ku xs ys
 |_,_=>[]
theorem mM:∀xs ys:List D,(ku xs ys).length=min xs.length ys.length
 |[],_=>by simp[ku]
 |_::_,[]=>by simp[ku]
 |x::xs,y::ys=>by
  rw[ku,O3,mM xs ys,O3,O3];omega
theorem tE:∀{xs ys:List D}{i:Nat}{d:D},(ku xs ys)[i]?=some d->∃x y,xs[i]?=some x/\ys[i]?=some y/\d=.tup [x,y]
 |[],_,i,d,h=>by simp[ku]at h
 |_::_,[],i,d,h=>by simp[ku]at h
 |x::xs,y::ys,0,d,h=>by
  rw[ku,List.getElem?_cons_zero]at h;cases h;exact⟨x,y,rfl,rfl,rfl⟩
 |x::xs,y::ys,i+1,d,h=>by
  rw[ku,Qe]at h;obtain⟨a,b,h1,h2,h3⟩:=tE h;exact⟨a,b,by rw[Qe];exact h1,by rw[Qe];exact h2,h3⟩
theorem zU{K:QR}{Hd:Hp}{b1 b2:Bool}{a1 a2:Sg}{ds es:List D}{vs ws:ax}(h1:SX K b1 Hd a1 vs)(g1:aJ K Hd ds vs)(h2:SX K b2 Hd a2 ws)(g2:aJ K Hd es ws):Walk K Hd (Ni K b1 b2 a1 a2) (ku ds es):=λHn O' i hO sm=>
  have s':aB Hd Hn:=sm.trans (az Hn O')
  ⟨fun d e=>by
    obtain⟨x,y,e1,e2,rfl⟩:=tE e;have l1:i<ds.length:=(List.getElem?_eq_some_iff.mp e1).1;have l2:i<es.length:=(List.getElem?_eq_some_iff.mp e2).1;obtain⟨v,ev,dv⟩:=g1.get e1;obtain⟨w,ew,dw⟩:=g2.get e2;refine⟨⟨vs,ws,h1.same s',h2.same s',by rw[<-g1.length];exact l1,by rw[<-g2.length];exact l2⟩,λu H2 zq=>zq.elim λp zq=>zq.elim λx' zq=>zq.elim λy' zq=>zq.elim λeu zq=>zq.elim λhp zq=>zq.elim λeH zq=>zq.elim λq1 q2=>?_⟩;have z1:=q1 vs (h1.same s');rw[ev]at z1;cases z1;have z2:=q2 ws (h2.same s');rw[ew]at z2;cases z2;subst eH eu;exact⟨cZ hp _,gh hO hp (bh.mpr ⟨v,_,rfl,dv.mono sm,bh.mpr ⟨w,_,rfl,dw.mono sm,cC.mpr rfl⟩⟩)⟩,
   λhl=>by
    rw[mM]at hl;refine⟨vs,ws,h1.same s',h2.same s',?_⟩;rw[<-g1.length,<-g2.length]
    omega⟩
noncomputable def Ba:List D->Option (List D)
 |[a,b]=>(Fv a).bind λx=>(Fv b).bind λy=>some (ku x.2 y.2)
 |_=>none
noncomputable def BI(f:aC):aC:=λρ=>(f ρ).bind λds=>rO (Ba ds)
section
variable{X:Cx}
theorem IZ{a b c:Sg}(h1:a≠b)(h2:a≠c):a∉[b,c]:=λh=>by
 rcases List.mem_cons.mp h with z|z
 ·exact h1 z
 ·exact h2 (List.mem_singleton.mp z)
theorem xD{n a1 a2:Sg}(h1:a1<n)(h2:a2<n):Apart (n+4) (n+2) (n+3) n (n+1) [n,a1] [n+1,a2]:=by
 have lt:∀{a b:Nat},a<b->(b:Sg)≠(a:Sg):=λh=>OY h;have lt':∀{a b:Nat},a<b->(a:Sg)≠(b:Sg):=λh=>OL h;have g:∀k:Nat,a1<n+k:=λk=>OI h1 (Qf _ _);have g':∀k:Nat,a2<n+k:=λk=>OI h2 (Qf _ _);have p:∀{j k:Nat},j<k->n+j<n+k:=λh=>Qg h n;have p0:∀{k:Nat},0<k->n<n+k:=λh=>Qh h;exact⟨lt' (p (by decide)),lt' (p (by decide)),lt' (p (by decide)),IZ (lt (p0 (by decide))) (lt (g 4)),IZ (lt (p0 (by decide))) (lt (g 3)),IZ (lt (p0 (by decide))) (lt (g 1)),
  IZ (lt (p (by decide))) (lt (g' 4)),IZ (lt (p (by decide))) (lt (g' 3)),IZ (lt' (p0 (by decide))) (lt h2),lt (p0 (by decide)),lt (p (by decide)),OS,OS⟩
theorem GA{pins:aM}{s:Sj}{σ:St}{H:Hp}{O:ap}{es:aF}{k:Nat}{tpos:Pos}{ds r:List D}{vs:ax}{us:aP}{RR:It->Hp->Prop}(I:Inv X pins σ H s)(hc:Ba ds=some r)(d1:aJ X.K (hid H O) ds vs)(rv:Vals vs us)(q:∀J,Walk X.K (hid H O) J r->RR J H):
  Sz (model X.prog X.w) X.A (call (.type "zip") us) (λv s1=>Sz (model X.prog X.w) X.A (pyIter v) (PIE X pins σ (.Tuple es k tpos) RR) X.xe s1) X.xe s:=by
 unfold Ba at hc;split at hc
 ·rename_i a b;obtain⟨⟨b1,xs⟩,e1,hc⟩:=bind_some hc;obtain⟨⟨b2,ys⟩,e2,hc⟩:=bind_some hc;cases hc;obtain⟨va,vb,rfl,da,db⟩:=d1.two;obtain⟨u1,u2,rfl,r1,r2⟩:=vals2 rv;obtain⟨a1,ws1,rfl,x1,y1⟩:=tq e1 da;obtain⟨a2,ws2,rfl,x2,y2⟩:=tq e2 db;cases r1;cases r2;obtain⟨its1,rr1,q1,_⟩:=Inv.sx I (x1.same (az H O));obtain⟨its2,rr2,q2,_⟩:=Inv.sx I (x2.same (az H O));refine BU q1 q2 λg hz hI hO s1 s2 kp=>wpAny_pyIter_zip hz ?_;have Ap:=xD q1.lt q2.lt;refine⟨_,_,_,_,H,rfl,I.kept (t':=s.toks) kp,Ao (b1:=b1) (b2:=b2) Ap (OL q1.lt) (OL (OI q2.lt (Qf _ 1))) (OY (Qh (by decide))) (OY (Qg (by decide) _)),⟨hz,hI,⟨_,_,hO⟩,s1,s2⟩,λb hb=>?_,q _ (zU x1 y1 x2 y2)⟩;have le:s.heap.objs.size<=b:=by
   simp only[Qc,Qd,or_false]at hb;rcases hb with rfl|rfl|rfl|rfl|rfl
   ·exact Qf _ _
   ·exact Qf _ _
   ·exact Qf _ _
   ·exact OZ _
   ·exact Qf _ _
  exact I.fpOk le (I.hok.fresh le)
 ·cases hc
end
noncomputable def FR(i:Nat):List D->List D
 |[]=>[]
 |x::xs=>.tup [.int i,x]::FR (i+1) xs
noncomputable def Gv:List D->Option (List D)
 |[a]=>(Fv a).bind λx=>some (FR 0 x.2)
 |_=>none
noncomputable def uQ(f:aC):aC:=λρ=>(f ρ).bind λds=>rO (Gv ds)
end TG
namespace TG
open PySem PySem.Spec L2
variable[al]
theorem ao{K:QR}{c:Str}{C C':Sg}(h:clsAt K c C)(h':clsAt K c C'):C=C':=by
 unfold clsAt at h h';rw[h]at h';cases h';rfl
theorem oq{K:QR}{H:Hp}{f:Str}:∀{fs:ah}{ds:List D}{vs:ax}{d:D},aJ K H ds vs->(fs.zip ds).lookup f=some d->∃v,(fs.zip vs).lookup f=some v/\eL K H d v
 |[],_,_,_,_,e=>by simp at e
 |_::_,[],_,_,_,e=>by simp at e
 |g::fs,x::ds,vs,d,h,e=>by
  rw[bh]at h;obtain⟨v,r,rfl,h1,h2⟩:=h;rw[Qi,Pz]at e ⊢;cases hg:f==g with
  |true=>rw[hg]at e;cases e;exact⟨v,rfl,h1⟩
  |false=>rw[hg]at e;exact oq h2 e
theorem qp{f:Str}:∀{fs:ah}{vs:ax},fs.contains f=false->(fs.zip vs).lookup f=none
 |[],_,_=>by simp
 |_::_,[],_=>by simp
 |g::fs,x::vs,h=>by
  rw[Qj,Qk]at h;rw[Qi,Pz,h.1];exact qp h.2
noncomputable def aW(f:Str)(cs:ah)(d:D):aY:=match d with
 |.obj c fs vs=>if cs.contains c then(fs.zip vs).lookup f else none
 |_=>none
noncomputable def aQ(K:QR)(f:Str)(cs:ah):Prop:=∀c∈cs,∀C,clsAt K c C->ik K C/\dR K C f
section
variable{X:Cx}{a o e:Sh}{es:aF}{fa fo:FX}{fas:aC}{f m x:Str}{cs:ah}{pos apos p:Pos}{k k':Nat}{ps:ah}
noncomputable def MethAt(P:Sn)(w:Sl)(K:QR)(mg:bg)(base:Sr)(k:Nat)(c m:Str)(ps:ah)(g:cy):Prop:=
 ∃C f fd,clsAt K c C/\ik K C/\Meth K C m f/\fG P w K mg base (gB P w) k f fd ps (yr K ps.length g)/\Binds K fd ps []
noncomputable def gX(m:Str)(tbl:List (Str×(cy)))(fo:FX)(fas:aC):FX:=λρ=>(fo ρ).bind λo=>match o with
 |.obj c fs vs=>match tbl.lookup c with
  |some g=>if fs.contains m then un else(fas ρ).bind λas=>g (o::as)
  |none=>un
 |_=>un
noncomputable def oV(P:Sn)(w:Sl)(K:QR)(mg:bg)(base:Sr)(k:Nat)(m:Str)(ps:ah)(tbl:List (Str×(cy))):Prop:=
 ∀c g,tbl.lookup c=some g->MethAt P w K mg base k c m ps g/\Ar ps.length g
theorem DU{P:Sn}{w:Sl}{K:QR}{mg:bg}{base:Sr}:oV P w K mg base k m ps []:=λ_ _ h=>nomatch h
theorem Bx{P:Sn}{w:Sl}{K:QR}{mg:bg}{base:Sr}{c:Str}{g:cy}{tbl:List (Str×(cy))}(h:MethAt P w K mg base k c m ps g)(hn:Ar ps.length g)(t:oV P w K mg base k m ps tbl):oV P w K mg base k m ps ((c,g)::tbl):=λc' g' e=>by
 rw[Pz]at e;cases hc:c'==c with
 |true=>
  rw[hc]at e;cases e
  have:c'=c:=by simpa using hc
  subst this;exact⟨h,hn⟩
 |false=>rw[hc]at e;exact t c' g' e
theorem MethAt.mono{P:Sn}{w:Sl}{K:QR}{mg:bg}{base:Sr}{c:Str}{g:cy}(h:MethAt P w K mg base k c m ps g)(hk:k<=k'):MethAt P w K mg base k' c m ps g:=by
 obtain⟨C,f,fd,h1,h2,h3,h4,h5⟩:=h;exact⟨C,f,fd,h1,h2,h3,h4.mono hk,h5⟩
theorem t9{tbl:List (Str×(cy))}{args:aF}{pl:Sem Bool}(tb:oV X.prog X.w X.K X.mg X.base k m ps tbl)(hr:dq k X.A)(ho:FE X o fo)
  (hc:∀ (pins:aM) (s1:Sj) (σ:St) (H1:Hp) (O:ap) (ρ:ak) (a f:Sg) (od:D) (Q:VK) (g:cy) (fd:Te) (w0:V),Rm X.K (.ref f)=true->fG X.prog X.w X.K X.mg X.base (gB X.prog X.w) k f fd ps (yr X.K ps.length g)->Binds X.K fd ps []->Ar ps.length g->Inv X pins σ H1 s1->eA X.K O H1 ρ σ->eL X.K (hid H1 O) od (.ref a) ->
   (fH X σ O H1 ((fas ρ).bind λas=>g (od::as)) λd=>∀v H',aB H1 H'->eL X.K (hid H' O) d v->Q v H')->
   Sz (model X.prog X.w) X.A (Tb pos (.ref f) [.ref a] (backTo pos (SA args X.env)) (backToKw pos (Tc [] X.env))) (EP X pins σ Q) X.xe s1)
  (ht:eval (.Call (.Attribute o m apos) args [] pos) X.env=(do
   let ov<-eval o X.env
   standAt apos.atName
   let (f,first)<-holding [ov] (getMethod ov m pl)
   Tb pos f first (backTo pos (SA args X.env)) (backToKw pos (Tc [] X.env)))):
  FE X (.Call (.Attribute o m apos) args [] pos) (gX m tbl fo fas):=by
 rintro pins s σ H Q I ⟨O,ρ,E,hF⟩;refine tY ho I ?_ ht;refine⟨O,ρ,E,(fH.bind hF).imp λd hF v H1 s1 d1=>?_⟩;cases d with
 |obj c fs vs=>
  have hF':fH X σ O H (match tbl.lookup c with|some g=>if fs.contains m then un else(fas ρ).bind λas=>g (.obj c fs vs::as)|none=>un) _:=hF;cases hg:tbl.lookup c with
  |none=>rw[hg]at hF';exact hF'.elim
  |some g=>
   rw[hg]at hF';have hF2:fH X σ O H (if fs.contains m then un else(fas ρ).bind λas=>g (.obj c fs vs::as)) _:=hF';cases hm:fs.contains m with
   |true=>rw[hm]at hF2;exact hF2.elim
   |false=>
    rw[hm]at hF2;have hF3:fH X σ O H ((fas ρ).bind λas=>g (.obj c fs vs::as)) _:=hF2;have d0:=d1;obtain⟨a,ws,ev,g1,g2,C,dx,g3,g4⟩:=KO.mp d1;obtain⟨⟨C',f,fd,m1,m2,m3,m4,m5⟩,ar⟩:=tb c g hg;have eC:=ao g3 m1;subst eC;subst ev;refine⟨a,C,dx,_,f,rfl,az H1 O _ _ g4,m2,m3,qp hm,λs2 I2=>?_⟩;exact hc pins s2 σ H1 O ρ a f _ Q g fd (.ref a) m3.kp m4 m5 ar I2 (E.same s1) d0 ((hF3.mono s1).imp λd q v H2 s2 d2=>q v H2 (s1.trans s2) d2)
 |_=>exact hF.elim
theorem kf{σ:St}{O:ap}{H:Hp}{g:cy}{ds:List D}{vs:ax}{Q:VK}{n:Nat}(ar:Ar n g)(hO:eG H O)(d1:aJ X.K (hid H O) ds vs)(h:fH X σ O H (g ds) λd=>∀v H',aB H H'->eL X.K (hid H' O) d v->Q v H'):∃E,gW (gB X.prog X.w) X σ E/\yr X.K n g vs H Q E:=by
 cases hg:g ds with
 |ok d=>
  rw[hg]at h;refine⟨E0,lH,O,ds,by rw[<-d1.length];exact ar ds (by rw[hg];intro z;cases z),hO,d1,?_⟩;rw[hg];exact h
 |error z=>
  rw[hg]at h;cases z with
  |none=>exact h.elim
  |some x=>
   refine⟨qc X O H x,lG h,O,ds,by rw[<-d1.length];exact ar ds (by rw[hg];intro z;cases z),hO,d1,?_⟩;rw[hg];exact o4
theorem yZ{P:Sn}{w:Sl}{K:QR}{mg:bg}{base:Sr}{c y qual:Str}{C f:Sg}{fd:Te}{st:Si}{N:ah}{B:aS}(h1:clsAt K c C)(h2:ik K C)(h3:Meth K C m f)(F:kc K y qual st f fd)(b:Binds K fd ps [])(SC:aO N ps (aj st))(hb:BodyOk P w K mg base k N qual st f B):
  MethAt P w K mg base (k+1) c m ps (au B ps.length N.length):=⟨C,f,fd,h1,h2,h3,qX F SC hb,b⟩
noncomputable def Ol(C:Sg)(fs:ah):Sp:=λvs H Q _=>∃x dx as,vs=.ref x::as/\as.length=fs.length/\H x=some (.ins C dx [])/\Q .non (upd H x (.ins C dx (fs.zip as)))
noncomputable def bJ(P:Sn)(w:Sl)(K:QR)(mg:bg)(base:Sr)(k:Nat)(c:Str)(ps fs:ah):Prop:=
 ∃C f fd,clsAt K c C/\Mk K C f/\fG P w K mg base (gB P w) k f fd ps (Ol C fs)/\Binds K fd ps []/\mg c=some (.ref C)
noncomputable def fNew(c:Str)(fs:ah)(fas:aC):FX:=λρ=>(fas ρ).bind λas=>if as.length=fs.length then .ok (.obj c fs as)else un
theorem jg{K:QR}{H1:Hp}{O:ap}{c:Str}{fs:ah}{as:List D}{vs:ax}{C x dx:Sg}(hc:clsAt K c C)(hl:as.length=fs.length)(d1:aJ K (hid H1 O) as vs)(hO:eG H1 O)(hx:H1 x=none)(hd:H1 dx=none)(ne:dx≠x):
  aB H1 (upd (upd (upd H1 dx (.own x)) x (.ins C dx [])) x (.ins C dx (fs.zip vs)))/\eL K (hid (upd (upd (upd H1 dx (.own x)) x (.ins C dx [])) x (.ins C dx (fs.zip vs))) O) (.obj c fs as) (.ref x):=by
 have sm:aB H1 (upd (upd (upd H1 dx (.own x)) x (.ins C dx [])) x (.ins C dx (fs.zip vs))):=λb o h=>by
  have n1:=aL h hx;have n2:=aL h hd;rw[av n1,av n1,av n2];exact h
 exact⟨sm,KO.mpr ⟨x,vs,rfl,d1.mono (bP sm),by rw[<-d1.length,hl],C,dx,hc,by rw[lZ (hO.not hx),aT]⟩⟩
theorem FC{X:Cx}:vE (gB X.prog X.w) X E0:=λ_ _ _ _ _ _ _ h=>by
 obtain⟨_,_,_,_,_,_,_,_,_,_,_,_,_,_,z⟩:=h;exact z.elim
theorem n9(f:Str)(v:V):∀{fs:List (Str×V)},(fs.map (·.1)).contains f=false->iX f v fs=fs++[(f,v)]
 |[],_=>rfl
 |(g,w)::fs,h=>by
  rw[O5,Qj,Qk]at h;have ne:¬g=f:=λz=>by
   have:=h.1
   rw[z]at this;simp at this
  have:=n9 f v (fs:=fs) h.2
  unfold iX;simp only[ne,if_false,this,PD]
noncomputable def wa(X:Cx)(cs:ah)(body:cS)(fs:ah)(i:Nat):Prop:=
 ∃t,pH X body t/\∀(D:Ends)(σ:St)(H:Hp)(x dx C:Sg)(done:List (Str×V))(as:ax),σ[0]?=some (some (.ref x))->(∀j v,as[j]?=some v->σ[i+j]?=some (some v))->as.length=fs.length->ik X.K C->(∀f∈fs,dR X.K C f)->done.length+fs.length<1000->(done.map (·.1)++fs).Nodup->H x=some (.ins C dx done)->
  D.nx σ (upd H x (.ins C dx (done++fs.zip as)))->t D σ H
theorem dm{st:Si}{f:Str}{i:Nat}{o v:Sh}{p1 p2:Pos}(hst:st=.Assign [.Attribute o f p1] v p2)(ho:PE X o (pP 0))(hv:PE X v (pP i))(hs:swapsWith v (some (.Attribute o f p1)) p2.line X.env=pure false):wa X cs [st] [f] i:=by
 subst hst;refine⟨_,sr (zB ho hv hs),λD σ H x dx C done as h0 ha hl cl na hz nd hx q=>?_⟩;obtain⟨a,rfl⟩:∃a,as=[a]:=by
  match as,hl with
  |[a],_=>exact⟨a,rfl⟩
 refine⟨a,ha 0 a rfl,.ref x,h0,x,C,dx,done,rfl,hx,cl,na f (List.mem_singleton.mpr rfl),by simp at hz;omega,?_⟩;rw[n9 f a (by
  have:=nd
  rw[Ql]at this;have h3:=this.2.2;cases hc:(done.map (·.1)).contains f with
  |false=>rfl
  |true=>exact absurd rfl (h3 f (List.contains_iff_mem.mp hc) f (List.mem_singleton.mpr rfl)))]
 exact q
theorem bz{st:Si}{rest:cS}{f:Str}{fs:ah}{i:Nat}{o v:Sh}{p1 p2:Pos}(hst:st=.Assign [.Attribute o f p1] v p2)(ho:PE X o (pP 0))(hv:PE X v (pP i))(hs:swapsWith v (some (.Attribute o f p1)) p2.line X.env=pure false)(hr:wa X cs rest fs (i+1)):wa X cs (st::rest) (f::fs) i:=by
 subst hst;obtain⟨t,ht,hq⟩:=hr;refine⟨_,pj (zB ho hv hs) ht,λD σ H x dx C done as h0 ha hl cl na hz nd hx q=>?_⟩;obtain⟨a,as,rfl⟩:∃a r,as=a::r:=by
  match as,hl with
  |a::r,_=>exact⟨a,r,rfl⟩
 have hno:(done.map (·.1)).contains f=false:=by
  have:=nd
  rw[Ql]at this;have h3:=this.2.2;cases hc:(done.map (·.1)).contains f with
  |false=>rfl
  |true=>exact absurd rfl (h3 f (List.contains_iff_mem.mp hc) f OS)
 refine⟨a,ha 0 a rfl,.ref x,h0,x,C,dx,done,rfl,hx,cl,na f OS,by simp at hz;omega,?_⟩;rw[n9 f a hno];refine hq D σ _ x dx C (done++[(f,a)]) as h0 (λj v e=>?_) (by simpa using hl) cl (λg hg=>na g (OT _ hg)) (by simp at hz ⊢;omega) (by simpa [Qa]using nd) (by rw[aT]) ?_
 ·have:=ha (j+1) v (by simpa using e)
  rw[show i+1+j=i+(j+1)by omega];exact this
 ·rw[wC,Qa];exact q
theorem de{P:Sn}{w:Sl}{K:QR}{mg:bg}{base:Sr}{c qual:Str}{C f:Sg}{fd:Te}{st:Si}{fs:ah}(h1:clsAt K c C)(hM:Mk K C f)(cl:ik K C)(na:∀g∈fs,dR K C g)(F:kc K "__init__" qual st f fd)(b:Binds K fd ps [])(hmg:mg c=some (.ref C))(SC:aO ps ps (aj st))(hps:ps.length=fs.length+1)(hnd:fs.Nodup)(hlen:fs.length<1000)
  (hb:∀(cdv:Se)(A:Sw)(outer:List Env)(s:Sj)(H:Hp)(E:XK),wa (eY Kz P w K mg base ps qual (aj st) f cdv A outer s H E).nox [] (cH st) fs 1):bJ P w K mg base (k+1) c ps fs:=by
 refine⟨C,f,fd,h1,hM,?_,b,hmg⟩;refine fG.any (F.ok SC (λvs H Q E h=>?_) λcdv A outer s H vs Q E hr h=>?_)
 ·obtain⟨x,dx,as,rfl,hl,_⟩:=h;rw[O3,hl,hps]
 ·obtain⟨t,ht,hq⟩:=hb cdv A outer s H E;obtain⟨x,dx,as,rfl,hl,hx,q⟩:=h;have hst:L2.start ps (.ref x::as)=(.ref x::as).map some:=by
   unfold L2.start;rw[O3,hl,hps,Qm,Qn,Pa]
  refine⟨t,ht,hq _ _ H x dx C [] as (by rw[hst];rfl) (λj v e=>?_) hl cl na (by simpa using hlen) (by simpa using hnd) hx q⟩;rw[hst,Nat.add_comm,O5,Qe,Pm,e];rfl
end
end TG
namespace TG
open PySem PySem.Spec L2
variable[al]
section
variable{X:Cx}
noncomputable def iP:List D->Option (ah)
 |[]=>some []
 |.str x::r=>(iP r).bind λys=>some (x::ys)
 |_=>none
theorem mC:∀{ds:List D}{ys:ah},iP ds=some ys->ds=ys.map .str
 |[],ys,h=>by cases h;rfl
 |d::ds,ys,h=>by
  cases d with
  |str x=>
   have h':(iP ds).bind (λys=>some (x::ys))=some ys:=h;cases e:iP ds with
   |none=>rw[e]at h';cases h'
   |some zs=>
    rw[e]at h';cases h';rw[mC e];rfl
  |_=>cases h
theorem mF{K:QR}{H:Hp}:∀{ys:ah}{vs:ax},aJ K H (ys.map .str) vs->vs=ys.map .str
 |[],vs,h=>cC.mp h
 |y::ys,vs,h=>by
  obtain⟨v,r,rfl,h1,h2⟩:=bh.mp h;rw[fF.mp h1,mF h2];rfl
theorem rq:∀{ys:ah}{its:aP},Vals (ys.map .str) its->PyProof.Rows.StrsAre its ys
 |[],_,.nil=>.nil
 |y::ys,_,.cons h t=>by
  obtain⟨t',rfl⟩:=h;exact .cons y t' (rq t)
noncomputable def rJoin(K:QR):V->ax->Hp->VK->Prop:=λx xs H Q=>∃z l ys,x=.str z/\xs=[.ref l]/\kg K H l (ys.map V.str)/\(ys.map (λy=>y.length)).sum+ys.length*z.length<=100000/\Q (.str (Txt.join z ys)) H
theorem Fd:IW X "str.join" (rJoin X.K):=by
 rintro pins s σ H x xs v us Q I rx rs ⟨z,l,ys,ex,exs,hl,hz,q⟩;subst ex exs;obtain⟨t,rfl⟩:=rx;obtain⟨u,rfl⟩:∃u,us=[u]:=by
  cases rs with
  |cons _ t=>cases t;exact⟨_,rfl⟩
 have ru:RelV (.ref l) u:=by cases rs with|cons h _=>exact h
 cases ru;obtain⟨its,r,ht,_⟩:=I.list hl;exact PyProof.Rows.join_list ht.isList (rq r) ‹0› λt' k=>⟨.str _,H,I.tok _,⟨_,rfl⟩,q⟩
noncomputable def Gf:D->Option Str
 |.str z=>some z
 |_=>none
theorem sf{K:QR}{H:Hp}{d:D}{z:Str}{v:V}(e:Gf d=some z)(h:eL K H d v):v=.str z:=by
 cases d with
 |str y=>cases e;exact fF.mp h
 |_=>cases e
noncomputable def tV(z:Str)(as:List D):aY:=match as with
 |[.lst xs]=>(iP xs).bind λys=>if small ((ys.map (λy=>y.length)).sum+ys.length*z.length)then some (.str (Txt.join z ys))else none
 |_=>none
noncomputable def qe(f:FX)(g:aC):FX:=λρ=>(f ρ).bind λa=>(rO (Gf a)).bind λz=>(g ρ).bind λds=>rO (tV z ds)
theorem rB{K:QR}{H:Hp}{O:ap}{z:Str}{ds:List D}{d:D}{vs:ax}{Q:VK}(hg:tV z ds=some d)(hd:aJ K (hid H O) ds vs)(q:∀v,eL K (hid H O) d v->Q v H):rJoin K (.str z) vs H Q:=by
 unfold tV at hg;split at hg
 ·rename_i xs;cases e:iP xs with
  |none=>rw[e]at hg;cases hg
  |some ys=>
   rw[e]at hg;obtain⟨h1,h2⟩:=bp hg;subst h2;obtain⟨v,ev,h1'⟩:=hd.one;obtain⟨l,ws,el,hl,hw⟩:=cw.mp h1';rw[mC e]at hw;rw[mF hw]at hl;exact⟨z,l,ys,rfl,by rw[ev,el],(az H O).seq hl,of_decide_eq_true h1,q _ (fF.mpr rfl)⟩
 ·cases hg
noncomputable def L7(a b:D):aY:=match a,b with
 |.bl c,.bl d=>some (.bl (c==d))
 |_,_=>none
noncomputable def Eh(a b:D):aY:=match a,b with
 |.bl c,.bl d=>some (.bl (!(c==d)))
 |_,_=>none
end
structure M5(K:QR)(C:Sg):Prop where
 makes:Rc K C=true
 init:QV K (.ref C) "__init__"=some (some (.builtin "object.__init__"))
 kp:Rm K (.ref C)=true
section
variable{X:Cx}{C:Sg}{pins:aM}{σ:St}{H:Hp}{s:Sj}{Q:VK}
theorem run_plain(M:M5 X.K C)(I:Inv X pins σ H s)(h:∀x dx,H x=none->H dx=none->dx≠x->Q (.ref x) (upd (upd H dx (.own x)) x (.ins C dx []))):
  Sz (model X.prog X.w) X.A (call (.ref C) []) (EP X pins σ Q) X.xe s:=by
 have hq:=h (s.heap.objs.size+1) s.heap.objs.size (I.hok.fresh (Pb _)) (I.hok.fresh (OZ _)) (OL (O8 _));have I2:=Inv.made (C:=C) I;have e1:((s.heap.push Rh).push (QP C s.heap.objs.size)).get? (s.heap.objs.size+1)=some (QP C s.heap.objs.size):=by
  have:=RM (s.heap.push Rh) (o:=QP C s.heap.objs.size) rfl
  rwa [RQ]at this
 have hb:∀self,Rl (model X.prog X.w) s.heap (bindSpecial (.builtin "object.__init__") self) (.builtin "object.__init__",[self]):=λself=>PySem.W.Looks.of_pure (PySem.W.oi_bind self);refine Tg (yq I.kIn M.makes M.init hb ?_);have h3:Rl (model X.prog X.w) ((s.heap.push Rh).push (QP C s.heap.objs.size)) (isInstance (.ref (s.heap.objs.size+1)) (.type "object")) true:=by
  have h4:Rl (model X.prog X.w) ((s.heap.push Rh).push (QP C s.heap.objs.size)) (typeOf (.ref (s.heap.objs.size+1))) (.ref C):=PySem.W.Looks.andThen (PySem.W.Looks.ld e1) PySem.W.Looks.now;exact PySem.W.Looks.andThen h4 (((Rj I.kIn M.makes).top).keeps λb o q=>RP _ (RP _ q))
 refine TZ (b:=Builtin.«object.__init__») PySem.W.oi_plain PySem.W.entry_oi ?_;have ha:argsOk "object.__init__" {pos:=[Value.ref (s.heap.objs.size+1)],kw:=[]}:=PySem.W.oi_args _;refine PySem.W.check_slot (i:="object.__init__") (owner:="object") (n:="__init__") (self:=Value.ref (s.heap.objs.size+1)) (rest:=[]) (kw:=[]) PySem.W.oi_kind PySem.W.oi_split h3 ha ?_;rw[PySem.W.oi_run];exact SM ⟨rfl,V.ref (s.heap.objs.size+1),_,I2,rfl,hq⟩
noncomputable def tW(K:QR)(mg:bg)(c:Str):Prop:=∃C,clsAt K c C/\M5 K C/\mg c=some (.ref C)
end
end TG
namespace TG
open PySem PySem.Spec PyProof.Rows L2
variable[al]
noncomputable def tP:List D->List D->Option Bool
 |[],[]=>some false
 |[],_::_=>some true
 |_::_,[]=>some false
 |a::as,b::bs=>match a,b with
  |.int i,.int j=>if i=j then tP as bs else some (decide (i<j))
  |.str x,.str y=>if x=y then tP as bs else some (decide (x.cps.toList<y.cps.toList))
  |_,_=>none
inductive ig:aP->List D->Prop where
 |nil:ig [] []
 |int (i:Int) (t:Tok) {vs:aP} {ds:List D} (h:ig vs ds):ig (.int i t::vs) (.int i::ds)
 |str (x:Str) (t:Tok) {vs:aP} {ds:List D} (h:ig vs ds):ig (.str x t::vs) (.str x::ds)
theorem ig.length{vs:aP}{ds:List D}(h:ig vs ds):vs.length=ds.length:=by
 induction h with
 |nil=>rfl
 |int _ _ _ ih=>rw[O3,O3,ih]
 |str _ _ _ ih=>rw[O3,O3,ih]
theorem Jj(A:Sw)(s:Sj)(a:Int)(t:Tok)(c:Int)(u:Tok):∃e,SeqAt.EqAt A s (.int a t) (.int c u) e/\(e=true↔a=c):=
 ⟨(a==c),SeqAt.EqAt.int_int a t c u,by simp⟩
theorem JQ(A:Sw)(s:Sj)(a:Str)(t:Tok)(c:Str)(u:Tok):∃e,SeqAt.EqAt A s (.str a t) (.str c u) e/\(e=true↔a=c):=
 ⟨(a==c),SeqAt.EqAt.str_str a t c u,by simp⟩
theorem JE(A:Sw)(s:Sj)(a:Str)(t:Tok)(c:Str)(u:Tok)(prog:Sn)(w:Sl)(E:bf)(Q:bf)(h:Q (.bool (decide (a.cps.toList<c.cps.toList))) s):
  Sz (model prog w) A (richCompare .Lt (.str a t) (.str c u)) Q E s:=
 (PySem.P.lt_str h:Sz (model prog w) A (SW .Lt (.str a t) (.str c u)) Q E s)
section
open PySem.SeqAt
open PySem.AutoSeq1 (wpAny_loadPart')
open PySem.MeetsSeq PySem.MeetsSeq2 PySem.MeetsSeq3
set_option maxHeartbeats 1000000 in
theorem pD(l b:Sg)(items items2:Array Se)(n n2:Nat)(dd dd2:Option Sg)(sl sl2:Array (Option Se))(ns ms:List D)(r:Bool)(hi:ig items.toList ns)(hj:ig items2.toList ms)(hr:tP ns ms=some r):
  Meets (Builtin.«tuple.__lt__» ⟨[.ref l,.ref b],[]⟩)
   (fun _ R s=>s.heap.get? l=some { cls:=.type "tuple",dict:=dd,data:=.seq items n,slots:=sl }/\s.heap.get? b=some { cls:=.type "tuple",dict:=dd2,data:=.seq items2 n2,slots:=sl2 } /\
    R (.ok (.ret (.bool r))) s):=
 .of_wp λprog w A R s h=>by
  obtain⟨hp,g,d,tk,os⟩:=s;obtain⟨hl,hb,h⟩:=h;have f2:=AutoSeq1.sub_tuple_tuple;have z1:items.size=ns.length:=by rw[<-hi.length];simp
  have z2:items2.size=ms.length:=by rw[<-hj.length];simp
  wp_walk using wpAny_loadPart' hl,wpAny_loadPart' hb,wpAny_forIn_list _ (λrest b s'=>b.1=none/\s'=⟨hp,g,d,tk,os⟩/\∃(vs ws:aP)(ns' ms':List D),rest=vs.zip ws/\
   ig vs ns'/\ig ws ms'/\ns'.length+items2.size=ms'.length+items.size/\tP ns' ms'=some r/\R (.ok (.ret (.bool r))) ⟨hp,g,d,tk,os⟩) _
  case turn=>
   rintro⟨y,x⟩ rest b s' ⟨hb',rfl,vs,ws,ns',ms',hz,hvi,hwi,hlen,hL,hR⟩;cases hvi with
   |nil=>rw[List.zip_nil_left]at hz;cases hz
   |int a t hvi'=>
    cases hwi with
    |nil=>rw[Qo]at hz;cases hz
    |str c u hwi'=>cases hL
    |int c u hwi'=>
     rw[Qi]at hz;injection hz with hyx hrest;injection hyx with hy hx;subst hy hx;have hL':(if a=c then tP _ _ else some (decide (a<c)))=some r:=hL;simp only[O3]at hlen;obtain⟨e,he,hiff⟩:=Jj A.in1 ⟨hp,g,d,tk,os⟩ a t c u;refine SN (he prog w _ _ ?_);cases e with
     |true=>
      rw[if_pos (hiff.mp rfl)]at hL'
      wp_walk
      exact⟨rfl,rfl,_,_,_,_,hrest,hvi',hwi',by omega,hL',hR⟩
     |false=>
      rw[if_neg (λq=>absurd (hiff.mpr q) OX)]at hL';cases hL';have hri:=HT.JF A.in1 ⟨hp,g,d,tk,os⟩ a t c u prog w
      wp_walk using hri
      exact⟨_,rfl,by simpa using hR⟩
   |str a t hvi'=>
    cases hwi with
    |nil=>rw[Qo]at hz;cases hz
    |int c u hwi'=>cases hL
    |str c u hwi'=>
     rw[Qi]at hz;injection hz with hyx hrest;injection hyx with hy hx;subst hy hx;have hL':(if a=c then tP _ _ else some (decide (a.cps.toList<c.cps.toList)))=some r:=hL;simp only[O3]at hlen;obtain⟨e,he,hiff⟩:=JQ A.in1 ⟨hp,g,d,tk,os⟩ a t c u;refine SN (he prog w _ _ ?_);cases e with
     |true=>
      rw[if_pos (hiff.mp rfl)]at hL'
      wp_walk
      exact⟨rfl,rfl,_,_,_,_,hrest,hvi',hwi',by omega,hL',hR⟩
     |false=>
      rw[if_neg (λq=>absurd (hiff.mpr q) OX)]at hL';cases hL';have hri:=JE A.in1 ⟨hp,g,d,tk,os⟩ a t c u prog w
      wp_walk using hri
      exact⟨_,rfl,by simpa using hR⟩
  case fin=>
   rintro⟨b1,b2⟩ s' ⟨hb',rfl,vs,ws,ns',ms',hz,hvi,hwi,hlen,hL,hR⟩;simp only at hb';subst hb';have hv:r=decide (items.size<items2.size):=by
    have l1:=hvi.length;have l2:=hwi.length;cases ns' with
    |nil=>
     cases ms' with
     |nil=>
      simp only[Qp]at hlen;cases hL;exact(decide_eq_false ‹0›).symm
     |cons c u=>
      simp only[Qp,O3]at hlen;cases hL;exact(decide_eq_true ‹0›).symm
    |cons a t=>
     cases ms' with
     |nil=>
      simp only[Qp,O3]at hlen;cases hL;exact(decide_eq_false ‹0›).symm
     |cons c u=>
      have:=congrArg List.length hz
      simp only[Qp,List.length_zip,l1,l2,O3]at this;omega
   rw[hv]at hR
   wp_walk
   exact⟨_,rfl,by simpa [Builtin.Tuple.tupleCompareSizes]using hR⟩
  case h=>
   exact⟨rfl,rfl,items.toList,items2.toList,ns,ms,rfl,hi,hj,by omega,hr,h⟩
end
section
variable{X:Cx}
theorem ym{α:Type}{c:Bool}{o:Option α}{a:α}(h:(if c then o else none)=some a):c=true/\o=some a:=by
 cases c with
 |true=>exact⟨rfl,h⟩
 |false=>cases h
theorem u5{prog:Sn}{w:Sl}{A:Sw}{E:bf}{s:Sj}{l b:Sg}{items items2:Array Se}{ns ms:List D}{r:Bool}{Q:bf}(hl:IsTup s.heap l items)(hb:IsTup s.heap b items2)(hi:ig items.toList ns)(hj:ig items2.toList ms)(hr:tP ns ms=some r)
  (hu:A.units<Td) (h:Q (.bool r) s):Sz (model prog w) A (SW .Lt (.ref l) (.ref b)) Q E s:=by
 obtain⟨⟨cls,dd,data,sl⟩,ho,hc,n,hd⟩:=id hl;obtain⟨⟨cls2,dd2,data2,sl2⟩,ho2,hc2,n2,hd2⟩:=id hb;simp only at hc hd hc2 hd2;subst hc hd hc2 hd2;exact richCompare_meets_room (op:=.Lt) ⟨_,ho,rfl⟩ ⟨_,ho2,rfl⟩ PySem.F.slot_tuple_lt PySem.F.entry_tuple_lt (PySem.F.args_tuple_lt_2 _ _) (pD l b items items2 n n2 dd dd2 sl sl2 ns ms r hi hj hr)
  ⟨ho,ho2,show Value.bool r≠Value.notImplemented/\Q (.bool r) s from⟨(λx=>nomatch x),h⟩⟩ hu
noncomputable def tT:List D->Bool
 |[]=>true
 |.int _::r=>tT r
 |.str _::r=>tT r
 |_=>false
theorem kI{K:QR}{H:Hp}:∀{ds:List D}{vs:ax}{us:aP},tT ds=true->aJ K H ds vs->Vals vs us->ig us ds
 |[],vs,us,_,h,r=>by
  rw[cC]at h;subst h;cases r;exact .nil
 |d::ds,vs,us,hf,h,r=>by
  obtain⟨v,r',e,h1,h2⟩:=bh.mp h;subst e;cases r with
  |cons q1 q2=>
   cases d with
   |int i=>
    rw[gv]at h1;subst h1;obtain⟨t,rfl⟩:=q1;exact .int i t (kI hf h2 q2)
   |str x=>
    rw[fF]at h1;subst h1;obtain⟨t,rfl⟩:=q1;exact .str x t (kI hf h2 q2)
   |_=>cases hf
noncomputable def pF(a b:D):aY:=match a,b with
 |.int i,.int j=>some (.bl (decide (i<j)))
 |.str x,.str y=>some (.bl (decide (x.cps.toList<y.cps.toList)))
 |.tup xs,.tup ys=>if tT xs&&tT ys then(tP xs ys).bind λr=>some (.bl r)else none
 |_,_=>none
theorem BH(hu:X.A.units+64<Td):iZ X (SW .Lt) (rD X.K pF):=by
 rintro pins s σ H x y u v Q I rx ry ⟨O,a,b,d,hO,ha,hb,hg,q⟩;cases a with
 |int i=>
  cases b with
  |int j=>
   cases hg;exact JS pins s σ H x y u v Q I rx ry ⟨i,j,gv.mp ha,gv.mp hb,q _ H (aB.refl H) (iz.mpr rfl)⟩
  |_=>cases hg
 |str i=>
  cases b with
  |str j=>
   cases hg;exact y8 pins s σ H x y u v Q I rx ry ⟨i,j,fF.mp ha,fF.mp hb,q _ H (aB.refl H) (iz.mpr rfl)⟩
  |_=>cases hg
 |tup xs=>
  cases b with
  |tup ys=>
   obtain⟨h1,h2⟩:=ym hg;obtain⟨r,e1,e2⟩:=bind_some h2;cases e2;rw[Pt]at h1;obtain⟨p,vs,ex,g1,g2⟩:=cx.mp ha;obtain⟨p',vs',ey,g1',g2'⟩:=cx.mp hb;subst ex ey;cases rx;cases ry;obtain⟨its,r1,t1,_⟩:=I.tuple (bO (az H O) g1);obtain⟨its2,r2,t2,_⟩:=I.tuple (bO (az H O) g1');exact u5 t1 t2 (kI h1.1 g2 r1) (kI h1.2 g2' r2) e1 ‹0› (B2 I (q _ H (aB.refl H) (iz.mpr rfl)) rfl)
  |_=>cases hg
 |_=>cases hg
end
end TG
namespace TG
open PySem PySem.Spec L2
variable[al]
theorem aJ.dropLast{K:QR}{H:Hp}{ds:List D}{vs:ax}(h:aJ K H ds vs):aJ K H ds.dropLast vs.dropLast:=by
 rw[Qq,Qq,h.length];exact h.take _
structure NotIn(K:QR)(D C:Sg):Prop where
 ne:D≠C
 cls:(Ry K C).isSome=true
 ty:Rf K (.ref C)=some (.type "type")
 ins:Rz K (.ref C) (.type "type")=some true
 sub:RA K (.ref D) (.ref C)=some false
 fc:QV K (.ref D) "__class__"=some (some (.builtin "object.__class__"))
 sg:RB K (.builtin "object.__class__") "__get__"=some (some (.builtin "getset_descriptor.__get__"))
 tk:RC K (.builtin "object.__class__")=some true
 mo:RD K D (.type "object")=some true
section
open PySem.W PySem.Calls PyProof.Rows
variable{prog:Sn}{w:Sl}{A:Sw}{E:bf}{s:Sj}{K:QR}{x D C:Sg}{ox od:Obj}
theorem uI{Q:Option Se->iH}(X:K.In s.heap)(I:InstAt s.heap x ox D (some od))(cl:L2.ik K D)(n:NotIn K D C)(h:Q (some (.ref D)) {s with toks:=s.toks+1}):Sz (model prog w) A (getAttr? (.ref x) "__class__") Q E s:=by
 obtain⟨hga,hk⟩:=plainGet_of (cl.get "__class__");have hf:=findObj_data (od:=od) (name:="__class__") (by obtain⟨cd,hc,_⟩:=any_some cl.hd;rw[hc];rfl) n.fc n.sg n.tk;obtain⟨hh,g,d,t,os⟩:=s;have L0:=I.type (M:=model prog w);have L1:=T1 (M:=model prog w) X hga;have L2:=looks_find (M:=model prog w) X I hf;have L3:=T1 (M:=model prog w) X hk;unfold getAttr? getAttrBy? getAttrBy;refine SN (wpAny_mkText (SN (TY (Tr (SN (L0.at (SN (L1.at ?_))))))));show Sz _ _ (getAttrEveryday _ _ _) _ _ _;refine SN (TR (wpAny_runValue (codeAny_builtin PySem.F.plainObj_entry_getattr_hooked ?_)));refine SN (SM (SN (L0.at (SN (L2.at (SN (L3.at ?_)))))));show Sz _ _ (holding [_] (call _ [_,.ref x,.ref D]) >>= ret) _ _ _;refine SN (Tr (Tg (class_get (s:=⟨hh,g,d,t+1,os⟩) (ox:=ox) (od:=some od) X I n.mo ?_)));refine SM ?_;show Sz _ _ (handedOut (.ref D)) _ _ _;exact handed_on rfl (SM h)
theorem uC{dep:Int}{tk:Tok}{Q:PySem.Fin->iH}(X:K.In s.heap)(I:InstAt s.heap x ox D (some od))(cl:L2.ik K D)(n:NotIn K D C)(h:Q (.done (.ret (.bool false))) {s with toks:=s.toks+1}):
  Sz (model prog w) A (Builtin.«isinstance.nested» ⟨[.ref x,.ref C,.int dep tk],[]⟩) Q E s:=by
 have ca:=λ{A E}{Q:Option Se->iH}(h:Q (some (.ref D)) {s with toks:=s.toks+1})=>uI (prog:=prog) (w:=w) (A:=A) (E:=E) X I cl n h;obtain⟨hh,g,d,tt,os⟩:=s;have ht:=I.type (M:=model prog w);unfold Builtin.«isinstance.nested»;refine SN (ht.at ?_);rw[if_neg (λq=>n.ne (by have:=beq_iff_eq.mp q;cases this;rfl))];have L1:=looks_typeIn (M:=model prog w) X n.ty;have L2:=looks_instIn (M:=model prog w) X n.ins;have L4:T2 (model prog w) hh (isSubtype (.ref D) (.ref C)) false:=looks_subIn X n.sub;have L3:T2 (model prog w) hh (isInstance (.ref x) (.ref C)) false:=ht.andThen L4;refine SN (L1.at ?_);rw[if_pos (by decide)]
 k_delta "plainIsInstance"
 unfold isType
 repeat lk
 have e0:=n.cls;unfold clsIn at e0;split at e0
 ·rename_i ho;refine nd_load (X _ _ ho) (nd_pure (SM ?_));simp only[Qr,PC,if_false];refine SN (L3.at ?_);simp only[PC,if_false];refine SN (ca ?_);have e1:(clsIn K D).isSome=true:=by obtain⟨cd,hc,_⟩:=any_some cl.hd;rw[hc];rfl
  unfold clsIn at e1;split at e1
  ·rename_i ho2;refine SN (nd_load (X _ _ ho2) (SM ?_));simp only[Qr,PC,if_false];refine SN (TF ?_);refine L4.at ?_;exact SM h
  ·cases e1
 ·cases e0
theorem yY{Q:bf}(X:K.In s.heap)(I:InstAt s.heap x ox D (some od))(cl:L2.ik K D)(n:NotIn K D C)(h:Q (.bool false) {s with toks:=s.toks+1}):
  Sz (model prog w) A (call (.builtin "isinstance") [.ref x,.ref C]) Q E s:=
 call_isinstance (S:=λ_ R s=>(K.In s.heap/\InstAt s.heap x ox D (some od))/\R (.ok (.ret (.bool false))) {s with toks:=s.toks+1})
  (λ_ _ _ _ _ hs=>isinstance_outer (uC hs.1.1 hs.1.2 cl n hs.2) (λz=>nomatch z)) ⟨⟨X,I⟩,h⟩
end
noncomputable def sY(K:QR)(mg:bg)(x:Str)(yes no:ah):Prop:=∃C,mg x=some (.ref C)/\(∀c∈yes,∀D,clsAt K c D->RE K (.ref D) C=true)/\∀c∈no,∀D,clsAt K c D->ik K D/\NotIn K D C
noncomputable def jZ(yes no:ah)(d:D):aY:=match d with
 |.obj c _ _=>if yes.contains c then some (.bl true)else if no.contains c then some (.bl false)else none
 |_=>none
noncomputable def Mv(K:QR)(C:Sg):ax->Hp->VK->Prop:=λxs H Q=>∃p D dx fs,xs=[.ref p,.ref C]/\H p=some (.ins D dx fs)/\((RE K (.ref D) C=true/\Q (.bl true) H)\/(ik K D/\NotIn K D C/\Q (.bl false) H))
section
variable{X:Cx}{p pos:Pos}{e:Sh}{C:Sg}
theorem Ce:fw X (.builtin "isinstance") (Mv X.K C):=by
 rintro pins s σ H xs us Q I r ⟨p,D,dx,fs,ex,hp,hq⟩;subst ex;obtain⟨u,w',rfl,rx,rt⟩:=vals2 r;cases rx;cases rt;obtain⟨mA,om,_⟩:=nK I.hok hp;obtain⟨od,ia,_⟩:=om.look;rcases hq with⟨hi,q⟩|⟨cl,n,q⟩
 ·exact PySem.W.isi_call I.kIn (λM=>ia.type) hi (λz=>nomatch z) ⟨.bl true,H,I,rfl,q⟩
 ·exact yY I.kIn ia cl n ⟨.bl false,H,I.tok _,rfl,q⟩
end
end TG
namespace TG
open PySem PySem.Spec PyProof.Rows PySem.W L2
variable[al]
end TG
namespace TG
open PySem PySem.Spec PyProof.Rows PySem.W L2
noncomputable abbrev setG(st:SortSt)(g:Nat):SortSt:=SortSt.mk' (kindOf st) (arrOf st) (pendingOf st) g (failedOf st)
structure Jn(R:Nat->Nat->Prop)(B0 out a b:bx):Prop where
 so:out.Pairwise R
 sa:a.Pairwise R
 sb:b.Pairwise R
 la:∀x∈out,∀y∈a,R x y
 lb:∀x∈out,∀y∈b,R x y
 pm:(out++(a++b)).Perm B0
noncomputable abbrev S7:=Option (Array T3)×Array T3×Nat×Nat×Nat×Nat×Nat
section
variable{prog:Sn}{w:Sl}{A:Sw}{E:bf}{s:Sj}{κ:SortKind}{it:Array T3}{r:Nat->Nat}{N:Nat}{a b:Array Nat}{B0:bx}
noncomputable def MR(it:Array T3)(r:Nat->Nat)(B0:bx)(x:Array T3):Prop:=∃q:Array Nat,x=q.map (kas_item it)/\(q.toList.Pairwise λx y=>r x<=r y)/\q.toList.Perm B0
end
noncomputable abbrev H6:=Option (Array T3)×Nat×Nat×Array T3×Nat×Nat
noncomputable abbrev H7:=Option (Array T3)×Nat×Nat×Array T3×Nat×Nat×Nat
noncomputable abbrev H5:=Option (Array T3)×Nat×Nat×Array T3×Nat
section
variable{prog:Sn}{w:Sl}{A:Sw}{E:bf}{s:Sj}{κ:SortKind}{it:Array T3}{r:Nat->Nat}{N:Nat}{a b:Array Nat}{B0:bx}{st:SortSt}
noncomputable abbrev JH(r:Nat->Nat)(B0:bx)(a b out:Array Nat)(na nb:Nat):Prop:=Jn (λx y=>r y<=r x) B0 out.toList (a.toList.take na).reverse (b.toList.take nb).reverse
noncomputable def K7(it:Array T3)(r:Nat->Nat)(B0:bx)(a b:Array Nat)(m:Nat)(c:H7):Prop:=∃out na nb mg ac bc,c=(none,na,nb,out.map (kas_item it),mg,ac,bc)/\JH r B0 a b out na nb/\0<na/\1<nb/\na<=a.size/\nb<=b.size/\na+nb+m<=a.size+b.size
noncomputable abbrev F7(it : Array T3)(r : Nat -> Nat)(B0 : bx)(a b : Array Nat)(m : Nat)(st : SortSt)(c : ForInStep H7)(st' : SortSt): Prop := (∃ g, st' = setG st g) /\ match c with
      |.done c=>(∃x,c.1=some x/\MR it r B0 x)\/K7 it r B0 a b m c
      |.yield c=>K7 it r B0 a b m c
end
variable[al]
end TG
namespace TG
open PySem PySem.Spec PyProof.Rows PySem.W L2
variable[al]
end TG
namespace TG
open PySem PySem.Spec PyProof.Rows PySem.W L2
variable[al]
end TG
namespace TG
open PySem PySem.Spec PyProof.Rows PySem.W L2
variable[al]
end TG
namespace TG
open PySem PySem.Spec PyProof.Rows PySem.W L2
variable[al]
end TG
namespace TG
open PySem PySem.Spec L2
variable[al]
noncomputable def Km(x:Str):It:=⟨λi _=>i<x.cps.size,λi H v H'=>H'=H/\∃c,x.cps[i]?=some c/\v=.str ⟨#[c]⟩,λi _=>x.cps.size<=i⟩
theorem Bu{P:Sn}{w:Sl}{K:QR}{tg:Sh}{ty:String}(hty:ty="str_ascii_iterator"\/ty="str_iterator")(x:Str)(t:Tok)(it:Sg):Turn P w K tg (Km x) [it] it (λi h=>h.IsStrIter it ty x t i)where
 mem:=by simp
 obj:=λi h st b hb=>by
  have e:b=it:=by simpa using hb
  subst e;obtain⟨o,e,c,d⟩:=st;exact⟨o,e,λv z=>by rw[d]at z;cases z⟩
 keep:=λi h h' st k=>by
  obtain⟨o,e,r⟩:=st;exact⟨o,k it (by simp) o e,r⟩
 item:=by
  intro X hP hw hK hc i pins s σ H E I hf st hg;subst hP hw hK;obtain⟨f0,f1,f2,f3,f4,f5⟩:=hf it (by simp);have hg':i<x.cps.size:=hg;have hx:x.cps[i]?=some x.cps[i]:=by simp
  have hn:(["enumerate","zip","dict_itemiterator","dict_reverseitemiterator","odict_iterator","itertools.zip_longest","itertools.pairwise"].contains ty)=false:=by rcases hty with rfl|rfl<;>decide
  have key:∀h',h'.IsStrIter it ty x t (i+1)->RO it s.heap h'->∃u,some (Value.str ⟨#[x.cps[i]]⟩ s.toks)=some u/\
   Sz (model X.prog X.w) X.A (letOwnedTupleGo tg (.ref it) u) (λ_ s2=>∃x1 H',Inv X pins σ H' s2/\RelV x1 u/\(Km x).yld i H x1 H'/\s2.heap.IsStrIter it ty x t (i+1)/\∀b∈[it],H' b=none) E {s with heap:=h',toks:=s.toks+1}:=by
   intro h' st' sb;have I1:Inv X pins σ H {s with heap:=h',toks:=s.toks+1}:=I.turned (λb o hb e=>(sb.2 b hb).trans e) f0 f1 f3 f4 f5;obtain⟨o,e,c,d⟩:=id st';exact⟨_,rfl,ux (s:={s with heap:=h',toks:=s.toks+1}) e c d hn ⟨.str ⟨#[x.cps[i]]⟩,H,I1,⟨_,rfl⟩,⟨rfl,_,hx,rfl⟩,st',λb hb=>(hf b hb).1⟩⟩
  rcases hty with rfl|rfl
  ·exact T4 st hx key
  ·exact wpAny_pyNext_wide_item st hx key
 done:=by
  intro X hP hw hK hc i pins s σ H E I hf st hg;subst hP hw hK;obtain⟨f0,f1,f2,f3,f4,f5⟩:=hf it (by simp);have hx:x.cps[i]?=none:=by have:x.cps.size<=i:=hg;simp[this]
  rcases hty with rfl|rfl
  ·exact wpAny_pyNext_ascii_end (I.ok.hd hc) st hx λh' eb=>⟨rfl,I.turned (t':=s.toks) (λb o hb e=>eb b o hb e) f0 f1 f3 f4 f5⟩
  ·exact wpAny_pyNext_wide_end (I.ok.hd hc) st hx λh' eb=>⟨rfl,I.turned (t':=s.toks) (λb o hb e=>eb b o hb e) f0 f1 f3 f4 f5⟩
 self:=λ_ _ _ _ _ st h=>by
  rcases hty with rfl|rfl
  ·exact wpAny_pyIter_striter_ascii st h
  ·exact wpAny_pyIter_striter_wide st h
section
variable{X:Cx}{tg:Sh}
noncomputable def K1(tl:TE):TI:=λσ H R=>tl σ H λx H1=>∃z,x=.str z/\R (Km z) H1
theorem GN{l:Sh}{tl:TE}(hl:PE X l tl):PI X tg l (K1 tl):=by
 intro pins s σ H R I h;refine dj (hl pins s σ H _ I h) λv s1 zq=>zq.elim λx zq=>zq.elim λH1 zq=>zq.elim λI1 zq=>zq.elim λr1 q1=>?_;obtain⟨z,e,q⟩:=q1;subst e;obtain⟨t,rfl⟩:=r1;have fin:∀ty,(ty="str_ascii_iterator"\/ty="str_iterator")->PIE X pins σ tg R (.ref s1.heap.objs.size) {s1 with heap:=s1.heap.push {cls:=.type ty,data:=.fields #[.str z t,.int 0 0]}}:=λty hty=>
  ⟨s1.heap.objs.size,[s1.heap.objs.size],_,_,H1,rfl,I1.kept (t':=s1.toks) fun b o e=>RP _ e,Bu hty z t _,⟨_,RM _ rfl,rfl,rfl⟩,fun b hb=>by
   have e:b=s1.heap.objs.size:=(by simpa using hb);subst e;exact I1.fpOk (OZ _) (I1.hok.fresh (OZ _)),q⟩
 cases ha:z.cps.all (·<128)
 ·exact wpAny_pyIter_wide ha (fin _ (.inr rfl))
 ·exact wpAny_pyIter_ascii ha (fin _ (.inl rfl))
noncomputable def xm(x:Str):List D:=x.cps.toList.map λc=>.str ⟨#[c]⟩
theorem zK{K:QR}{Hd:Hp}(x:Str):Walk K Hd (Km x) (xm x):=λHn O' i hO s=>
  ⟨fun d e=>by
    unfold xm at e;rw[Pm]at e;cases hi:x.cps.toList[i]? with
    |none=>rw[hi]at e;cases e
    |some c=>
      rw[hi]at e;cases e;have hi':x.cps[i]?=some c:=(by simpa using hi);have hlt:i<x.cps.size:=(Array.getElem?_eq_some_iff.mp hi').1;refine⟨hlt,λv H2 zq=>zq.elim λe1 zq=>zq.elim λc' zq=>zq.elim λe2 e3=>?_⟩;rw[hi']at e2;cases e2;subst e1;exact⟨aB.refl _,fF.mpr e3⟩,
   λhl=>by
    have:(xm x).length=x.cps.size:=(by unfold xm;simp);show x.cps.size<=i
    omega⟩
noncomputable def Ak:D->Option (List D)
 |.str x=>some (xm x)
 |_=>none
noncomputable def gu(f:FX):aC:=λρ=>(f ρ).bind λd=>rO (Ak d)
noncomputable def AA(x y:Str):Bool:=!(Builtin.Str.occurrences x y 0 x.length 1).isEmpty
noncomputable def rM(a b:D):aY:=match a,b with
 |.str y,.str x=>some (.bl (AA x y))
 |_,_=>none
theorem Bs:iZ X (SW .In) (rD X.K rM):=oW λpins s σ H a b d x y u v I ha hb ru rv hg=>by
 cases a with
 |str z1=>
  cases b with
  |str z2=>
   cases hg;rw[fF.mp ha]at ru;rw[fF.mp hb]at rv;obtain⟨t,rfl⟩:=ru;obtain⟨t2,rfl⟩:=rv;exact⟨_,rfl,λQ q=>PySem.P.in_str q⟩
  |_=>cases hg
 |_=>cases hg
end
end TG
namespace TG
open PySem PySem.Spec L2
variable[al]
end TG
namespace TG
open PySem PySem.Spec L2
variable[al]
end TG
namespace TG
open PySem PySem.Spec L2
variable[al]
end TG
namespace TG
open PySem PySem.Spec L2
variable[al]
end TG
namespace TG
open PySem PySem.Spec PySem.W PySem.Calls PyProof.Rows Builtin Builtin.ObjectAttr Builtin.Getset_descriptor
variable[al]
section
variable{prog:Sn}{w:Sl}{A:Sw}{E:Se->Sj->Prop}{s:Sj}{K:Frag}{x D:Sg}{ox:Obj}{R:S6->Sj->Prop}
theorem zV{M:Sy}{h:Sr}(X:K.In h)(q1:findIn K (.ref D) "__class__"=some (some (.builtin "object.__class__")))(q2:specialIn K (.builtin "object.__class__") "__get__"=some (some (.builtin "getset_descriptor.__get__")))(q3:takesIn K (.builtin "object.__class__")=some true):
  T2 M h (find (.ref x) (.ref D) "__class__") (.bind (.builtin "getset_descriptor.__get__") (.builtin "object.__class__")):=by
 have y1:=T1 (M:=M) X q1;have y2:T2 M h (getOf (some (.builtin "object.__class__"))) (some (.builtin "getset_descriptor.__get__")):=looks_specialIn X q2;have y3:=looks_takesIn (M:=M) X q3;refine y1.andThen (y2.andThen ?_);refine Looks.andThen (a:=some (.builtin "getset_descriptor.__get__",.builtin "object.__class__")) (y3.andThen .now) ?_;exact Looks.tag .now
theorem C6{tp:Se}(y0:T2 (model prog w) s.heap (typeOf (.ref x)) (.ref D))(y1:T2 (model prog w) s.heap (isSubtype (.ref D) (.type "object")) true)(h:R (.ok (.ret (.ref D))) s):
  S8 (model prog w) A (.call (.builtin "getset_descriptor.__get__") ⟨[.builtin "object.__class__",.ref x,tp],[]⟩) R s:=by
 obtain⟨h₁,g₁,d₁,t₁,o₁⟩:=s;refine TZ KF.slot_gs.plain KF.entry_gs
  (KF.slot_gs.check _ _ _ _ _ _ _ _ KF.type_class (KF.args_gs _ _ _) ?_)
 unfold Builtin.«getset_descriptor.__get__»;unfold descrGet;rw[dga_obj];refine SN (SM ?_);unfold descrGetter descrCheckInstance;unfold descrNameAndClass isInstance;simp only[KF.owner_class]
 repeat lk
 refine⟨Code.quiet_builtin _ (by decide +kernel),
  codeAny_builtin KF.entry_class ?_⟩
 unfold Builtin.«object.__class__»;unfold shownTypeOf
 repeat lk
 exact h
structure ya(K:Frag)(D:Sg):Prop where
 ga:findIn K (.ref D) "__getattribute__"=some (some (.builtin "BaseException.__getattribute__"))
 gn:findIn K (.ref D) "__getattr__"=some none
 fc:findIn K (.ref D) "__class__"=some (some (.builtin "object.__class__"))
 sg:specialIn K (.builtin "object.__class__") "__get__"=some (some (.builtin "getset_descriptor.__get__"))
 tk:takesIn K (.builtin "object.__class__")=some true
 ob:mroIn K D (.type "object")=some true
 be:mroIn K D (.type "BaseException")=some true
theorem zh{Q:Option Se->Sj->Prop}(Z:ya K D)(X:K.In s.heap)(y0:∀M,T2 M s.heap (typeOf (.ref x)) (.ref D))(h:Q (some (.ref D)) {s with toks:=s.toks+1}):Sz (model prog w) A (getAttr? (.ref x) "__class__") Q E s:=by
 obtain⟨hh,g,d,t,os⟩:=s;have L0:=y0 (model prog w);have L1:=T1 (M:=model prog w) X Z.ga;have L2:=T1 (M:=model prog w) X Z.gn;have L3:=looks_mroIn (M:=model prog w) X Z.be;have L4:=zV (M:=model prog w) (x:=x) X Z.fc Z.sg Z.tk;have L5:=looks_mroIn (M:=model prog w) X Z.ob;unfold getAttr? getAttrBy? getAttrBy;refine SN (wpAny_mkText (SN
  (TY (Tr (SN (L0.at (SN (L1.at ?_))))))))
 show Sz _ _ (getAttrByItsOwn _ _ _ _ _ _) _ _ _;unfold getAttrByItsOwn;refine SN ?_;show Sz _ _ (typeLookup (Value.ref D) "__getattr__") _ _ _;refine L2.at ?_;refine SN (TY (Tr ?_));show Sz _ _ (boundAndCalled _ _ _) _ _ _;unfold boundAndCalled;rw[PySem.F.attrBase_ValueError.ga.bind (.ref x)];refine SN (SM ?_);have ha:=F.args_bexc_ga (.ref x) (Value.str (Str.ofString "__class__") t);have hk:builtinKind "BaseException.__getattribute__"=some .slot:=by
  decide +kernel
 have hsplit:splitId "BaseException.__getattribute__"=some ("BaseException","__getattribute__"):=by
  decide +kernel
 refine Tg (TZ PySem.F.attrBase_ValueError.ga.plain F.entry_bexc_ga ?_);have LI:T2 (model prog w) hh (isInstance (.ref x) (.type "BaseException")) true:=L0.andThen L3;have hT:∀A' (Q':Unit->Sj->Prop) E',Q' () ⟨hh,g,d,t+1,os⟩->Sz (model prog w) A' (checkBuiltinCall "BaseException.__getattribute__" ⟨[.ref x,Value.str (Str.ofString "__class__") t],[]⟩) Q' E' ⟨hh,g,d,t+1,os⟩:=λA' Q' E' hq=>by
  simp only[checkBuiltinCall,hk,hsplit];refine SN (LI.at ?_)
  repeat (first|exact hq|wp_step)
 refine hT _ _ _ ?_;show Sz _ _ (Builtin.«object.__getattribute__» ⟨[.ref x,Value.str (Str.ofString "__class__") t],[]⟩) _ _ _;unfold Builtin.«object.__getattribute__»;refine SN (SM ?_);refine SN (SM ?_);refine SN (L0.at ?_);refine SN (L4.at ?_);show Sz _ _ (Builtin.ObjectAttr.bindTo (.builtin "getset_descriptor.__get__") (.builtin "object.__class__") (.ref x) (.ref D)) _ _ _;unfold Builtin.ObjectAttr.bindTo;dsimp only;refine SN (Tr (Tg (C6 (s:=⟨hh,g,d,t+1,os⟩) L0 L5 ?_)));exact SM (handed_on rfl (SM h))
theorem CF(F:ya K D):KitX K (.ref x) (.ref D) (λh=>∃o,h.get? x=some o/\o.cls=.ref D):=by
 have cl:∃c d cd sl,K.lookup D=some ⟨c,d,.cls cd,sl⟩:=by
  have z:=F.fc;unfold findIn at z;dsimp only at z;split at z
  ·rename_i ho;exact⟨_,_,_,_,ho⟩
  ·cases z
 have ty:∀(M:Sy)(h:Sr),(∃o,h.get? x=some o/\o.cls=.ref D)->T2 M h (typeOf (.ref x)) (.ref D):=λM h ⟨o,e,c⟩=>c ▸ (Looks.ld e).andThen .now;refine⟨λM h _ I=>ty M h I,λM h X _=>?_,λh tp dd its n sl X htp=>?_,λX I k=>zh F X (λM=>ty M _ I) k⟩
 ·obtain⟨c,d,cd,sl,ho⟩:=cl;intro A' Q' E' s' k q;unfold isType loadHead;exact SN (wpAny_loadPart (k _ _ (X _ _ ho)) (SM q))
 ·obtain⟨c,d,cd,sl,ho⟩:=cl;cases hb:(Value.ref D==Value.ref tp)with
  |false=>rfl
  |true=>
   have e:D=tp:=Value.ref.inj (beq_iff_eq.mp hb);subst e;cases(X _ _ ho).symm.trans htp
end
end TG
namespace TG
open PySem PySem.Spec PySem.W PySem.Calls PyProof.Rows Builtin Builtin.ObjectAttr Builtin.Getset_descriptor
end TG
namespace TG
open PySem PySem.Spec L2
variable[al]
open PyProof.Rows (AllBare OwnCls)
section
variable{X:Cx}{pins:aM}{σ:St}{H:Hp}{s:Sj}{h':Sr}
theorem wV(I:Inv X pins σ H s)(hx:X.ex=[])(hst:X.stack=X.env::X.outer)(hf:X.env.frame=some X.env.locals)(hfn:∀x,X.fn x=true)(us:s.heap.UpToSlots h')(k:∀b o,s.heap.get? b=some o->gV X H b->b∉frs X.stack->h'.get? b=some o):
  Inv X [] σ H {s with heap:=h'}:=by
 have un:=vV I hx hst hf us k;have cellF:∀x c,X.env.cells.lookup x=some c->c∉frs X.stack:=λx c e z=>by
  obtain⟨v,o,q,d⟩:=I.cell x c e;rw[hst]at z;have z':c∈X.env.locals::frs X.outer:=by
   have:frs (X.env::X.outer)=X.env.locals::frs X.outer:=(by show List.filterMap _ (_::_)=_;rw[OQ,hf];rfl);rw[this]at z;exact z
  rcases List.mem_cons.mp z' with z|z
  ·obtain⟨m,⟨o2,es,ep,e2,d2,_⟩,_⟩:=I.loc;rw[<-z,q]at e2;cases e2;rw[d]at d2;cases d2
  ·obtain⟨_,o2,e2,_⟩:=I.ok.funs.mem z;exact OJ _ (OI (RN e2) (I.ok.cab x c (hfn x) e))
 have cellK:∀x c v,X.env.cells.lookup x=some c->s.heap.IsCell c v->h'.IsCell c v:=λx c v e zq=>zq.elim λo zq=>zq.elim λq d=>⟨o,k c o q (.inr (.inr (.inr ⟨x,e⟩))) (cellF x c e),d⟩
 obtain⟨m,hn,hl⟩:=I.loc;refine⟨I.ok,I.os,I.bare,by rw[hx];exact un,⟨m,us.ns hn,λi x v e1 e2 e3=>?_⟩,λx c e=>?_,I.free,I.freeC,λp hp=>?_,rj I k,I.len⟩
 ·obtain⟨u,r,q⟩:=hl i x v e1 e2 e3;refine⟨u,r,?_⟩;rcases q with q|⟨q1,c,q2,q3⟩
  ·exact .inl q
  ·exact .inr ⟨q1,c,q2,cellK x c _ q2 q3⟩
 ·obtain⟨v,q⟩:=I.cell x c e;exact⟨v,cellK x c v e q⟩
 ·rw[Pa]at hp;obtain⟨e,n,ne,nf,d⟩:=I.pin p (OU _ hp);have nfs:p.1∉frs X.stack:=λz=>by
   have:frs X.stack=X.env.locals::frs X.outer:=(by rw[hst];show List.filterMap _ (_::_)=_;rw[OQ,hf];rfl);rw[this]at z;rcases List.mem_cons.mp z with z|z
   ·exact ne z
   ·exact nf z
  exact⟨k _ _ e (.inr (.inr (.inl ⟨p.2,hp⟩))) nfs,n,ne,nf,d⟩
theorem yi{e C:Sg}{oe:Obj}(I:Inv X pins σ H s)(hx:X.ex=[])(hn:H e=none)(he:s.heap.get? e=some oe)(hc:oe.cls=.ref C)(hno:Rv oe=true)(h0:X.s₀.heap.get? e=none)(hL:e≠X.env.locals)(hcl:∀x,X.env.cells.lookup x≠some e)(hp:∀p∈X.pn++pins,p.1≠e):
  Inv X pins σ (upd H e (.ext (vd C e oe.dict))) s:=by
 have ne:∀b u,H b=some u->b≠e:=λb u q z=>by rw[z,hn]at q;cases q
 have U:=I.base;refine⟨I.ok,I.os,I.bare,⟨U.keep,U.slot,λb o q n nx=>?_,U.there,λb xs q=>?_,λb o u q=>?_,λb ps q=>?_⟩,I.loc,I.cell,?_,λx c q=>?_,λp q=>?_,λa o q=>?_,I.len⟩
 ·rw[av λz=>by rw[z,h0]at q;cases q];exact U.free b o q n nx
 ·have:=U.tups b xs q;rw[av (ne _ _ this)];exact this
 ·have:=U.frzs b o u q;rw[av (ne _ _ this)];exact this
 ·obtain⟨more,z⟩:=U.tbls b ps q;exact⟨more,by rw[av (ne _ _ z)];exact z⟩
 ·rw[av hL.symm];exact I.free
 ·rw[av λz=>hcl x (by rw[<-z];exact q)];exact I.freeC x c q
 ·obtain⟨a1,a2,a3⟩:=I.pin p q;exact⟨a1,by rw[av (hp p q)];exact a2,a3⟩
 ·by_cases z:a=e
  ·subst z;rw[aT]at q;cases q;exact⟨⟨oe,he,hc,rfl,hno⟩,⟨oe,he⟩,λ_ _ h1 h2 ⟨o,q1,q2⟩ _ k=>⟨o,k _ o (.inl rfl) q1,q2⟩⟩
  ·rw[av z]at q;exact(I.hok a o q).stay (λb u _ q=>q) (λb q=>by rw[av (ne _ _ q)];exact q) λb xs q=>by rw[av (ne _ _ q)];exact q
end
abbrev KW:aP:=[.type "ValueError",.type "Exception",.type "BaseException",.type "object"]
noncomputable def clsOf:Data->Option ClassData
 |.cls k=>some k
 |_=>none
theorem G9{d:Data}{k:ClassData}(h:clsOf d=some k):d=.cls k:=by cases d<;>cases h;rfl
theorem A4{α:Type}{p:α->Bool}:∀{o:Option α},o.any p=true->∃a,o=some a/\p a=true
 |some a,h=>⟨a,rfl,h⟩
theorem six{α:Type}:∀{l:List α},l.length=6->∃a b c d e f,l=[a,b,c,d,e,f]
 |[a,b,c,d,e,f],_=>⟨a,b,c,d,e,f,rfl⟩
noncomputable def KL(K:QR)(C:Sg)(i:Option Se):Bool:=(K.lookup C).any λo=>o.cls==.type "type"&&((o.slots.toList.length==6&&o.slots.toList[4]?==some (some (.builtin "ValueError.__new__")))&&(clsOf o.data).any λk=>k.mro.head?==some (.ref C)&&(!k.hasDel&&(RF K KW k.mro.tail&&(RG K k.ns&&Ru K k.ns "__init__"==some i))))
theorem Fs{K:QR}{C:Sg}{i:Option Se}(q:KL K C i=true):∃nm qn N bs bm hd sn sub ab col dd k0 k1 k2 k3 k5,K.lookup C=some (excClassObj nm qn C N bs bm hd sn sub ab col dd k0 k1 k2 k3 k5 "ValueError.__new__")/\RF K KW bm=true/\RG K N=true/\Ru K N "__init__"=some i:=by
 obtain⟨⟨cl,od,da,⟨l⟩⟩,look,q⟩:=A4 q;simp only[Pt,beq_iff_eq]at q;obtain⟨rfl,⟨h1,h2⟩,q⟩:=q;obtain⟨k,hk,q⟩:=A4 q;simp only[Pt,beq_iff_eq,Qs]at q;obtain⟨y1,y3,y4,y5,y6⟩:=q;obtain⟨s0,s1,s2,s3,s4,s5,rfl⟩:=six h1;cases h2;cases G9 hk;obtain⟨d1,d2,d3,d4,d5,d6,d7,d8,d9,d10,d11⟩:=k;cases d3 with
 |nil=>cases y1
 |cons v bm=>
  cases y1;cases y3;exact⟨d1,d5,d4,d2,bm,d6,d7,d8,d9,d10,od,s0,s1,s2,s3,s5,look,y4,y5,y6⟩
theorem xk{K:QR}{h:Sr}{C:Sg}(X:K.In h)(q:KL K C none=true)(x:Str):OwnCls x C KW "ValueError.__new__" (λ_=>some (.ref C)) h:=by
 obtain⟨d1,d5,d4,d2,bm,d6,d7,d8,d9,d10,od,s0,s1,s2,s3,s5,look,y4,y5,y6⟩:=Fs q;exact⟨rfl,bm,d4,d1,d5,d2,d6,d7,d8,d9,d10,od,s0,s1,s2,s3,s5,_,X _ _ look,.of_isNs (PySem.W.isNs_of_in X y5),PySem.W.nsMap_none_of_in X y5 y6,PySem.W.tail_of_in X y4⟩
noncomputable def ExcAt(K:QR)(mg:bg)(x:Str):Prop:=∃C,clsAt K x C/\mg x=some (.ref C)/\KL K C none=true
noncomputable def eF(c:Str)(f:aC):aS:=λk ρ=>km (f ρ) k ρ λds=>if small ds.length then k.ex ⟨c,[],[]⟩ ρ else un
theorem lI{base B h h':Sr}(k:∀b o,h.get? b=some o->h'.get? b=some o):∀{l:List Env},(∀b∈frs l,B.get? b=none)->h.FunFrames base l->h'.FunFrames B l
 |[],_,_=>trivial
 |env::l,hb,⟨h1,⟨L,o,h2,_,h3,h4⟩,h5⟩=>by
  have mem:L∈frs (env::l):=by show L∈List.filterMap _ (_::_);rw[OQ,h2];exact OS
  refine⟨h1,⟨L,o,h2,hb L mem,k _ _ h3,h4⟩,lI k (λb z=>hb b ?_) h5⟩;show b∈List.filterMap _ (_::_);rw[OQ,h2];exact OT _ z
section
variable{X:Cx}{pos:Pos}
theorem t0{pins:aM}{σ:St}{H:Hp}{s:Sj}{h':Sr}{e C:Sg}{us:aP}(I:Inv X pins σ H s)(m:Heap.MadeExcOf s.heap h' e (.ref C) us):wq X H {s with heap:=h'} e C none:=by
 have hd:∀b o,(mi s.heap (λb=>if b∈frs X.stack then some (.tup [])else none)).get? b=some o->s.heap.get? b=some o/\b∉frs X.stack:=λb o q=>by
  obtain⟨q1,q2⟩:=wU q;refine⟨q1,λz=>?_⟩;rw[if_pos z]at q2;cases q2
 obtain⟨t,m1,m2,m3⟩:=m.there;refine⟨λoe q=>by rw[m1]at q;cases q;rfl,mi s.heap (λb=>if b∈frs X.stack then some (.tup [])else none),.ref t,λb o q=>m.keeps b o (hd b o q).1,?_,lI m.keeps (λb hb=>?_) I.stack,.inr ⟨_,_,m1,rfl,rfl,rfl,rfl⟩,λb o q kb nf=>?_⟩
 ·cases q:(mi s.heap (λb=>if b∈frs X.stack then some (.tup [])else none)).get? e with
  |none=>rfl
  |some o=>have:=(hd e o q).1;rw[m.new]at this;cases this
 ·cases q:(mi s.heap (λb=>if b∈frs X.stack then some (.tup [])else none)).get? b with
  |none=>rfl
  |some o=>exact absurd hb (hd b o q).2
 ·obtain⟨o1,e1⟩:∃o1,s.heap.get? b=some o1:=by
   rcases kb with⟨⟨o0,z⟩,nx⟩|z|⟨o0,z⟩|⟨y,z⟩
   ·exact I.base.there b o0 z nx
   ·cases q0:H b with
    |none=>exact absurd q0 z
    |some ob=>exact u6 (I.hok b ob q0)
   ·exact⟨_,(I.pin _ (OU _ z)).1⟩
   ·obtain⟨v,o0,z0,_⟩:=I.cell y b z;exact⟨o0,z0⟩
  have:=m.keeps b o1 e1
  rw[show h'.get? b=some o from q]at this;cases this;exact uw e1 (if_neg nf)
end
end TG
namespace TG
open PySem PySem.Spec L2
variable[al]
noncomputable abbrev ug(X:Cx)(E:bf)(pn:aM):Cx:={X with xe:=E,pn:=pn}
noncomputable abbrev pB(X:Cx)(A:Sw)(pn:aM):Cx:={X with A:=A,xe:=λ_ _=>False,calm:=false,pn:=pn}
section
variable{X:Cx}{pins:aM}{σ:St}{H:Hp}{s:Sj}{E:bf}{A:Sw}
theorem DW(I:L2.Inv X pins σ H s)(E:bf):L2.Inv (ug X E (X.pn++pins)) [] σ H s:=
 ⟨⟨I.ok.mod,I.ok.kind,I.ok.glob,I.ok.blt,I.ok.above,I.ok.inj,I.ok.has,I.ok.cab,I.ok.hd,I.ok.frames,I.ok.stk,I.ok.exf,I.ok.bs,I.ok.bsz,I.ok.noex,I.ok.exfs,I.ok.funs,I.ok.frf⟩,
  I.os,I.bare,I.base,I.loc,I.cell,I.free,I.freeC,λp hp=>I.pin p (by simpa using hp),I.hok,I.len⟩
theorem jj{E':bf}{A':Sw}{c':Bool}(ok:X.Ok)(I:L2.Inv {X with A:=A',xe:=E',calm:=c',pn:=X.pn++pins} [] σ H s):L2.Inv X pins σ H s:=
 ⟨ok,I.os,I.bare,I.base,I.loc,I.cell,I.free,I.freeC,λp hp=>I.pin p (by simpa using hp),I.hok,I.len⟩
theorem uh{pn:aM}{ps:aM}(I:L2.Inv (ug X E pn) ps σ H s)(hA:A.frames=X.A.frames):L2.Inv (pB X A pn) ps σ H s:=
 ⟨⟨I.ok.mod,I.ok.kind,I.ok.glob,I.ok.blt,I.ok.above,I.ok.inj,I.ok.has,I.ok.cab,(fun z=>nomatch z),by rw [show (pB X A pn).A=A from rfl,hA]; exact I.ok.frames,I.ok.stk,I.ok.exf,I.ok.bs,I.ok.bsz,I.ok.noex,I.ok.exfs,I.ok.funs,I.ok.frf⟩,
  I.os,I.bare,I.base,I.loc,I.cell,I.free,I.freeC,I.pin,I.hok,I.len⟩
theorem zv{i:Nat}{n:Str}{v:Option Se}{m:bg}{h9:Sr}{t:Nat}(I:L2.Inv X pins σ H s)(hN:X.N.Nodup)(hi:X.N[i]?=some n)(hn:s.heap.Ns X.env.locals m)
  (hl:∀(i:Nat)(x:Str)(v:V),X.N[i]?=some x->σ[i]?=some (some v)->H0 X.env.scope x->∃u,RelV v u/\Look X.env s.heap m x u)
  (ns:h9.Ns X.env.locals (λx=>if x=n then v else m x)) (sb:RO X.env.locals s.heap h9):L2.Inv X pins (σ.set i none) H {s with heap:=h9,toks:=t}:=by
 have old:∀b o,X.s₀.heap.get? b=some o->b≠X.env.locals:=λb o q z=>by
  have h1:=RN q;rw[z]at h1;exact OJ _ (OI h1 I.ok.above)
 have go:∀b o,b≠X.env.locals->s.heap.get? b=some o->h9.get? b=some o:=λb o ne q=>(sb.2 b ne).trans q;have cne:∀c w,s.heap.IsCell c w->c≠X.env.locals:=λc w ⟨o,q,d⟩ z=>by
  obtain⟨o2,es,ep,e2,d2,_⟩:=hn;rw[z,e2]at q;cases q;rw[d2]at d;cases d
 have U:=I.base;refine⟨I.ok,I.os,I.bare,⟨λb o q n nb nx=>go b o (old b o q) (U.keep b o q n nb nx),λb o q n nb nx=>?_,U.free,λb o q nx=>?_,U.tups,U.frzs,U.tbls⟩,⟨_,ns,λj y v' e1 e2 e3=>?_⟩,λx c q=>?_,I.free,I.freeC,λp hp=>?_,λa o q=>?_,by rw[P8];exact I.len⟩
 ·obtain⟨sl,z⟩:=U.slot b o q n nb nx;exact⟨sl,go b _ (old b o q) z⟩
 ·obtain⟨o1,z⟩:=U.there b o q nx;exact⟨o1,go b _ (old b o q) z⟩
 ·by_cases hj:j=i
  ·subst hj;have hlt:j<σ.length:=(by rw[I.len];exact(List.getElem?_eq_some_iff.mp hi).1);rw[OV hlt]at e2;cases e2
  ·rw[OW (Ne.symm hj)]at e2;have hy:y≠n:=λz=>by
    subst z;obtain⟨l1,g1⟩:=List.getElem?_eq_some_iff.mp e1;obtain⟨l2,g2⟩:=List.getElem?_eq_some_iff.mp hi;exact hj (List.getElem_inj hN |>.mp (g1.trans g2.symm))
   obtain⟨u,r,q⟩:=hl j y v' e1 e2 e3;refine⟨u,r,?_⟩;rcases q with⟨q1,q2⟩|⟨q1,c,q2,q3⟩
   ·exact .inl ⟨q1,by show(if y=n then v else m y)=some u;rw[if_neg hy];exact q2⟩
   ·obtain⟨o,z1,z2⟩:=id q3;exact .inr ⟨q1,c,q2,o,go c o (cne c _ q3) z1,z2⟩
 ·obtain⟨w,z⟩:=I.cell x c q;obtain⟨o,z1,z2⟩:=id z;exact⟨w,o,go c o (cne c _ z) z1,z2⟩
 ·obtain⟨e,n',ne,r⟩:=I.pin p hp;exact⟨go _ _ ne e,n',ne,r⟩
 ·refine(I.hok a o q).stay (λb u hb z=>go b u (λw=>?_) z) (λ_ q=>q) λ_ _ q=>q;have hz:=I.free;rw[<-w]at hz;rcases hb with e|e
  ·rw[e,q]at hz;cases hz
  ·rw[e]at hz;cases hz
theorem xR{e C:Sg}{dx:Option Sg}(fl:wq X H s e C dx):∃oe vs,s.heap.get? e=some oe/\oe.cls=.ref C/\oe.data=.fields vs:=by
 obtain⟨_,B,a0,_,_,_,b4,_⟩:=fl;rcases b4 with⟨oe,vs,T,oT,ts,h1,h2,h3,_⟩|⟨oe,vs,h1,h2,h3,_⟩
 ·exact⟨oe,vs,h1,h2.1,h3⟩
 ·exact⟨oe,vs,h1,h2,h3⟩
theorem As{M:Sy}{e C:Sg}{dx:Option Sg}{Q:Unit->iH}(hfr:A.frames=some X.stack)(hst:X.stack=X.env::X.outer)(hf:X.env.frame=some X.env.locals)(fl:wq X H s e C dx)
  (hQ:∀B a0 h',Heap.HeldW B X.stack e (.ref C) a0 X.env.locals h'->s.heap.UpToSlots h'->(∀b o,s.heap.get? b=some o->gV X H b->b∉frs X.stack->B.get? b=some o)->DS s.heap h'->Q () {s with heap:=h'}):
  Sz M A (noteFrame (.ref e) X.env) Q E s:=by
 obtain⟨_,B,a0,b1,b2,b3,b4,b5⟩:=fl;rw[hst]at hfr b3;refine DP.go (wn _ _) (P:=λh'=>Heap.HeldW B X.stack e (.ref C) a0 X.env.locals h'/\s.heap.UpToSlots h') ?_ λh' z ds=>hQ B a0 h' z.1 z.2 b5 ds;rcases b4 with b4|⟨oe,vs,c1,c2,c3,c4,c5⟩
 ·exact wpAny_looks_onW hfr hf ⟨b1,b2,b3,b4⟩ λh' hd us=>⟨h',rfl,by rw[hst];exact hd,us⟩
 ·unfold noteFrame;simp only[hf];refine SN (Tq c1 c3 c4 ?_);rw[if_neg (by decide)];refine wpAny_entryW hfr b3 hf c1 b1 b2 c3 (Array.getElem?_eq_some_iff.mp c4).1 c5 λh' hN=>?_;obtain⟨k1,k2,k3,k4⟩:=hN;exact⟨h',rfl,⟨k1,b2,by rw[hst];exact k2,c2 ▸ k3⟩,k4⟩
end
theorem bi.unset{K:QR}{Hb:Hp}{Ob O:ap}{H:Hp}{ρ:ak}{σ:St}(T:bi K Hb Ob O H ρ σ)(i:Nat):bi K Hb Ob O H (ρ.set i none) (σ.set i none):=by
 have key:∀(j:Nat)(x:S),(ρ.set i none)[j]?=some (some x)->j≠i/\ρ[j]?=some (some x):=λj x e=>by
  rcases aG e with⟨_,q⟩|⟨ne,q⟩
  ·cases q
  ·exact⟨ne,q⟩
 refine⟨⟨λj d e=>?_,λj d e=>?_,λj l xs ys a e1 e2 e3 e4=>?_,T.env.all⟩,T.base,λj xs a e1 e2=>?_,λj dn e=>?_⟩
 ·obtain⟨ne,q⟩:=key j _ e;obtain⟨v,q1,q2⟩:=T.env.val j d q;exact⟨v,by rw[OW ne.symm];exact q1,q2⟩
 ·obtain⟨ne,q⟩:=key j _ e;obtain⟨a,q1,q2⟩:=T.env.own j d q;exact⟨a,by rw[OW ne.symm];exact q1,q2⟩
 ·obtain⟨n1,q1⟩:=key j _ e1;obtain⟨n2,q2⟩:=key l _ e2;rw[OW n1.symm]at e3;rw[OW n2.symm]at e4;exact T.env.one j l xs ys a q1 q2 e3 e4
 ·obtain⟨ne,q⟩:=key j _ e1;rw[OW ne.symm]at e2;exact T.mine j xs a q e2
 ·obtain⟨ne,q⟩:=key j _ e;refine(T.nst j dn q).to (OW ne.symm) (λ_ _ z=>z) (λb q1 q2 q3 q4 _=>⟨rfl,q1,q2,λl d1 w=>?_⟩) λl d1 w=>⟨d1,(key l _ w).2⟩
  obtain⟨nl,z⟩:=key l _ w;rw[OW nl.symm];exact q4 l d1 z
noncomputable def ul(K:QR)(mg:bg)(g:Str)(cs:ah):Prop:=∃G,mg g=some (.ref G)/\∀c∈cs,∀C,clsAt K c C->RH K (.ref C) (.ref G)=some true
noncomputable def J5(i:Nat)(k:Ks):Ks:=⟨λρ=>k.nx (ρ.set i none),λρ=>k.bk (ρ.set i none),λρ=>k.ct (ρ.set i none),λ_ _=>un⟩
noncomputable def Bl(cs:ah)(i:Nat)(F Fh:aS):aS:=λk ρ=>F {k with ex:=λx ρ1=>if cs.contains x.c=true then Fh (J5 i k) (setV i (.exc x.c x.fs x.vs) ρ1)else un} ρ
section
variable{X:Cx}{pos:Pos}
theorem Mh{body suite:cS}{b₀:Si}{g n:Str}{gp hpos:Pos}{F Fh:aS}{cs:ah}{i:Nat}(hx:X.ex=[])(hst:X.stack=X.env::X.outer)(hf:X.env.frame=some X.env.locals)(hfn:∀x,X.fn x=true)
  (hT:ul X.K X.mg g cs) (hg:Gl X g) (hN:X.N.Nodup) (hi:X.N[i]?=some n) (hl:X.env.scope.names.lookup n=some .local)
  (hb:∀E pn,SK (model X.prog X.w) X.A X.env E->JO (ug X E pn) body F) (hs:∀A pn,A.depth=X.A.depth->A.units=X.A.units->JO (pB X A pn) (b₀::suite) Fh) (hdb:(g==("__debug__":Str))=false:=by decide):
  FS X (.Try body [.ExceptHandler (some (.Name g gp)) (some n) (b₀::suite) hpos] [] [] pos) (Bl cs i F Fh):=λHb Ob pins s σ H E I zq=>zq.elim λO zq=>zq.elim λρ zq=>zq.elim λk zq=>zq.elim λr zq=>zq.elim λS zq=>zq.elim λhF hk=>by
 obtain⟨G,hG,hcs⟩:=hT;refine wpAny_Try_except ?_;have land:∀O1 ρ1 σ1 H1 x,bi X.K Hb Ob O1 H1 ρ1 σ1->(if cs.contains x.c=true then Fh (J5 i k) (setV i (.exc x.c x.fs x.vs) ρ1)else un)=r->
   AY (ug X (λe s₁=>Sz (model X.prog X.w) X.A (noteFrame e X.env) (λ_ s₂=>Sz (model X.prog X.w) X.A (setFlight e none) (λ_ s₃=>Sz (model X.prog X.w) X.A (handleBy e X.env [.ExceptHandler (some (.Name g gp)) (some n) (b₀::suite) hpos]) (SP X pins E) X.xe s₃) X.xe s₂) X.xe s₁) (X.pn++pins)) σ1 O1 H1 x:=by
  rintro O1 ρ1 σ1 H1 x S1 ex pins' s1 u H2 I1 sm ⟨e,C,dx,rfl,hd,fl⟩;have cond:cs.contains x.c=true:=by
   cases z:cs.contains x.c with
   |true=>rfl
   |false=>rw[z]at ex;exact absurd ex.symm hk.ne
  rw[if_pos cond]at ex;obtain⟨oe1,vs1,he1,hc1,hd1⟩:=xR fl;have nfr:e∉frs X.stack:=λz=>by
   obtain⟨_,o,q,nf⟩:=I1.stack.mem z;rw[he1]at q;cases q;exact nf _ hd1
  refine As (X:=ug X _ (X.pn++pins)) I1.ok.frames hst hf fl λB a0 h4 held us4 kb ds4=>?_;have nk:¬gV (ug X _ (X.pn++pins)) H2 e:=λz=>by
   have:=kb e oe1 he1 z nfr
   rw[held.2.1]at this;cases this
  refine DP.go (mH _ _) (P:=λh'=>RU B X.stack e (.ref C) a0 h'/\h4.UpToSlots h') (wpAny_landsW held λh' x y=>⟨h',rfl,x,y⟩) λh5 z5 ds5=>?_;obtain⟨fl5,us5⟩:=z5;have I5:=wV I1 hx hst hf hfn (us4.trans us5) λb o q kb' nf=>fl5.1 b o (kb b o q kb' nf);obtain⟨oe5,he5,hc5⟩:=fl5.there;have I5h:=uh (A:=X.A.mark (some (.ref e))) I5 rfl;refine wpAny_handleBy_cons (codeAny_handlers_test (gx (X:=pB X (X.A.mark (some (.ref e))) (X.pn++pins)) I5h hg hG ?_ hdb)) (by intro z;cases z);refine(PySem.W.exm_one I5.kIn (show Rl _ h5 (typeOf (.ref e)) (.ref C)from hc5 ▸ (PySem.W.Looks.ld he5).andThen .now) (hcs x.c (by simpa using cond) C hd.1)).at ?_;refine codeAny_handlers_suite_as ?_;refine DP.go (mH _ _) (P:=λh'=>RU B X.stack e (.ref C) a0 h'/\h5.UpToSlots h') (PyProof.Rows.lands_againW fl5 λh' x y=>⟨h',rfl,x,y⟩) λh6 z6 ds6=>?_;obtain⟨fl6,us6⟩:=z6;have I6:=wV I1 hx hst hf hfn ((us4.trans us5).trans us6) λb o q kb' nf=>fl6.1 b o (kb b o q kb' nf);obtain⟨oe6,ws6,he6,hc6,hd6,_⟩:=fl6.first;have hdx:oe6.dict=dx:=(((ds4.trans ds5).trans ds6).dict he1 he6).trans (fl.1 _ he1);have hn:H2 e=none:=by
   cases q:H2 e with
   |none=>rfl
   |some ob=>exact absurd (.inr (.inl (by rw[q];intro z;cases z))) nk
  have I6a:=yi (C:=C) I6 hx hn he6 hc6 (by unfold Rv;rw[hd6]) (by
    cases q:X.s₀.heap.get? e with
    |none=>rfl
    |some o=>exact absurd (.inl ⟨⟨o,q⟩,by rw[show(ug X _ (X.pn++pins)).ex=X.ex from rfl,hx];simp⟩) nk) (λz=>by
    apply nfr;rw[hst,z];show X.env.locals∈List.filterMap _ (_::_);rw[OQ,hf];exact OS)
   (λy q=>nk (.inr (.inr (.inr ⟨y,q⟩)))) (λp hp q=>by
    rw[Pa]at hp;exact nk (.inr (.inr (.inl ⟨p.2,by rw[<-q];exact hp⟩))))
  have I6h:=uh (A:=X.A.mark (some (.ref e))) I6a rfl;have same26:aB H2 (upd H2 e (.ext (vd C e oe6.dict))):=λb o q=>by rw[av λz=>by rw[z,hn]at q;cases q];exact q
  have eO:e∉O1:=(S1.env.all.same sm).not hn;refine jb (X:=pB X (X.A.mark (some (.ref e))) (X.pn++pins)) I6h hN hi (.inl hl) (show RelV (.ref e) (.ref e)from rfl) (λs7 I7=>?_) (.inl (hfn n));have S7:=(S1.same (sm.trans same26)).setV (i:=i) (d:=.exc x.c x.fs x.vs) (v:=.ref e) (by rw[I1.len];exact(List.getElem?_eq_some_iff.mp hi).1)
   (by
    obtain⟨c1,ws,w1,w2,w3⟩:=hd;have sh:aB (hid H2 O1) (hid (upd H2 e (.ext (vd C e oe6.dict))) O1):=bP same26;exact Kd.mpr ⟨e,ws,rfl,w1.mono sh,w2,C,oe6.dict,c1,by rw[lZ eO];exact aT,w3.imp id λzq=>zq.elim λd zq=>zq.elim λq1 q2=>⟨d,hdx.trans q1,sh _ _ q2⟩⟩)
  refine SD (hs (X.A.mark (some (.ref e))) (X.pn++pins) rfl rfl Hb Ob [] s7 _ _ {nx:=λσ' H'=>E.nx (σ'.set i none) H',rt:=E.rt,bk:=λσ' H'=>E.bk (σ'.set i none) H',ct:=λσ' H'=>E.ct (σ'.set i none) H'} I7
   ⟨O1,_,J5 i k,r,S7,ex,hk.ne,λO' ρ' σ' H' S' q=>hk.nx O' _ _ H' (S'.unset i) q,λO' ρ' σ' H' S' q=>hk.bk O' _ _ H' (S'.unset i) q,λO' ρ' σ' H' S' q=>hk.ct O' _ _ H' (S'.unset i) q,hk.rt,λO' ρ' σ' H' y S' q=>absurd q.symm hk.ne⟩) (λf s8 h8=>?_) λ_ _ z=>z.elim
  have fin:∀σ' H',L2.Inv (pB X (X.A.mark (some (.ref e))) (X.pn++pins)) [] σ' H' s8->∀Q:iH,(∀s9,L2.Inv X pins (σ'.set i none) H' s9->Q s9)->
    Sz (model X.prog X.w) X.A (do bindName X.env n .none;unbindBehindTheSuite X.env n hpos) (λ_ s₃=>Q s₃) X.xe s8:=λσ' H' I8 Q q=>by
   obtain⟨m,hm,hlk⟩:=I8.loc;exact wpAny_nameGoes_keeps hl hm (by rw[I8.ok.kind];rfl) λh9 v ns9 sb9=>q _ (jj I.ok (zv I8 hN hi hm hlk ns9 sb9))
  cases f with
  |next=>obtain⟨σ',H',I8,q⟩:=h8;exact fin σ' H' I8 _ λs9 I9=>⟨_,H',I9,q⟩
  |brk=>obtain⟨σ',H',I8,q⟩:=h8;exact fin σ' H' I8 _ λs9 I9=>⟨_,H',I9,q⟩
  |cont=>obtain⟨σ',H',I8,q⟩:=h8;exact fin σ' H' I8 _ λs9 I9=>⟨_,H',I9,q⟩
  |ret u=>obtain⟨v,σ',H',I8,rv,q⟩:=h8;exact fin σ' H' I8 _ λs9 I9=>⟨v,_,H',I9,rv,q⟩
 refine SD (hb _ (X.pn++pins) PassesOwn.looking Hb Ob [] s σ H E (DW I _) ⟨O,ρ,_,r,S,hF,hk.ne,hk.nx,hk.bk,hk.ct,hk.rt,land⟩) (λf s1 h1=>?_) λ_ _ z=>z;cases f with
 |next=>obtain⟨σ',H',I1,q⟩:=h1;exact sk pins s1 σ' H' E (jj I.ok I1) q
 |brk=>obtain⟨σ',H',I1,q⟩:=h1;exact⟨σ',H',jj I.ok I1,q⟩
 |cont=>obtain⟨σ',H',I1,q⟩:=h1;exact⟨σ',H',jj I.ok I1,q⟩
 |ret u=>obtain⟨v,σ',H',I1,rv,q⟩:=h1;exact⟨v,σ',H',jj I.ok I1,rv,q⟩
end
end TG
namespace TG
open PySem PySem.Spec L2
variable[al]
noncomputable def uA(K:QR)(T:Se)(tbl:List (Str×Bool)):Prop:=∀c b,tbl.lookup c=some b->∀D,clsAt K c D->ya K D/\Rw K (.ref D) T=some b
noncomputable def gO(tbl:List (Str×Bool))(d:D):aY:=match d with
 |.exc c _ _=>(tbl.lookup c).map .bl
 |_=>none
noncomputable def lu(K:QR)(mg:bg)(x:Str)(tbl:List (Str×Bool)):Prop:=∃C,mg x=some (.ref C)/\uA K (.ref C) tbl
theorem jc{K:QR}{T:Se}:uA K T []:=λ_ _ h=>by cases h
theorem hW{K:QR}{T:Se}{c:Str}{D:Sg}{b:Bool}{tbl:List (Str×Bool)}(ac:clsAt K c D)(F:ya K D)(k:Rw K (.ref D) T=some b)(r:uA K T tbl):uA K T ((c,b)::tbl):=λc' b' h D' hD=>by
 rw[Pz]at h;split at h
 ·rename_i e;have e:=beq_iff_eq.mp e;subst e;cases h;cases ao hD ac;exact⟨F,k⟩
 ·exact r c' b' h D' hD
theorem uq{K:QR}{C:Sg}{v:Se}(h:RD K C v=some true):(Ry K C).isSome=true:=by
 unfold RD at h;cases e:Ry K C with
 |none=>rw[e]at h;cases h
 |some c=>rfl
theorem ny{K:QR}{C D:Sg}{b:Bool}(hs:RA K (.ref D) (.ref C)=some b)(ho:RD K C (.type "object")=some true)(ht:Rf K (.ref C)=some (.type "type"))(hn:b=true\/D≠C):Rw K (.ref D) (.ref C)=some b:=by
 unfold Rw;by_cases e:D=C
 ·rcases hn with hn|hn
  ·rw[if_pos (by rw[e];simp),hn]
  ·exact absurd e hn
 ·rw[if_neg (by simpa using e)];unfold RJ;dsimp only;rw[if_pos (by rw[uq ho,ht];rfl)];exact hs
theorem Hh{K:QR}{D:Sg}{b:Bool}(hs:RA K (.ref D) (.type "ValueError")=some b):Rw K (.ref D) (.type "ValueError")=some b:=by
 unfold Rw;rw[if_neg (by simp)];unfold RJ;dsimp only;rw[if_pos (by decide +kernel)];exact hs
theorem EV{K:QR}{C G:Sg}(hb:RA K (.ref G) (.type "BaseException")=some true)(hs:RA K (.ref C) (.ref G)=some true)(ho:RD K G (.type "object")=some true)(ht:Rf K (.ref G)=some (.type "type")):RH K (.ref C) (.ref G)=some true:=by
 unfold RH;rw[if_pos (by rw[hb];rfl)];unfold RJ;dsimp only;rw[if_pos (by rw[uq ho,ht];rfl)];exact hs
theorem Bk{K:QR}{mg:bg}{g:Str}{G:Sg}{cs:ah}(hm:mg g=some (.ref G))(h:∀c∈cs,∃C,clsAt K c C/\RH K (.ref C) (.ref G)=some true):ul K mg g cs:=⟨G,hm,λc hc C hC=>by
 obtain⟨C',h1,h2⟩:=h c hc;cases ao hC h1;exact h2⟩
section
variable{X:Cx}{p pos:Pos}{e:Sh}
noncomputable def FZ(K:QR)(tv:V)(T:Se):ax->Hp->VK->Prop:=λxs H Q=>∃a D dx b,xs=[.ref a,tv]/\H a=some (.ext (vd D a dx))/\ya K D/\Rw K (.ref D) T=some b/\Q (.bl b) H
theorem qm{tv:V}{T:Se}(hT:∀u,RelV tv u->u=T):fw X (.builtin "isinstance") (FZ X.K tv T):=by
 rintro pins s σ H xs us Q I r ⟨a,D,dx,b,ex,ha,F,hk,q⟩;subst ex;obtain⟨u,w',rfl,rx,rt⟩:=vals2 r;cases rx;cases hT _ rt;obtain⟨⟨o,e1,e2,_⟩,_⟩:=(show gE X.prog X.w H s.heap a (.ext (vd D a dx))from I.hok a _ ha)
 exact Rx (CF F) I.kIn ⟨o,e1,e2⟩ hk (λz=>nomatch z) λtk=>⟨.bl _,H,I.tok _,rfl,q⟩
theorem uR{tbl:List (Str×Bool)}{a d:D}(h:gO tbl a=some d):∃c fs vs b,a=.exc c fs vs/\tbl.lookup c=some b/\d=.bl b:=by
 unfold gO at h;split at h
 ·rename_i c fs vs;cases e:tbl.lookup c with
  |none=>rw[e]at h;cases h
  |some b=>rw[e]at h;cases h;exact⟨c,fs,vs,b,rfl,e,rfl⟩
 ·cases h
theorem Gu{tbl:List (Str×Bool)}{tv:V}{T:Se}{f:FX}(h:uA X.K T tbl):∀σ H Q,tF X (f1 (gO tbl) f) σ H Q->Ke (FZ X.K tv T) (B5 (tF X f) (B5 (tC tv) Ka)) σ H Q:=λσ H Q zq=>zq.elim λO zq=>zq.elim λρ zq=>zq.elim λE hF=>⟨O,ρ,E,(fH.bind hF).imp λa hF v H1 s1 d1=>by
  obtain⟨d,e,q⟩:=fH.rO hF;obtain⟨c,fs,vs,b,rfl,e2,rfl⟩:=uR e;obtain⟨a,ws,rfl,_,_,D,dx,hcl,ha,_⟩:=Kd.mp d1;obtain⟨F,hk⟩:=h c b e2 D hcl;exact⟨a,D,dx,b,rfl,az _ _ _ _ ha,F,hk,q _ H1 s1 (iz.mpr rfl)⟩⟩
end
end TG
namespace TG
open PySem PySem.Spec L2
variable[al]
end TG
namespace TG
open PySem PySem.Spec L2
open PySem PySem.Spec PyProof.Rows PySem.W L2
variable[al]
end TG
namespace TG
open PySem PySem.Spec PyProof.Rows PySem.W L2
variable[al]
end TG
namespace TG
open PySem PySem.Spec PyProof.Rows PySem.W L2
variable[al]
end TG
namespace TG
open PySem PySem.Spec PyProof.Rows PySem.W L2
end TG
namespace TG
open PySem PySem.Spec PySem.Calls L2
open PySem.SeqAt (EqAt list_indexAt)
variable[al]
section
variable{X:Cx}{p pos:Pos}{e:Sh}
end
end TG
namespace TG
open PySem PySem.Spec L2
variable[al]
end TG
namespace TG
open PySem PySem.Spec PySem.Calls L2
open PySem.SeqAt (EqAt list_countAt)
variable[al]
end TG
namespace TG
open PySem PySem.Spec L2
variable[al]
end TG
namespace TG
open PySem PySem.Spec PySem.Calls L2
variable[al]
end TG
namespace TG
open PySem PySem.Spec L2
variable[al]
end TG
namespace TG
open PySem PySem.Spec L2
variable[al]
end TG
namespace TG
open PySem PySem.Spec L2
variable[al]
end TG
namespace TG
open PySem PySem.Spec PySem.Calls L2
variable[al]
end TG
namespace TG
open PySem PySem.Spec L2
variable[al]
end TG
namespace TG
open PySem PySem.Spec L2
variable[al]
end TG
namespace TG
open PySem PySem.Spec L2
variable[al]
end TG
namespace TG
open PySem PySem.Spec L2
variable[al]
end TG
namespace TG
open PySem PySem.Spec PySem.Calls L2
variable[al]
end TG
namespace L2
open PySem PySem.Spec PyProof.Rows
end L2
namespace TG
open PySem PySem.Spec L2
variable[al]
end TG
namespace TG
open PySem PySem.Spec L2
variable[al]
end TG
namespace TG
open PySem PySem.Spec L2
variable[al]
end TG
namespace TG
open PySem PySem.Spec L2
variable[al]
end TG
namespace TG
open PySem PySem.Spec L2
variable[al]
end TG
namespace L2
open PySem PySem.Spec PyProof.Rows
end L2
namespace TG
open PySem PySem.Spec L2
variable[al]
end TG
namespace TG
open PySem PySem.Spec PySem.Calls L2
variable[al]
end TG
namespace TG
open PySem PySem.Spec PySem.Calls L2
variable[al]
end TG
namespace TG
open PySem PySem.Spec L2
variable[al]
end TG
namespace TG
open PySem PySem.Spec PySem.Calls L2
variable[al]
end TG
namespace TG
open PySem PySem.Spec PySem.Calls L2
variable[al]
end TG
namespace L2
open PySem PySem.Spec PyProof.Rows
end L2
namespace TG
open PySem PySem.Spec L2
variable[al]
end TG
namespace TG
open PySem PySem.Spec PySem.Calls L2
variable[al]
end TG
namespace TG
open PySem PySem.Spec PyProof.Rows L2
end TG
namespace TG
open PySem PySem.Spec L2
variable[al]
end TG
namespace TG
open PySem PySem.Spec L2
variable[al]
end TG
namespace TG
open PySem PySem.Spec PySem.Calls L2
variable[al]
end TG
namespace TG
open PySem PySem.Spec L2
variable[al]
end TG
namespace TG
open PySem PySem.Spec L2
variable[al]
end TG
namespace TG
open PySem PySem.Spec L2
variable[al]
end TG
namespace TG
open PySem PySem.Spec L2
variable[al]
end TG
namespace TG
open PySem PySem.Spec L2
variable[al]
end TG
namespace TG
open PySem PySem.Spec L2
variable[al]
noncomputable def M7(K:QR)(n:Nat)(g:cy):Sp:=λvs H Q E=>∃O ds,vs.length=n/\eG H O/\aJ K (hid H O) ds vs/\match g ds with
 |.ok d=>∀p H',aB H H'->H p=none->(∃o,H' p=some o/\jd o)->gq K H' (p::O) p d->Q (.ref p) H'
 |.error (some x)=>Kj K H O x E
 |.error none=>False
theorem yp{X:Cx}{n:Nat}{g:cy}{f:aC}(hn:∀ds,g ds≠un->ds.length=n):∀σ H Q,KS X (fR g f) σ H Q->vQ X (M7 X.K n g) (Kf X f) σ H Q:=λσ H Q zq=>zq.elim λO zq=>zq.elim λρ zq=>zq.elim λE hF=>
 ⟨O,ρ,E,(fH.bind hF).imp fun ds hF vs H1 s1 d1=>by
  cases hg:g ds with
  |ok d=>
   rw[hg]at hF;refine⟨E0,lH,O,ds,by rw[<-d1.length];exact hn ds (by rw[hg];intro z;cases z),E.all.same s1,d1,?_⟩;rw[hg];exact λp H2 s2 hp ho own=>hF p H2 (s1.trans s2) (s1.free hp) ho own
  |error z=>
   rw[hg]at hF;cases z with
   |none=>exact hF.elim
   |some x=>
    refine⟨qc X O H1 x,lG (AY.mono hF s1),O,ds,by rw[<-d1.length];exact hn ds (by rw[hg];intro z;cases z),E.all.same s1,d1,?_⟩;rw[hg];exact o4⟩
noncomputable def Fk(P:Sn)(w:Sl)(K:QR)(mg:bg)(base:Sr)(k:Nat)(x:Str)(ps:ah)(g:cy):Prop:=
 ∃f fd,fG P w K mg base (gB P w) k f fd ps (M7 K ps.length g)/\Binds K fd ps []/\Rm K (.ref f)=true/\mg x=some (.ref f)
end TG
namespace TG
open PySem PySem.Spec L2
variable[al]
end TG
namespace TG
open PySem PySem.Spec L2
variable[al]
end TG
namespace TG
open PySem PySem.Spec L2
variable[al]
end TG
namespace TG
open PySem PySem.Spec L2 PySem.SeqAt
variable[al]
end TG
namespace TG
open PySem PySem.Spec L2 PySem.SeqAt
open PySem.AutoSeq1 (wpAny_loadPart')
open PySem.MeetsSeq PySem.MeetsSeq2 PySem.MeetsSeq3
end TG
namespace TG
open PySem PySem.Spec L2 PySem.SeqAt
variable[al]
end TG
namespace TG
open PySem PySem.Spec L2
variable[al]
end TG
namespace TG
open PySem PySem.Spec L2
variable[al]
end TG
namespace TG
open PySem PySem.Spec L2
variable[al]
end TG
namespace TG
open PySem PySem.Spec PySem.Calls L2
variable[al]
end TG
namespace TG
open PySem PySem.Spec PySem.Calls L2
variable[al]
end TG
namespace TG
open PySem PySem.Spec PyProof.Rows L2
variable[al]
end TG
namespace TG
open PySem PySem.SetTable
noncomputable def rs(m:Nat)(h:Int):Nat->Nat×Nat
 |0=>(bits h%(m+1),bits h)
 |r+1=>leap m (rs m h r).1 (rs m h r).2
noncomputable def Ov(m:Nat)(p:Probe):Probe:=advance ⟨m,#[],#[],0,false,0,false⟩ p
noncomputable def st(m:Nat)(h:Int):Nat->Probe
 |0=>{j:=bits h%(m+1),more:=runEnd m (bits h%(m+1))-bits h%(m+1),i:=bits h%(m+1),perturb:=bits h,dummy:=none}
 |n+1=>Ov m (st m h n)
open PySem PySem.Spec PySem.SetTable L2
end TG
namespace TG
open PySem PySem.SetTable
open PySem PySem.Spec PySem.SetTable L2
open PySem PySem.Spec PySem.SetTable L2 PyProof.Rows
end TG
namespace TG
open PySem PySem.Spec PySem.SetTable PySem.Calls L2
open PySem PySem.Spec PySem.SetTable PySem.Calls L2 PySem.W PyProof.Rows
end TG
namespace TG
open PySem PySem.Spec L2
variable[al]
noncomputable def dd:List (List Key)->List (List Key)
 |[]=>[]
 |k::ks=>if ks.any (λq=>decide (q=k))then dd ks else k::dd ks
end TG
namespace TG
open PySem PySem.Spec PySem.Calls L2
variable[al]
section
variable{X:Cx}
noncomputable def gM(x:Str):List D->aY
 |[.str y]=>some (.bl (Txt.startswith x y))
 |_=>none
theorem sV{x:Str}{ds:List D}{d:D}(h:gM x ds=some d):∃y,ds=[.str y]/\d=.bl (Txt.startswith x y):=by
 rcases ds with _|⟨e,_|⟨f,r⟩⟩
 ·cases h
 ·cases e with
  |str y=>cases h;exact⟨y,rfl,rfl⟩
  |_=>cases h
 ·cases e<;>cases h
noncomputable def iC(f:FX)(g:aC):FX:=λρ=>(f ρ).bind λa=>(rO (Gf a)).bind λz=>(g ρ).bind λds=>rO (gM z ds)
theorem yK:IW X "str.startswith" (λx xs H Q=>∃z y,x=.str z/\xs=[.str y]/\Q (.bl (Txt.startswith z y)) H):=by
 rintro pins s σ H x xs v us Q I rx rs ⟨z,y,ex,exs,q⟩;subst ex exs;obtain⟨t,rfl⟩:=rx;cases rs with|cons r1 rs=>?_
 cases rs;obtain⟨u,rfl⟩:=r1;exact SC.startswith ⟨.bl _,H,I,rfl,q⟩
theorem xM{a e:Sh}{fa:FX}{fs:aC}{apos cpos:Pos}(ha:FE X a fa)(hs:FA X [e] fs)(hbase:S9 a "startswith" X.env (eval a X.env)=eval a X.env:=by rfl)
  (hfew:((backTo cpos (SA [e] X.env)).all (fun x=>!x.1) && (backToKw cpos (Tc [] X.env)).all (fun x=>x.1.isSome)
   && decide (([e]:aF).length+([]:List Tx).length+(if([]:List Tx).isEmpty then 0 else 1)<30))=true:=by rfl)
  (hline:(apos.endLine==cpos.line)=true:=by rfl) (hst:SA [e] X.env=(false,eval e X.env)::SA [] X.env:=by rfl) (hplain:(backTo cpos (SA [] X.env)).any (·.1)=false:=by rfl):
  FE X (.Call (.Attribute a "startswith" apos) [e] [] cpos) (iC fa fs):=
 PE.weak (tQ F.plainAttrs_str F.slot_str_startswith F.type_str_startswith yK ha hs hbase hfew hline hst hplain) λσ H Q zq=>zq.elim λO zq=>zq.elim λρ zq=>zq.elim λE hF=>⟨O,ρ,E,(fH.bind hF).imp λx hF v H1 s1 d1=>by
  obtain⟨z,ez,hF⟩:=fH.rO (fH.bind hF);rw[sf ez d1];exact⟨rfl,O,ρ,E.same s1,((fH.bind hF).mono s1).imp λds hF vs H2 s2 d2=>by
   obtain⟨d,e,q⟩:=fH.rO hF;obtain⟨y,rfl,rfl⟩:=sV e;obtain⟨w,rfl,dw⟩:=d2.one;rw[fF.mp dw];exact⟨z,y,rfl,rfl,q _ H2 (s1.trans s2) (iz.mpr rfl)⟩⟩⟩
end
end TG
namespace TG
open PySem PySem.Spec PySem.Calls L2
variable[al]
section
variable{X:Cx}
noncomputable def u9(x:Str):aY:=if x.length<=640 then(intText? x).bind λn=>some (.int n)else none
noncomputable def qa:List D->aY
 |[.str x]=>u9 x
 |_=>none
theorem yt{ds:List D}{d:D}(h:qa ds=some d):∃x n,ds=[.str x]/\x.length<=640/\intText? x=some n/\d=.int n:=by
 rcases ds with _|⟨e,_|⟨f,r⟩⟩
 ·cases h
 ·cases e with
  |str x=>
   obtain⟨h1,h2⟩:x.length<=640/\((intText? x).bind λn=>some (D.int n))=some d:=by
    have h':u9 x=some d:=h;unfold u9 at h';by_cases z:x.length<=640
    ·rw[if_pos z]at h';exact⟨z,h'⟩
    ·rw[if_neg z]at h';cases h'
   obtain⟨n,e1,e2⟩:=Option.bind_eq_some_iff.mp h2;cases e2;exact⟨x,n,rfl,h1,e1,rfl⟩
  |_=>cases h
 ·cases e<;>cases h
theorem zf:fw X (.type "int") (CM X.K qa):=by
 rintro pins s σ H xs us Q I r ⟨O,ds,d,hO,hd,hg,q⟩;obtain⟨x,n,rfl,h1,h2,rfl⟩:=yt hg;obtain⟨v,ev,h1'⟩:=hd.one;rw[fF.mp h1']at ev;subst ev;cases r with|cons r1 rs=>?_
 cases rs;obtain⟨t,rfl⟩:=r1;exact PySem.W.KIN.call_text h2 h1 ⟨.int n,H,I.tok _,⟨_,rfl⟩,q _ H (aB.refl H) (gv.mpr rfl)⟩
end
end TG
namespace TG
open PySem PySem.Spec L2
variable[al]
noncomputable def gf(a:Sg)(H H':Hp):Prop:=∀b o,b≠a->H b=some o->H' b=some o
theorem gf.of{a:Sg}{H H':Hp}(s:aB H H'):gf a H H':=λb o _ h=>s b o h
theorem gf.trans{a:Sg}{H H1 H2:Hp}(x:gf a H H1)(y:gf a H1 H2):gf a H H2:=λb o n h=>y b o n (x b o n h)
theorem gf.upd{a:Sg}{H:Hp}(o:HO):gf a H (upd H a o):=λb u n h=>by rw[av n];exact h
theorem gf.hid{a:Sg}{H H':Hp}{O:ap}(x:gf a H H')(m:a∈O):aB (TG.hid H O) (TG.hid H' O):=λb o h=>by
 unfold TG.hid at h ⊢;by_cases hb:b∈O
 ·rw[if_pos hb]at h;cases h
 ·rw[if_neg hb]at h ⊢;exact x b o (λz=>hb (by rw[z];exact m)) h
section
variable{K:QR}{Hb:Hp}{Ob O:ap}{H H':Hp}{ρ:ak}{σ:St}
theorem J7{H H':Hp}{a:Sg}{o:HO}(h:H' a=some o)(o0:HO):L2.upd (L2.upd H' a o0) a o=H':=by
 funext b;by_cases z:b=a
 ·subst z;rw[aT,h]
 ·rw[av z,av z]
theorem gf.old{a:Sg}{H H':Hp}{o0:HO}(x:gf a H H')(h:H a=some o0):aB H (L2.upd H' a o0):=λb u q=>by
 by_cases z:b=a
 ·subst z;rw[h]at q;cases q;exact aT
 ·rw[av z];exact x b u z q
theorem bi.chg(S:bi K Hb Ob O H ρ σ){j:Nat}{d d':D}{a:Sg}(hj:ρ[j]?=some (some (.own d)))(ha:σ[j]?=some (some (.ref a)))(x:gf a H H')(m:∃o,H' a=some o/\jd o)(new:gq K H' O a d'):bi K Hb Ob O H' (ρ.set j (some (.own d'))) σ:=by
 obtain⟨o,ho,mo⟩:=m;obtain⟨a',ha',haO,hat⟩:=S.env.own j d hj;rw[ha]at ha';cases ha';obtain⟨o0,h0⟩:=hat.some;have S1:=S.same (x.old h0);have e:=J7 ho o0 (H:=H);have S2:=S1.setO (o:=o) hj ha mo (d':=d') (by rw[e];exact new);rw[e]at S2;exact S2
theorem bi.none(S:bi K Hb Ob O H ρ σ)(j:Nat):bi K Hb Ob O H (ρ.set j Option.none) σ:=by
 have bk:∀(i:Nat) x,(ρ.set j Option.none)[i]?=some (some x)->ρ[i]?=some (some x):=λi x e=>by
  rcases aG e with⟨_,q⟩|⟨_,q⟩
  ·cases q
  ·exact q
 refine⟨⟨λi d e=>S.env.val i d (bk i _ e),λi d e=>S.env.own i d (bk i _ e),λi l xs ys b e1 e2=>S.env.one i l xs ys b (bk i _ e1) (bk l _ e2),S.env.all⟩,S.base,λi xs b e=>S.mine i xs b (bk i _ e),λi d e=>?_⟩;exact(S.nst i d (bk i _ e)).to rfl (λ_ _ z=>z) (λb q1 q2 q3 q4 _=>⟨rfl,q1,q2,λl d' w=>q4 l d' (bk l _ w)⟩) λl d' w=>⟨d',bk l _ w⟩
theorem set_set{ρ:ak}{j:Nat}{x y:Option S}:(ρ.set j x).set j y=ρ.set j y:=by rw[Qt]
theorem bi.chg0(S:bi K Hb Ob O H ρ σ){j:Nat}{d:D}{a:Sg}(hj:ρ[j]?=some (some (.own d)))(ha:σ[j]?=some (some (.ref a)))(x:gf a H H')(m:∃o,H' a=some o/\jd o):bi K Hb Ob O H' (ρ.set j Option.none) σ:=by
 obtain⟨o,ho,mo⟩:=m;obtain⟨a',ha',haO,hat⟩:=S.env.own j d hj;rw[ha]at ha';cases ha';obtain⟨o0,h0⟩:=hat.some;have S1:=S.same (x.old h0);have e:=J7 ho o0 (H:=H);obtain⟨m1,m2⟩:=S1.mine j d a hj ha;have s:aB (hid (L2.upd H' a o0) O) (hid H' O):=by
  have:=jK (H:=L2.upd H' a o0) (o:=o) haO
  rw[e]at this;exact this
 have bk:∀(i:Nat) y,(ρ.set j Option.none)[i]?=some (some y)->i≠j/\ρ[i]?=some (some y):=λi y e=>by
  rcases aG e with⟨_,q⟩|⟨n,q⟩
  ·cases q
  ·exact⟨n,q⟩
 have E1:=S1.env;refine⟨⟨λi d' q=>?_,λi d' q=>?_,λi l xs ys b e1 e2=>E1.one i l xs ys b (bk i _ e1).2 (bk l _ e2).2,?_⟩,⟨λb u h=>?_,S1.base.sub,S1.base.new⟩,λi xs b q=>S1.mine i xs b (bk i _ q).2,λi d' q=>?_⟩
 ·obtain⟨v,q1,q2⟩:=E1.val i d' (bk i _ q).2;exact⟨v,q1,q2.mono s⟩
 ·obtain⟨n,q'⟩:=bk i _ q;obtain⟨b,q1,q2,q3⟩:=E1.own i d' q';have nb:b≠a:=λz=>n (E1.one i j d' d a q' hj (by rw[<-z];exact q1) ha);exact⟨b,q1,q2,q3.mono (by rw[av nb]) s⟩
 ·have:=E1.all.upd haO mo
  rw[e]at this;exact this
 ·have nb:b≠a:=λz=>by rw[z,m1]at h;cases h
  have:=S1.base.same b u h
  rw[av nb]at this;exact this
 ·refine(S1.nst i d' (bk i _ q).2).to rfl s (λb q1 q2 q3 q4 _=>⟨?_,q1,q2,λl d2 w=>q4 l d2 (bk l _ w).2⟩) λl d2 w=>⟨d2,(bk l _ w).2⟩
  have nb:b≠a:=λz=>q4 j d hj (by rw[z];exact ha);rw[av nb]
end
theorem bi.frzW{K:QR}{Hb:Hp}{Ob O:ap}{H:Hp}{ρ:ak}{σ:St}(E:bi K Hb Ob O H ρ σ)(i:Nat):∃O',bi K Hb Ob O' H (TG.frz i ρ) σ/\(∀b∈O',b∈O)/\∀b∈O,b∉O'->∃d,ρ[i]?=some (some (.own d))/\σ[i]?=some (some (.ref b)):=by
 obtain⟨O',E',sub,gone⟩:=E.env.frz i;refine⟨O',⟨E',⟨E.base.same,λa ha=>?_,λa ha=>E.base.new a (sub a ha)⟩,λj xs a q1 q2=>?_,λj dn q1=>?_⟩,sub,gone⟩
 ·by_cases z:a∈O'
  ·exact z
  ·obtain⟨d,e1,e2⟩:=gone a (E.base.sub a ha) z;exact absurd ha (E.mine i d a e1 e2).2
 ·have q:ρ[j]?=some (some (.own xs)):=by
   rcases uJ i ρ with⟨_,_,fe⟩|fe<;>rw[fe]at q1
   ·rcases aG q1 with⟨_,q⟩|⟨_,q⟩
    ·cases q
    ·exact q
   ·exact q1
  exact E.mine j xs a q q2
 ·have bk:∀(l:Nat) x,(TG.frz i ρ)[l]?=some (some x)->(∀d,x≠.val d)->ρ[l]?=some (some x):=λl x e nv=>by
   rcases uJ i ρ with⟨_,_,fe⟩|fe<;>rw[fe]at e
   ·rcases aG e with⟨_,q⟩|⟨_,q⟩
    ·cases q;exact absurd rfl (nv _)
    ·exact q
   ·exact e
  refine(E.nst j dn (bk j _ q1 (λ_ z=>nomatch z))).to rfl (eT sub) (λb w1 w2 w3 w4 _=>⟨rfl,?_,w2,λl d1 w=>w4 l d1 (bk l _ w (λ_ z=>nomatch z))⟩) λl d1 w=>⟨d1,bk l _ w (λ_ z=>nomatch z)⟩
  by_cases z:b∈O'
  ·exact z
  ·obtain⟨d,e1,e2⟩:=gone b w1 z;exact absurd e2 (w4 i d e1)
noncomputable def dec:R D->R (D×List D)
 |.ok (.tup [d,.lst ys])=>.ok (d,ys)
 |.ok _=>un
 |.error x=>.error x
noncomputable def LJ(K:QR)(n:Nat)(g:cy):Sp:=λvs H Q E=>∃O a ws xs ds,vs=.ref a::ws/\vs.length=n/\eG H O/\a∈O/\gq K H O a (.lst xs)/\aJ K (hid H O) ds ws/\match dec (g (.lst xs::ds))with
 |.ok (d,ys)=>∀v H',gf a H H'->(∃o,H' a=some o/\jd o)->gq K H' O a (.lst ys)->eL K (hid H' O) d v->Q v H'
 |.error (some x)=>∀C dx H',gf a H H'->(∃o,H' a=some o/\jd o)->FY K (hid H' O) x C dx->E (.ref C) dx H'
 |.error none=>False
noncomputable def iJ(P:Sn)(w:Sl)(K:QR)(mg:bg)(base:Sr)(k:Nat)(x:Str)(ps:ah)(g:cy):Prop:=
 ∃f fd,fG P w K mg base (gB P w) k f fd ps (LJ K ps.length g)/\Binds K fd ps []/\Rm K (.ref f)=true/\mg x=some (.ref f)
theorem rV{P:Sn}{w:Sl}{K:QR}{mg:bg}{base:Sr}{x qual:Str}{st:Si}{f:Sg}{fd:Te}{ps:ah}(k:Nat)(F:kc K x qual st f fd)(b:Binds K fd ps [])(m:mg x=some (.ref f)):iJ P w K mg base k x ps (λ_=>un):=by
 have no:∀vs H Q E,¬LJ K ps.length (λ_=>un) vs H Q E:=λvs H Q E zq=>by
  obtain⟨_,_,_,_,_,_,_,_,_,_,_,z⟩:=zq;exact z
 exact⟨f,fd,⟨λvs H Q E h=>absurd h (no vs H Q E),λA outer s H args us vs Q E _ _ _ _ h=>absurd h (no vs H Q E)⟩,b,F.kp,m⟩
noncomputable def Bt(X:Cx)(O:ap)(H:Hp)(a:Sg)(x:Ex):XK:=λu dx H'=>∃C,u=.ref C/\gf a H H'/\(∃o,H' a=some o/\jd o)/\FY X.K (hid H' O) x C dx
theorem zM{X:Cx}{σ:St}{O:ap}{H:Hp}{a:Sg}{x:Ex}(h:∀H',gf a H H'->(∃o,H' a=some o/\jd o)->AY X σ O H' x):gW (gB X.prog X.w) X σ (Bt X O H a x):=by
 rintro pins H1 s u s' I ⟨e,C,dx,H',B,a0,rfl,hdx,os,bare,un,hok,fl,kp,C',eC,sm,mo,hd⟩;cases eC;exact lG (H:=H') (h H' sm mo) pins H1 s _ s' I ⟨e,C,dx,H',B,a0,rfl,hdx,os,bare,un,hok,fl,kp,C,rfl,aB.refl H',hd⟩
noncomputable abbrev sO:=ak->R (D×List D)
noncomputable def hX(X:Cx)(Hb:Hp)(Ob O:ap)(σ:St)(ρ:ak)(j:Nat)(a:Sg)(H:Hp){α:Type}(r:R (α×List D))(Q:α->Hp->Prop):Prop:=match r with
 |.ok (d,ys)=>∀H',gf a H H'->bi X.K Hb Ob O H' (ρ.set j (some (.own (.lst ys)))) σ->Q d H'
 |.error (some x)=>∀H',gf a H H'->bi X.K Hb Ob O H' (ρ.set j none) σ->AY X σ O H' x
 |.error none=>False
noncomputable def NS(X:Cx)(Hb:Hp)(Ob:ap)(j:Nat)(a:Sg)(F:sO):TE:=λσ H Q=>∃O ρ,bi X.K Hb Ob O H ρ σ/\σ[j]?=some (some (.ref a))/\a∈O/\hX X Hb Ob O σ ρ j a H (F ρ) λd H'=>∀v,eL X.K (hid H' O) d v->Q v H'
noncomputable def Ot(X:Cx)(Hb:Hp)(Ob:ap)(j:Nat)(a:Sg)(F:ak->R (List D×List D)):TA:=λσ H Q=>∃O ρ,bi X.K Hb Ob O H ρ σ/\σ[j]?=some (some (.ref a))/\a∈O/\hX X Hb Ob O σ ρ j a H (F ρ) λds H'=>∀vs,aJ X.K (hid H' O) ds vs->Q vs H'
noncomputable def Gm(X:Cx)(j:Nat)(e:Sh)(F:sO):Prop:=∀Hb Ob a,PE X e (NS X Hb Ob j a F)
noncomputable def FAM(X:Cx)(j:Nat)(es:aF)(F:ak->R (List D×List D)):Prop:=∀Hb Ob a,PA X es (Ot X Hb Ob j a F)
open PyProof.Rows (AllBare)
theorem IL{P:Sn}{w:Sl}{K:QR}{mg:bg}{base:Sr}{N:ah}{qual:Str}{scope:Sx}{f:Sg}{cd:Se}{A:Sw}{outer:List Env}{s:Sj}{H:Hp}{E:XK}{σ:St}{O':ap}{H':Hp}{x:Ex}
  (hx:∀C dx H1,aB H' H1->FY K (hid H1 O') x C dx->E (.ref C) dx H1):AY (eY (gB P w) P w K mg base N qual scope f cd A outer s H E) σ O' H' x:=by
 rintro pins s1 u H1 I s2 ⟨e,C,dx,rfl,hd,hdx,B,a0,b1,b2,b3,b4,b5⟩;have fin:∀h',RU B outer e (.ref C) a0 h'->s1.heap.UpToSlots h'->DS s1.heap h'->gB P w outer H s E (.ref e) {s1 with heap:=h'}:=λh' fl us ds=>by
  have k:∀b o,s1.heap.get? b=some o->gV (eY (gB P w) P w K mg base N qual scope f cd A outer s H E) H1 b->b∉frs (eY (gB P w) P w K mg base N qual scope f cd A outer s H E).stack->h'.get? b=some o:=λb o q kb nf=>fl.1 b o (b5 b o q kb nf);have un:=vV I rfl rfl rfl us k;have hok:=rj I k;refine⟨e,C,dx,H1,B,a0,rfl,λoe' q=>?_,I.os,I.bare,un,hok,fl,λb o q hb nf=>?_,hx C dx H1 s2 hd⟩
  ·obtain⟨oe,q1⟩:∃oe,s1.heap.get? e=some oe:=by
    rcases b4 with⟨oe,_,_,_,_,h1,_⟩|⟨oe,_,h1,_⟩
    ·exact⟨oe,h1⟩
    ·exact⟨oe,h1⟩
   exact(ds.dict q1 q).trans (hdx oe q1)
  have nf2:b∉frs (eY (gB P w) P w K mg base N qual scope f cd A outer s H E).stack:=λz=>by
   rcases List.mem_cons.mp (show b∈s.heap.objs.size::frs outer from z)with z|z
   ·rcases hb with hb|hb
    ·obtain⟨o',hb⟩:=hb
     have:=RN hb
     rw[z]at this;exact OJ _ this
    ·rw[z]at hb;exact hb I.free
   ·exact nf z
  have kb:gV (eY (gB P w) P w K mg base N qual scope f cd A outer s H E) H1 b:=hb.elim (λz=>.inl ⟨z,λy=>nomatch y⟩) λz=>.inr (.inl z);obtain⟨o1,e1⟩:∃o1,s1.heap.get? b=some o1:=by
   rcases hb with⟨o',hb⟩|hb
   ·exact I.base.there b o' hb (λz=>nomatch z)
   ·cases q0:H1 b with
    |none=>exact absurd q0 hb
    |some ob=>exact u6 (I.hok b ob q0)
  have:=k b o1 e1 kb nf2
  rw[q]at this;cases this;exact b5 b _ e1 kb nf2
 show Sz _ _ (leaving (RY qual scope s.heap.objs.size f cd) (.ref e)) _ _ s1;refine DP.go (n0 _ _) (P:=λh'=>RU B outer e (.ref C) a0 h'/\s1.heap.UpToSlots h') ?_ λh' z ds=>fin h' z.1 z.2 ds;rcases b4 with b4|⟨oe,vs,c1,c2,c3,c4,c5⟩
 ·exact wpAny_leaves_onW I.ok.frames rfl ⟨b1,b2,b3,b4⟩ λh' fl us=>⟨h',rfl,fl,us⟩
 ·refine wpAny_leaving_firstW I.ok.frames b3 rfl c1 b1 b2 c3 c4 c5 λh' hL=>?_;obtain⟨k1,⟨_,_,k2⟩,k3,k4⟩:=hL;exact⟨h',rfl,⟨k1,b2,k2,c2 ▸ k3⟩,k4⟩
section
variable{X:Cx}{Hb:Hp}{Ob O:ap}{σ:St}{ρ:ak}{j:Nat}{a:Sg}{H H1:Hp}{α β:Type}
theorem hX.mono{r:R (α×List D)}{Q:α->Hp->Prop}(h:hX X Hb Ob O σ ρ j a H r Q)(s:aB H H1):hX X Hb Ob O σ ρ j a H1 r Q:=by
 match r,h with
 |.ok (d,ys),h=>exact λH' x S=>h H' ((gf.of s).trans x) S
 |.error (some x),h=>exact λH' y S=>h H' ((gf.of s).trans y) S
 |.error none,h=>exact h
theorem hX.pre{fr:R β}{G:β->R (α×List D)}{Q:α->Hp->Prop}(h:hX X Hb Ob O σ ρ j a H (fr.bind G) Q)(S:bi X.K Hb Ob O H ρ σ):fH X σ O H fr λb=>hX X Hb Ob O σ ρ j a H (G b) Q:=by
 match fr,h with
 |.ok b,h=>exact h
 |.error (some x),h=>exact h H (λ_ _ _ z=>z) (S.none j)
 |.error none,h=>exact h
theorem hX.map{r:R (α×List D)}{φ:α->β}{Q:β->Hp->Prop}(h:hX X Hb Ob O σ ρ j a H (r.bind λp=>.ok (φ p.1,p.2)) Q):hX X Hb Ob O σ ρ j a H r λd H'=>Q (φ d) H':=by
 match r,h with
 |.ok (d,ys),h=>exact h
 |.error (some x),h=>exact h
 |.error none,h=>exact h
theorem hX.thru{r:R (α×List D)}{G:α->R β}{Q:β->Hp->Prop}(h:hX X Hb Ob O σ ρ j a H (r.bind λp=>(G p.1).bind λd=>.ok (d,p.2)) Q):
  hX X Hb Ob O σ ρ j a H r λd H'=>bi X.K Hb Ob O H' (ρ.set j none) σ->fH X σ O H' (G d) λe=>∀H2,aB H' H2->Q e H2:=by
 match r,h with
 |.ok (d,ys),h=>
  intro H' x S S0;have h:hX X Hb Ob O σ ρ j a H ((G d).bind λd=>.ok (d,ys)) Q:=h
  match hg:G d with
  |.ok e=>
   rw[hg]at h;exact λH2 s2=>h H2 (x.trans (gf.of s2)) (S.same s2)
  |.error (some y)=>
   rw[hg]at h;exact h H' x S0
  |.error none=>rw[hg]at h;exact h.elim
 |.error (some x),h=>exact h
 |.error none,h=>exact h
end
section
variable{X:Cx}{j:Nat}{pos:Pos}
noncomputable def CO{α:Type}(j:Nat)(ρ:ak)(f:List D->R α):R α:=match ρ[j]? with
 |some (some (.own (.lst xs)))=>f xs
 |_=>un
theorem gD{α:Type}{j:Nat}{ρ:ak}{f:List D->R α}{xs:List D}(h:ρ[j]?=some (some (.own (.lst xs)))):CO j ρ f=f xs:=by unfold CO;rw[h]
theorem kG{α:Type}{j:Nat}{ρ:ak}{f:List D->R α}(h:CO j ρ f≠un):∃xs,ρ[j]?=some (some (.own (.lst xs))):=by
 unfold CO at h;rcases e:ρ[j]? with _|_|d
 ·rw[e]at h;exact absurd rfl h
 ·rw[e]at h;exact absurd rfl h
 ·cases d with
  |own d=>cases d with
   |lst xs=>exact⟨xs,rfl⟩
   |_=>rw[e]at h;exact absurd rfl h
  |_=>rw[e]at h;exact absurd rfl h
noncomputable def dP(j:Nat)(g:cy)(h:aC):sO:=λρ=>CO j ρ λxs=>(h ρ).bind λds=>dec (g (.lst xs::ds))
theorem hX.ne{Hb:Hp}{Ob O:ap}{σ:St}{ρ:ak}{a:Sg}{H:Hp}{α:Type}{r:R (α×List D)}{Q:α->Hp->Prop}(h:hX X Hb Ob O σ ρ j a H r Q):r≠un:=λz=>by subst z;exact h
theorem AR{k k':Nat}{ps:ah}{g:cy}{h:aC}{x y:Str}{p p' pos:Pos}{es:aF}(C:iJ X.prog X.w X.K X.mg X.base k x ps g)(hn:Ar ps.length g)(hr:dq k' X.A)(hk:k<=k')(hw:PE X (.Name y p') (pP j))(ha:FA X es h)(hg:Gl X x:=by rfl)
  (hdb:(x==("__debug__":Str))=false:=by decide) (hns:es.all noStar=true:=by rfl):
  Gm X j (.Call (.Name x p) (.Name y p'::es) [] pos) (dP j g h):=λHb Ob a=>by
 obtain⟨f,fd,F,b,kp,m⟩:=C;refine PE.weak (jm F (hr.mono hk) hg m kp b (eZ hw ha (aI rfl)) hdb (aI rfl) (bn hns)) λσ H Q zq=>?_;obtain⟨O,ρ,S,hj,haO,hP⟩:=zq;obtain⟨xs,hxs⟩:=kG hP.ne;have e:dP j g h ρ=(h ρ).bind λds=>dec (g (.lst xs::ds)):=gD hxs;rw[e]at hP;refine⟨.ref a,hj,O,ρ,S.env,(hP.pre S).imp λds hP vs H1 s1 d1=>?_⟩;have S1:=S.same s1;have hP:=hP.mono s1;obtain⟨a',ha',_,own⟩:=S1.env.own j _ hxs;rw[hj]at ha';cases ha';have hl:g (.lst xs::ds)≠un->(V.ref a::vs).length=ps.length:=λz=>by
  have:=hn _ z
  rw[O3]at this ⊢;rw[<-d1.length];exact this
 have ne:g (.lst xs::ds)≠un:=λz=>by rw[z]at hP;exact hP
 match e:dec (g (.lst xs::ds))with
 |.ok (d,ys)=>
  rw[e]at hP;refine⟨E0,lH,O,a,vs,xs,ds,rfl,hl ne,S1.env.all,haO,own,d1,?_⟩;rw[e];exact λv H' x m o dn=>hP H' x (S1.chg hxs hj x m o) v dn
 |.error (some y)=>
  rw[e]at hP;refine⟨Bt X O H1 a y,zM λH' x m=>hP H' x (S1.chg0 hxs hj x m),O,a,vs,xs,ds,rfl,hl ne,S1.env.all,haO,own,d1,?_⟩;rw[e];exact λC dx H' x m ed=>⟨C,rfl,x,m,ed⟩
 |.error none=>rw[e]at hP;exact hP.elim
noncomputable def zI(xs:List D):R (D×List D):=match xs.getLast? with
 |some d=>.ok (d,xs.dropLast)
 |none=>un
noncomputable def tI(j:Nat):sO:=λρ=>CO j ρ zI
theorem C3{x:Str}{npos apos cpos:Pos}(hx:PE X (.Name x npos) (pP j))
  (hbase:S9 (.Name x npos) "pop" X.env (eval (.Name x npos) X.env)=eval (.Name x npos) X.env:=by rfl) (hline:(apos.endLine==cpos.line)=true:=by rfl):
  Gm X j (.Call (.Attribute (.Name x npos) "pop" apos) [] [] cpos) (tI j):=λHb Ob a=>PE.weak (B8 F.plainAttrs_list F.slot_list_pop F.type_list_pop Hr hx hbase hline) λσ H Q zq=>by
 obtain⟨O,ρ,S,hj,haO,hP⟩:=zq;obtain⟨xs,hxs⟩:=kG hP.ne;have e:tI j ρ=zI xs:=gD hxs;rw[e]at hP;unfold zI at hP;obtain⟨a',ha',_,o,vs0,ho,eo,dn⟩:=S.env.own j _ hxs;rw[hj]at ha';cases ha';subst eo;cases hl:xs.getLast? with
 |none=>rw[hl]at hP;exact hP.elim
 |some d=>
  rw[hl]at hP;have hl':xs[vs0.length-1]?=some d:=by rw[<-dn.length];rw[List.getLast?_eq_getElem?]at hl;exact hl
  obtain⟨v,hv,dv⟩:=dn.get hl';refine⟨.ref a,hj,.inl ⟨rfl,vs0,kg.of ho⟩,a,vs0,v,rfl,rfl,ho,hv,?_⟩;exact hP _ (gf.upd _) (S.chg hxs hj (gf.upd _) ⟨.lst vs0.dropLast,aT,trivial⟩ (ji haO dn.dropLast)) v (dv.mono (jK haO))
noncomputable def iu(F:sO):ak->R (List D×List D):=λρ=>(F ρ).bind λp=>.ok ([p.1],p.2)
noncomputable def iA(f:FX)(G:ak->R (List D×List D)):ak->R (List D×List D):=λρ=>(f ρ).bind λd=>(G ρ).bind λp=>.ok (d::p.1,p.2)
theorem AI{e:Sh}{F:sO}(h:Gm X j e F)(hns:noStar e=true:=by rfl):FAM X j [e] (iu F):=λHb Ob a=>PA.weak (eZ (h Hb Ob a) kx (aI hns)) λσ H Q zq=>by
 obtain⟨O,ρ,S,hj,haO,hP⟩:=zq;refine⟨O,ρ,S,hj,haO,?_⟩;have hP:=hX.map (φ:=λd=>[d]) hP;generalize F ρ=r at hP ⊢
 match r,hP with
 |.ok (d,ys),h=>exact λH' x S' v dv=>h H' x S' [v] (bh.mpr ⟨v,[],rfl,dv,cC.mpr rfl⟩)
 |.error (some x),h=>exact h
 |.error none,h=>exact h
theorem A2{e:Sh}{es:aF}{f:FX}{G:ak->R (List D×List D)}(he:FE X e f)(h:FAM X j es G)(hns:noStar e=true:=by rfl):FAM X j (e::es) (iA f G):=λHb Ob a=>PA.weak (eZ he (h Hb Ob a) (aI hns)) λσ H Q zq=>by
 obtain⟨O,ρ,S,hj,haO,hP⟩:=zq;have hP:hX X Hb Ob O σ ρ j a H ((f ρ).bind λd=>(G ρ).bind λp=>.ok (d::p.1,p.2)) _:=hP;refine⟨O,ρ,S.env,(hP.pre S).imp λd hP v H1 s1 d1=>⟨O,ρ,S.same s1,hj,haO,?_⟩⟩;have hP:=hX.map (φ:=λds=>d::ds) (hP.mono s1);generalize G ρ=r at hP ⊢
 match r,hP with
 |.ok (ds,ys),h=>exact λH' x S' vs dv=>h H' x S' (v::vs) (bh.mpr ⟨v,vs,rfl,d1.mono (x.hid haO),dv⟩)
 |.error (some x),h=>exact h
 |.error none,h=>exact h
noncomputable def II(g:cy)(G:ak->R (List D×List D)):sO:=λρ=>(G ρ).bind λp=>(g p.1).bind λd=>.ok (d,p.2)
theorem vO{k k':Nat}{ps:ah}{g:cy}{G:ak->R (List D×List D)}{x:Str}{p pos:Pos}{e:Sh}{es:aF}
  (C:Callee X.prog X.w X.K X.mg X.base k x ps g) (hn:Ar ps.length g) (hr:dq k' X.A) (hk:k<=k') (ha:FAM X j (e::es) G) (hg:Gl X x:=by rfl)
  (hdb:(x==("__debug__":Str))=false:=by decide) (hns:(e::es).all noStar=true:=by rfl):
  Gm X j (.Call (.Name x p) (e::es) [] pos) (II g G):=λHb Ob a=>by
 obtain⟨f,fd,F,b,kp,m⟩:=C;refine PE.weak (jm F (hr.mono hk) hg m kp b (ha Hb Ob a) hdb (aI (Pt _ _ ▸ hns).1) (bn (Pt _ _ ▸ hns).2)) λσ H Q zq=>?_;obtain⟨O,ρ,S,hj,haO,hP⟩:=zq;refine⟨O,ρ,S,hj,haO,?_⟩;have hP:=hX.thru (G:=g) hP;generalize G ρ=r at hP ⊢
 match r,hP with
 |.ok (ds,ys),h=>
  intro H1 x S1 vs d1;have h:=h H1 x S1 (by have:=S1.none j;rw[set_set]at this;exact this);exact kf hn S1.env.all d1 (h.imp λd q v H2 s2 d2=>q H2 s2 v d2)
 |.error (some x),h=>exact h
 |.error none,h=>exact h
noncomputable def lK(c:Str)(fs:ah)(G:ak->R (List D×List D)):sO:=λρ=>(G ρ).bind λp=>(if p.1.length=fs.length then .ok (.obj c fs p.1)else un:R D).bind λd=>.ok (d,p.2)
theorem EJ{c:Str}{fs ps:ah}{k k':Nat}{G:ak->R (List D×List D)}{p pos:Pos}{e:Sh}{es:aF}(IA:bJ X.prog X.w X.K X.mg X.base k c ps fs)(hr:dq k' X.A)(hk:k+1<=k')(hg:Gl X c)(ha:FAM X j (e::es) G)(hdb:(c==("__debug__":Str))=false:=by decide)
  (hns:(e::es).all noStar=true:=by rfl):Gm X j (.Call (.Name c p) (e::es) [] pos) (lK c fs G):=λHb Ob a=>by
 obtain⟨C,f,fd,h1,h2,h3,h4,h5⟩:=IA;refine PE.weak (wK (dvs:=[]) (E:=E0) h2 h3 (hr.mono hk) hg h5 h4 .nil FC (ha Hb Ob a) hdb (aI (Pt _ _ ▸ hns).1) (bn (Pt _ _ ▸ hns).2)) λσ H Q zq=>?_;obtain⟨O,ρ,S,hj,haO,hP⟩:=zq;refine⟨O,ρ,S,hj,haO,?_⟩;have hP:=hX.thru (G:=λas=>(if as.length=fs.length then .ok (.obj c fs as)else un:R D)) hP;generalize G ρ=r at hP ⊢
 match r,hP with
 |.ok (as,ys),h=>
  intro H1 y S1 vs d1 x dx hx hd ne;have h:=h H1 y S1 (by have:=S1.none j;rw[set_set]at this;exact this);by_cases hl:as.length=fs.length
  ·rw[if_pos hl]at h;rw[Pa];refine⟨x,dx,vs,rfl,by rw[<-d1.length,hl],by rw[aT],rfl,?_⟩;obtain⟨sm,dn⟩:=jg h1 hl d1 S1.env.all hx hd ne;exact h _ sm _ dn
  ·rw[if_neg hl]at h;exact h.elim
 |.error (some x),h=>exact h
 |.error none,h=>exact h
structure Fb(X:Cx)(Hb:Hp)(Ob:ap)(j:Nat)(a:Sg)(E:Ends)(k:Ks)(r:R D):Prop where
 ne:r≠un
 nx:∀O ρ σ H,bi X.K Hb Ob O H ρ σ->σ[j]?=some (some (.ref a))->a∈O->k.nx ρ=r->E.nx σ H
 bk:∀O ρ σ H,bi X.K Hb Ob O H ρ σ->σ[j]?=some (some (.ref a))->a∈O->k.bk ρ=r->E.bk σ H
 ct:∀O ρ σ H,bi X.K Hb Ob O H ρ σ->σ[j]?=some (some (.ref a))->a∈O->k.ct ρ=r->E.ct σ H
 rt:∀d ys O ρ σ v H,r=.ok (.tup [d,.lst ys])->bi X.K Hb Ob O H ρ σ->σ[j]?=some (some (.ref a))->ρ[j]?=some (some (.own (.lst ys)))->eL X.K (hid H O) d v->E.rt v H
 ex:∀O ρ σ H x,bi X.K Hb Ob O H ρ σ->a∈O->k.ex x ρ=r->AY X σ O H x
noncomputable def K6(X:Cx)(Hb:Hp)(Ob:ap)(j:Nat)(a:Sg)(F:aS):TS:=λE σ H=>∃O ρ k r,bi X.K Hb Ob O H ρ σ/\σ[j]?=some (some (.ref a))/\a∈O/\F k ρ=r/\Fb X Hb Ob j a E k r
noncomputable def FM(X:Cx)(j:Nat)(st:Si)(F:aS):Prop:=∀Hb Ob a,PS X st (K6 X Hb Ob j a F)
noncomputable def zl(X:Cx)(j:Nat)(st:cS)(F:aS):Prop:=∀Hb Ob a,pH X st (K6 X Hb Ob j a F)
theorem fH.onM{Hb:Hp}{Ob O:ap}{a:Sg}{H:Hp}{ρ:ak}{σ:St}{E:Ends}{k:Ks}{r:R D}{α:Type}{fr:R α}{G:α->R D}{Q:α->Prop}(h:km fr k ρ G=r)(hk:Fb X Hb Ob j a E k r)(S:bi X.K Hb Ob O H ρ σ)(m:a∈O)(q:∀a,G a=r->Q a):fH X σ O H fr Q:=by
 match fr,h with
 |.ok a,h=>exact q a h
 |.error (some x),h=>exact hk.ex O ρ σ H x S m h
 |.error none,h=>exact absurd h.symm hk.ne
variable{st:Si}{rest body:cS}
theorem Dc:zl X j [] aU:=λHb Ob a=>pH.weak sk λE σ H zq=>by
 obtain⟨O,ρ,k,r,S,hj,m,hF,hk⟩:=zq;exact hk.nx O ρ σ H S hj m hF
theorem Bj{F1 F2:aS}(h1:FM X j st F1)(h2:zl X j rest F2):zl X j (st::rest) (aq F1 F2):=λHb Ob a=>pH.weak (pj (h1 Hb Ob a) (h2 Hb Ob a)) λE σ H zq=>by
 obtain⟨O,ρ,k,r,S,hj,m,hF,hk⟩:=zq;exact⟨O,ρ,{k with nx:=F2 k},r,S,hj,m,hF,hk.ne,λO' ρ' σ' H' S' hj' m' e=>⟨O',ρ',k,r,S',hj',m',e,hk⟩,hk.bk,hk.ct,hk.rt,hk.ex⟩
theorem DQ{F1:aS}(h1:FM X j st F1):zl X j [st] F1:=λHb Ob a=>sr (h1 Hb Ob a)
noncomputable def j4(i j:Nat)(F:aS):aS:=λk ρ=>CO j ρ λ_=>F k (frz i ρ)
theorem D3{F:aS}(i:Nat)(hi:i≠j)(h:zl X j body F):zl X j body (j4 i j F):=λHb Ob a=>pH.weak (h Hb Ob a) λE σ H zq=>by
 obtain⟨O,ρ,k,r,S,hj,m,hF,hk⟩:=zq;obtain⟨xs,hxs⟩:=kG (f:=λ_=>F k (frz i ρ)) (by have e:j4 i j F k ρ=_:=hF;unfold j4 at e;rw[e];exact hk.ne);have e:j4 i j F k ρ=F k (frz i ρ):=gD hxs;rw[e]at hF;obtain⟨O',E',sub,gone⟩:=S.frzW i;refine⟨O',frz i ρ,k,r,E',hj,?_,hF,hk⟩;by_cases z:a∈O'
 ·exact z
 ·obtain⟨d,e1,e2⟩:=gone a m z;exact absurd (S.env.one i j d _ a e1 hxs e2 hj) hi
noncomputable def mJ(j:Nat)(f:FX):aS:=λk ρ=>km (f ρ) k ρ λd=>CO j ρ λys=>.ok (.tup [d,.lst ys])
theorem HK{e:Sh}{f:FX}(h:FE X e f):FM X j (.Return (some e) pos) (mJ j f):=λHb Ob a=>PS.weak (vj h) λE σ H zq=>by
 obtain⟨O,ρ,k,r,S,hj,m,hF,hk⟩:=zq;refine⟨O,ρ,S.env,fH.onM hF hk S m λd e v H' s' d'=>?_⟩;obtain⟨ys,hys⟩:=kG (by rw[e];exact hk.ne);rw[gD hys]at e;exact hk.rt d ys O ρ σ v H' e.symm (S.same s') hj hys d'
noncomputable def kO(j:Nat)(F:sO):aS:=λk ρ=>match F ρ with
 |.ok p=>CO j ρ λ_=>.ok (.tup [p.1,.lst p.2])
 |.error (some x)=>k.ex x (ρ.set j none)
 |.error none=>un
theorem D8{e:Sh}{F:sO}(h:Gm X j e F):FM X j (.Return (some e) pos) (kO j F):=λHb Ob a=>PS.weak (vj (h Hb Ob a)) λE σ H zq=>by
 obtain⟨O,ρ,k,r,S,hj,m,hF,hk⟩:=zq;refine⟨O,ρ,S,hj,m,?_⟩;unfold kO at hF
 match hp:F ρ with
 |.ok (d,ys)=>
  rw[hp]at hF;have hF:CO j ρ (λ_=>.ok (.tup [d,.lst ys]))=r:=hF;obtain⟨xs,hxs⟩:=kG (by rw[hF];exact hk.ne);rw[gD hxs]at hF;intro H' x S' v dv;exact hk.rt d ys O _ σ v H' hF.symm S' hj (OV (List.getElem?_eq_some_iff.mp hxs).1) dv
 |.error (some y)=>
  rw[hp]at hF;exact λH' x S'=>hk.ex O _ σ H' y S' m hF
 |.error none=>rw[hp]at hF;exact absurd hF.symm hk.ne
noncomputable def gr(i j:Nat)(F:sO):aS:=λk ρ=>match F ρ with
 |.ok p=>k.nx (setV i p.1 (ρ.set j (some (.own (.lst p.2)))))
 |.error (some x)=>k.ex x (ρ.set j none)
 |.error none=>un
theorem DN{i:Nat}{x:Str}{e:Sh}{F:sO}{pos':Pos}(hij:i≠j)(hN:X.N.Nodup)(hi:X.N[i]?=some x)(hx:Loc X.env.scope x)(he:Gm X j e F)(hs:swapsWith e (some (.Name x pos')) pos.line X.env=pure false:=by rfl)(hf:X.fn x=true\/X.env.scope.names.lookup x=some .local:=by first|exact .inl rfl|exact .inr rfl|assumption):
  FM X j (.Assign [.Name x pos'] e pos) (gr i j F):=λHb Ob a pins s σ H E I zq=>by
 obtain⟨O,ρ,k,r,S,hj,m,hF,hk⟩:=zq;refine n5 hN hi hx (he Hb Ob a) hs hf pins s σ H E I ⟨O,ρ,S,hj,m,?_⟩;have hl:i<σ.length:=by rw[I.len];exact(List.getElem?_eq_some_iff.mp hi).1
 unfold gr at hF
 match hp:F ρ with
 |.ok (d,ys)=>
  rw[hp]at hF;exact λH' x S' v dv=>hk.nx O _ _ H' (S'.setV hl dv) (by rw[OW hij];exact hj) m hF
 |.error (some y)=>
  rw[hp]at hF;exact λH' x S'=>hk.ex O _ σ H' y S' m hF
 |.error none=>rw[hp]at hF;exact absurd hF.symm hk.ne
theorem Hz{i:Nat}{x:Str}{e:Sh}{f:FX}{pos':Pos}(hij:i≠j)(hN:X.N.Nodup)(hi:X.N[i]?=some x)(hx:Loc X.env.scope x)(he:FE X e f)(hs:swapsWith e (some (.Name x pos')) pos.line X.env=pure false:=by rfl)(hf:X.fn x=true\/X.env.scope.names.lookup x=some .local:=by first|exact .inl rfl|exact .inr rfl|assumption):
  FM X j (.Assign [.Name x pos'] e pos) (bB i f):=λHb Ob a pins s σ H E I zq=>by
 obtain⟨O,ρ,k,r,S,hj,m,hF,hk⟩:=zq;have hl:i<σ.length:=by rw[I.len];exact(List.getElem?_eq_some_iff.mp hi).1
 exact n5 hN hi hx he hs hf pins s σ H E I ⟨O,ρ,S.env,fH.onM hF hk S m λd e v H1 s1 d1=>hk.nx O _ _ H1 ((S.same s1).setV hl d1) (by rw[OW hij];exact hj) m e⟩
theorem HQ{i:Nat}{x:Str}{e:Sh}{f:FX}{pos':Pos}(hij:i≠j)(hN:X.N.Nodup)(hi:X.N[i]?=some x)(hx:Loc X.env.scope x)(he:FN X e f)(hs:swapsWith e (some (.Name x pos')) pos.line X.env=pure false:=by rfl)(hf:X.fn x=true\/X.env.scope.names.lookup x=some .local:=by first|exact .inl rfl|exact .inr rfl|assumption):
  FM X j (.Assign [.Name x pos'] e pos) (mS i f):=λHb Ob a pins s σ H E I zq=>by
 obtain⟨O,ρ,k,r,S,hj,m,hF,hk⟩:=zq;have hl:i<σ.length:=by rw[I.len];exact(List.getElem?_eq_some_iff.mp hi).1
 exact n5 hN hi hx he hs hf pins s σ H E I ⟨O,ρ,S.env,fH.onM hF hk S m λd e p H1 s1 hp mo o=>hk.nx _ _ _ H1 (S.setNew hl s1 hp mo o) (by rw[OW hij];exact hj) (OT _ m) e⟩
theorem Jl{c:Sh}{a b:cS}{tc:aX}{A B:aS}(hc:FT X c tc)(ha:zl X j a A)(hb:zl X j b B):FM X j (.If c a b pos) (fm tc A B):=λHb Ob q=>PS.weak (Gp hc (ha Hb Ob q) (hb Hb Ob q)) λE σ H zq=>by
 obtain⟨O,ρ,k,r,S,hj,m,hF,hk⟩:=zq;exact⟨O,ρ,S.env,fH.onM hF hk S m λz e H1 s1=>by
  cases z with
  |true=>exact pR ⟨O,ρ,k,r,S.same s1,hj,m,e,hk⟩
  |false=>exact pL ⟨O,ρ,k,r,S.same s1,hj,m,e,hk⟩⟩
theorem Fb.loop{Hb:Hp}{Ob O:ap}{a:Sg}{H:Hp}{E E':Ends}{k k':Ks}{r:R D}(hk:Fb X Hb Ob j a E k r)(b:Base Hb Ob H O)(hn:∀O' ρ' σ' H',bi X.K (lb H O Ob) Ob O' H' ρ' σ'->σ'[j]?=some (some (.ref a))->a∈O'->k'.nx ρ'=r->E'.nx σ' H')(hc:∀O' ρ' σ' H',bi X.K (lb H O Ob) Ob O' H' ρ' σ'->σ'[j]?=some (some (.ref a))->a∈O'->k'.ct ρ'=r->E'.ct σ' H')
    (eb:k'.bk=k.nx) (ee:k'.ex=k.ex) (Eb:E'.bk=E.nx) (Er:E'.rt=E.rt):Fb X (lb H O Ob) Ob j a E' k' r:=
  ⟨hk.ne,hn,fun O' ρ' σ' H' S hj m e=>by rw [Eb]; exact hk.nx O' ρ' σ' H' (S.back b) hj m (by rw [<- eb]; exact e),hc,fun d ys O' ρ' σ' v H' e S hj hys dv=>by rw [Er]; exact hk.rt d ys O' ρ' σ' v H' e (S.back b) hj hys dv,
   λO' ρ' σ' H' x S m e=>hk.ex O' ρ' σ' H' x (S.back b) m (by rw[<-ee];exact e)⟩
theorem zO{c:Sh}{tc:aX}{B:aS}(n:Nat)(hp:SK (model X.prog X.w) X.A X.env X.xe)(hc:FT X c tc)(hb:zl X j body B):FM X j (.While c body [] pos) (kn n tc B):=λHb Ob a pins s σ H E I zq=>by
 obtain⟨O,ρ,k,r,S,hj,m,hF,hk⟩:=zq;have hall:pH X body (λE σ H=>∃Hb',K6 X Hb' Ob j a B E σ H):=λpins s σ H E I zq=>zq.elim λHb' q=>hb Hb' Ob a pins s σ H E I q;refine tS hp hc hall pins s σ H E I ⟨λm σ H'=>∃O' ρ',bi X.K (lb H O Ob) Ob O' H' ρ' σ/\σ[j]?=some (some (.ref a))/\a∈O'/\eW tc B k m ρ'=r,⟨n,O,ρ,S.loop,hj,m,hF⟩,?_⟩;rintro m σ' H' ⟨O',ρ',E',hj',m',hr⟩;cases m with
 |zero=>exact absurd hr.symm hk.ne
 |succ m=>
  refine⟨O',ρ',E'.env,?_⟩;have hr':km (tc ρ') k ρ' (λb=>if b then B ⟨eW tc B k m,k.nx,eW tc B k m,k.ex⟩ ρ' else k.nx ρ')=r:=hr;refine fH.onM hr' hk (E'.back S.base) m' λb hr H1 s1=>?_;cases b with
  |true=>
   refine pR ⟨λσ2 H2=>∃O' ρ',bi X.K (lb H O Ob) Ob O' H2 ρ' σ2/\σ2[j]?=some (some (.ref a))/\a∈O'/\eW tc B k m ρ'=r,λσ2 H2 z=>⟨m,O8 m,z⟩,?_⟩;exact⟨lb H O Ob,O',ρ',⟨eW tc B k m,k.nx,eW tc B k m,k.ex⟩,r,E'.same s1,hj',m',hr,hk.loop S.base (λO4 ρ4 σ4 H4 E4 z1 z2 z=>⟨O4,ρ4,E4,z1,z2,z⟩) (λO4 ρ4 σ4 H4 E4 z1 z2 z=>⟨O4,ρ4,E4,z1,z2,z⟩) rfl rfl rfl rfl⟩
  |false=>exact pL (hk.nx O' ρ' σ' H1 ((E'.back S.base).same s1) hj' m' hr)
theorem Jo{i:Nat}{x m:Str}{id:String}{r:V->ax->Hp->VK->Prop}{u:List D->List D->Option (List D)}{e:Sh}{es:aF}{f:aC}{npos apos cpos pos:Pos}(slot:Slot "list" m id)(hty:typeOf (.builtin id)=pure (.type "method_descriptor"))(hm:Kg X id r)(ok:Al X.K r u)(hx:PE X (.Name x npos) (pP i))(he:FA X (e::es) f)
  (hbase:S9 (.Name x npos) m X.env (eval (.Name x npos) X.env)=eval (.Name x npos) X.env:=by rfl)
  (hfew:((backTo cpos (SA (e::es) X.env)).all (fun x=>!x.1) && (backToKw cpos (Tc [] X.env)).all (fun x=>x.1.isSome)
   && decide ((e::es:aF).length+([]:List Tx).length+(if([]:List Tx).isEmpty then 0 else 1)<30))=true:=by rfl)
  (hline:(apos.endLine==cpos.line)=true:=by rfl) (hs:SA (e::es) X.env=(false,eval e X.env)::SA es X.env:=by rfl) (hplain:(backTo cpos (SA es X.env)).any (·.1)=false:=by rfl)
  (hsw:swapsWith (.Call (.Attribute (.Name x npos) m apos) (e::es) [] cpos) none pos.line X.env=pure false:=by rfl):
  FM X j (.Expr (.Call (.Attribute (.Name x npos) m apos) (e::es) [] cpos) pos) (zn i u f):=λHb Ob q pins s σ H E I zq=>by
 obtain⟨O,ρ,k,rr,S,hj,mm,hF,hk⟩:=zq;rcases Cp i u f k ρ with⟨xs,hxs,fe⟩|fe<;>rw[fe]at hF
 ·skip
  obtain⟨a,ha,haO,hat⟩:=S.env.own i _ hxs;obtain⟨o,vs0,ho,eo,dn⟩:=hat;subst eo;refine qY (tQ F.plainAttrs_list slot hty hm hx he hbase hfew hline hs hplain) hsw pins s σ H E I ⟨.ref a,ha,.inl ⟨rfl,vs0,kg.of ho⟩,O,ρ,S.env,fH.onM hF hk S mm λds hr vs H1 s1 d1=>?_⟩;have S1:=S.same s1;cases hu1:u xs ds with
  |none=>rw[hu1]at hr;exact absurd hr.symm hk.ne
  |some ys=>
   rw[hu1]at hr;exact ok H1 O a xs ys ds vs0 vs _ S1.env.all haO (s1 _ _ ho) (dn.mono (bP s1)) d1 hu1 λws' v new=>hk.nx O _ σ _ (S1.setO hxs ha trivial (ji haO new)) hj mm hr
 ·exact absurd hF.symm hk.ne
theorem Bh{x:Str}{e:Sh}{es:aF}{f:aC}{np cpos:Pos}(hc:X.calm=true)(hx:ExcAt X.K X.mg x)(hg:Gl X x)(ha:FA X (e::es) f)
  (hdb:(x==("__debug__":Str))=false:=by decide) (hns:(e::es).all noStar=true:=by rfl):
  FM X j (.Raise (some (.Call (.Name x np) (e::es) [] cpos)) none pos) (eF x f):=λHb Ob ad pins s σ H E I zq=>by
 obtain⟨O,ρ,k,r,S,hj,mm,hF,hk⟩:=zq;obtain⟨C,cl,hm,hi⟩:=hx;obtain⟨tl,N,nm,q,bs,hdct,sn,sub,ab,col,dd,k0,k1,k2,k3,k5,mN,hC,hN,hni,T⟩:=(xk I.mod.kin hi x).obj;have st:SA (e::es) X.env=_:=aI (Pt _ _ ▸ hns).1;have plain:(backTo cpos (SA (e::es) X.env)).any (·.1)=false:=bn hns;refine wpAny_Raise_call_subT (k5:=k5) (k3:=k3) (k2:=k2) (k1:=k1) (k0:=k0) (dd:=dd) (col:=col) (ab:=ab) (sub:=sub) (sn:=sn) (hdct:=hdct) (bs:=bs) (N:=N) (q:=q) (nm:=nm) R8 (mN:=mN) (T.hasType PySem.F.excBase_ValueError.hasBase) (I.ok.hd hc) plain hni (gx I hg hm ⟨rfl,?_⟩ hdb);have A1:=ha cpos pins s σ H (λvs H1=>vs.length<=Ss/\aB H H1/\k.ex ⟨x,[],[]⟩ ρ=r) I ⟨O,ρ,S.env,fH.onM hF hk S mm λds e vs H' s' d'=>by
  have z:small ds.length=true:=by
   cases z:small ds.length with
   |true=>rfl
   |false=>rw[z]at e;exact absurd e.symm hk.ne
  rw[z]at e;exact⟨by rw[<-d'.length];exact dh z,s',e⟩⟩
 rw[st]at A1 ⊢;refine Calls.evalArgs_plain (dj A1 λus s2 zq=>zq.elim λvs zq=>zq.elim λH1 zq=>zq.elim λI1 zq=>zq.elim λrv zq=>zq.elim λq1 zq=>zq.elim λq2 q3=>⟨rfl,by rw[<-rv.length];exact q1,I1.bk _ _ hC,hN.keeps I1.bk,T.keeps I1.bk,λh' a m=>?_⟩);exact hk.ex O ρ σ H1 _ (S.same q2) mm q3 pins _ _ H1 (I1.kept (t':=s2.toks) m.keeps) (aB.refl H1) ⟨a,C,none,rfl,⟨cl,[],cC.mpr rfl,rfl,.inl rfl⟩,t0 I1 m⟩
theorem zG:zl X j body ql:=λHb Ob a pins s σ H E I zq=>by
 obtain⟨O,ρ,k,rr,S,hj,mm,hF,hk⟩:=zq;exact absurd hF.symm hk.ne
theorem Ej:FM X j st ql:=λHb Ob a pins s σ H E I zq=>by
 obtain⟨O,ρ,k,rr,S,hj,mm,hF,hk⟩:=zq;exact absurd hF.symm hk.ne
noncomputable def Kb:D->R (List D)
 |.lst xs=>.ok xs
 |_=>un
noncomputable def lX(g:cy)(f:FX):FX:=λρ=>(f ρ).bind λd=>(Kb d).bind λxs=>(dec (g [.lst xs])).bind λp=>.ok p.1
theorem yo{k k':Nat}{ps:ah}{g:cy}{f:FX}{x:Str}{p pos:Pos}{e:Sh}(C:iJ X.prog X.w X.K X.mg X.base k x ps g)(hn:Ar ps.length g)(hr:dq k' X.A)(hk:k<=k')(he:FN X e f)(hg:Gl X x:=by rfl)
  (hdb:(x==("__debug__":Str))=false:=by decide) (hns:noStar e=true:=by rfl):FE X (.Call (.Name x p) [e] [] pos) (lX g f):=by
 obtain⟨f',fd,F,b,kp,m⟩:=C;refine PE.weak (jm F (hr.mono hk) hg m kp b (eZ he kx (aI hns)) hdb (aI hns) (bn rfl)) λσ H Q zq=>?_;obtain⟨O,ρ,E,hF⟩:=zq;refine⟨O,ρ,E,(fH.bind hF).imp λd hF p H1 s1 hp mo own=>?_⟩;have hF:=fH.bind hF;obtain⟨xs,rfl⟩:∃xs,d=.lst xs:=by
  cases d with
  |lst xs=>exact⟨xs,rfl⟩
  |_=>exact hF.elim
 have hF:=fH.bind (show fH X σ O H ((dec (g [.lst xs])).bind λp=>.ok p.1) _ from hF);have ne':g [.lst xs]≠un:=λz=>by rw[z]at hF;exact hF
 have len:([V.ref p]:ax).length=ps.length:=hn _ ne';have back:∀{H'},gf p H1 H'->aB H H':=λx b o q=>x b o (aL q hp) (s1 b o q);have less:∀b∈O,b∈p::O:=λb hb=>OT _ hb;obtain⟨o,ho,mo'⟩:=mo;have oo:=(E.all.same s1).cons ho mo'
 match e:dec (g [.lst xs])with
 |.ok (d,ys)=>
  rw[e]at hF;refine⟨E0,lH,p::O,p,[],xs,[],rfl,len,oo,OS,own,cC.mpr rfl,?_⟩;rw[e];exact λv H' x _ _ dn=>hF v H' (back x) (dn.mono (eT less))
 |.error (some y)=>
  rw[e]at hF;refine⟨qc X O H y,lG hF,p::O,p,[],xs,[],rfl,len,oo,OS,own,cC.mpr rfl,?_⟩;rw[e];exact λC dx H' x _ ed=>⟨C,rfl,back x,ed.mono (eT less)⟩
 |.error none=>rw[e]at hF;exact hF.elim
end
noncomputable def yX(n:Nat):List D->ak
 |[]=>[]
 |d::ds=>some (.own d)::(ds.map (λd=>some (.val d))++List.replicate (n-(ds.length+1)) none)
noncomputable def oy(B:aS)(np n:Nat):cy:=λds=>if ds.length=np then B K0 (yX n ds)else un
theorem rC{B:aS}{np n:Nat}:Ar np (oy B np n):=λds h=>by
 unfold oy at h;split at h
 ·assumption
 ·exact absurd rfl h
theorem gY{n:Nat}{d:D}{ds:List D}(i:Nat)(x:S)(e:(yX n (d::ds))[i]?=some (some x)):(i=0/\x=.own d)\/∃l d',i=l+1/\ds[l]?=some d'/\x=.val d':=by
 cases i with
 |zero=>exact .inl ⟨rfl,(Option.some.inj (Option.some.inj e)).symm⟩
 |succ i=>
  have e:(ds.map (λd=>some (S.val d))++List.replicate (n-(ds.length+1)) none)[i]?=some (some x):=e;refine .inr ⟨i,?_⟩;by_cases hi:i<ds.length
  ·rw[Pl (by rw[O6];exact hi),Pm,PP hi]at e;exact⟨ds[i],rfl,by rw[PP hi],(Option.some.inj (Option.some.inj e)).symm⟩
  ·rw[Pj (by rw[O6];omega),O6,Pk]at e;split at e
   ·cases e
   ·cases e
section
variable{P:Sn}{w:Sl}{K:QR}{mg:bg}{base:Sr}
structure Fz(P:Sn)(w:Sl)(K:QR)(mg:bg)(base:Sr)(k:Nat)(N:ah)(qual:Str)(st:Si)(f:Sg)(B:aS):Prop where
 h:∀(cdv:Se)(A:Sw)(outer:List Env)(s:Sj)(H:Hp)(E:XK),dq k (A.deeper (RY qual (aj st) s.heap.objs.size f cdv))->SK (model P w) (A.deeper (RY qual (aj st) s.heap.objs.size f cdv)) (RY qual (aj st) s.heap.objs.size f cdv) (eY (gB P w) P w K mg base N qual (aj st) f cdv A outer s H E).xe->
  zl (eY (gB P w) P w K mg base N qual (aj st) f cdv A outer s H E) 0 (cH st) B
theorem BD{x qual:Str}{st:Si}{f:Sg}{fd:Te}{N ps:ah}{k:Nat}{B:aS}(F:kc K x qual st f fd)(SC:aO N ps (aj st))(hb:Fz P w K mg base k N qual st f B):
  fG P w K mg base (gB P w) (k+1) f fd ps (LJ K ps.length (oy B ps.length N.length)):=by
 refine Jm F SC (λvs H Q E h=>?_) λcdv A outer s H vs Q E hr h=>?_
 ·obtain⟨_,_,_,_,_,_,h1,_⟩:=h;exact h1
 ·obtain⟨O,a,ws,xs,ds,rfl,h1,h2,haO,own,h3,h4⟩:=h;have hl:(D.lst xs::ds).length=ps.length:=by rw[O3]at h1 ⊢;rw[h3.length];exact h1
  have e4:oy B ps.length N.length (.lst xs::ds)=B K0 (yX N.length (.lst xs::ds)):=by unfold oy;rw[if_pos hl]
  rw[e4]at h4
  let Hb:Hp:=λb=>if b=a then none else H b
  let Ob:ap:=O.filter λb=>decide (b≠a)
  have hba:Hb a=none:=if_pos rfl;have hb1:∀b o,b≠a->H b=some o->Hb b=some o:=λb o n q=>by show(if b=a then none else H b)=_;rw[if_neg n];exact q
  have sub:∀b∈Ob,b∈O:=λb z=>(List.mem_filter.mp z).1;have na:a∉Ob:=λz=>absurd rfl (of_decide_eq_true (List.mem_filter.mp z).2);have stG:∀(i:Nat) v,(V.ref a::ws)[i]?=some v->(L2.start N (V.ref a::ws))[i]?=some (some v):=λi v e=>by
   unfold L2.start;have hi:i<(V.ref a::ws).length:=(List.getElem?_eq_some_iff.mp e).1;rw[Pl (by rw[O6];exact hi),Pm,e];rfl
  have EO:eA K O H (yX N.length (.lst xs::ds)) (L2.start N (V.ref a::ws)):=by
   refine⟨λi d e=>?_,λi d e=>?_,λi l xs' ys b e1 e2 _ _=>?_,h2⟩
   ·rcases gY i _ e with⟨_,z⟩|⟨l,d',rfl,e1,z⟩
    ·cases z
    ·cases z;obtain⟨v,e3,e4⟩:=h3.get e1;exact⟨v,stG _ _ e3,e4⟩
   ·rcases gY i _ e with⟨rfl,z⟩|⟨l,d',rfl,e1,z⟩
    ·cases z;exact⟨a,stG 0 _ rfl,haO,own⟩
    ·cases z
   ·rcases gY i _ e1 with⟨rfl,_⟩|⟨l',d',rfl,_,z⟩
    ·rcases gY l _ e2 with⟨rfl,_⟩|⟨l',d',rfl,_,z⟩
     ·rfl
     ·cases z
    ·cases z
  have ES:bi K Hb Ob O H (yX N.length (.lst xs::ds)) (L2.start N (V.ref a::ws)):=by
   refine⟨EO,⟨λb o q=>?_,sub,λb hb=>?_⟩,λi d b e1 e2=>?_,λi d e=>?_⟩
   ·have q:(if b=a then none else H b)=some o:=q;split at q
    ·cases q
    ·exact q
   ·by_cases z:b=a
    ·rw[z];exact .inr hba
    ·exact .inl (List.mem_filter.mpr ⟨hb,decide_eq_true z⟩)
   ·rcases gY i _ e1 with⟨rfl,_⟩|⟨l',d',rfl,_,z⟩
    ·rw[stG 0 _ rfl]at e2;cases e2;exact⟨hba,na⟩
    ·cases z
   ·rcases gY i _ e with⟨rfl,z⟩|⟨l',d',rfl,_,z⟩<;>cases z
  refine⟨_,hb.h cdv A outer s H E hr PassesOwn.leaving Hb Ob a,O,_,K0,_,ES,stG 0 _ rfl,haO,rfl,?_⟩;generalize B K0 (yX N.length (.lst xs::ds))=r at h4;have sx:∀{O':ap}{H':Hp},Base Hb Ob H' O'->gf a H H':=λB b o n q=>B.same b o (hb1 b o n q);have le:∀{O':ap}{H':Hp},Base Hb Ob H' O'->a∈O'->∀b∈O,b∈O':=λB m b hb=>by
   by_cases z:b=a
   ·rw[z];exact m
   ·exact B.sub b (List.mem_filter.mpr ⟨hb,decide_eq_true z⟩)
  have nu:r≠un:=λz=>by rw[z]at h4;exact h4
  refine⟨nu,λO' ρ' σ' H' S hj m e=>?_,λO' ρ' σ' H' S hj m e=>absurd e.symm nu,λO' ρ' σ' H' S hj m e=>absurd e.symm nu,λd ys O' ρ' σ' v H' e S hj hys dv=>?_,λO' ρ' σ' H' x S m e=>?_⟩
  ·have e:(.ok .non:R D)=r:=e;rw[<-e]at h4;exact h4.elim
  ·rw[e]at h4;obtain⟨b,q1,q2,q3⟩:=S.env.own 0 _ hys;rw[hj]at q1;cases q1;have l:=le S.base q2;exact h4 v H' (sx S.base) (S.env.all.2 a q2) (q3.mono rfl (eT l)) (dv.mono (eT l))
  ·have e:(.error (some x):R D)=r:=e;rw[<-e]at h4;have l:=le S.base m;refine IL λC dx H1 s1 ed=>h4 C dx H1 ((sx S.base).trans (gf.of s1)) ?_ (ed.mono (eT l));obtain⟨o,q,mo⟩:=S.env.all.2 a m;exact⟨o,s1 _ _ q,mo⟩
theorem vL{x qual:Str}{st:Si}{f:Sg}{fd:Te}{N ps:ah}{k:Nat}{B:aS}(F:kc K x qual st f fd)(b:Binds K fd ps [])(m:mg x=some (.ref f))(SC:aO N ps (aj st))(hb:Fz P w K mg base k N qual st f B):
  iJ P w K mg base (k+1) x ps (oy B ps.length N.length):=⟨f,fd,BD F SC hb,b,F.kp,m⟩
end
end TG
namespace TG
open PySem PySem.Spec
theorem ml{M:Sy}{Γ:PySem.Ctx}{p:Pos}{t:Sem Fin}{fs:List Frame}{s s':Sj}{e:End}(h:Runs M Γ p t fs s e s'):s.toks<=s'.toks:=by
 induction h<;>first|exact OZ _|assumption|(rename_i ih;exact OM (Pb _) ih)|(rename_i ih1 ih2;exact OM ih1 ih2)|(simp only[Shared.setGen]at *;omega)
theorem wp_toks{α:Type}{M:Sy}{Γ:PySem.Ctx}{Q:α->Pos->Sj->Prop}{E:Se->Pos->Sj->Prop}:∀{t:Sem α}{p:Pos}{s:Sj},Sem.wp M Γ t (λa p' s'=>s.toks<=s'.toks->Q a p' s') (λa p' s'=>s.toks<=s'.toks->E a p' s') p s->Sem.wp M Γ t Q E p s:=by
 intro t p s h;have go:∀(n:Nat)(p:Pos)(s:Sj),n<=s.toks->Sem.wp M Γ t (λa p' s'=>n<=s'.toks->Q a p' s') (λa p' s'=>n<=s'.toks->E a p' s') p s->Sem.wp M Γ t Q E p s:=by
  intro n;clear h
  induction t with
  |pure a=>exact λp s z h=>h z
  |raise a=>exact λp s z h=>h z
  |unsupported _=>exact λp s z h=>h
  |finish _=>exact λp s z h=>h
  |rule _ k ih=>exact λp s z h=>ih () p s z h
  |«at» q k ih=>exact λp s z h=>ih () q s z h
  |load a _ k ih=>exact λp s z h=>let ⟨o,ho,h⟩:=h;⟨o,ho,ih o p s z h⟩
  |update a _ f k ih=>exact λp s z h=>⟨h.1,ih () p _ z h.2⟩
  |loadIfAlive a k ih=>exact λp s z h=>ih _ p s z h
  |point _ k ih=>exact λp s z h=>ih () p s z h
  |alloc o k ih=>exact λp s z h=>ih _ p _ z h
  |fresh k ih=>exact λp s z h=>ih _ p _ (Nat.le_succ_of_le z) h
  |ask k ih=>exact λp s z h=>ih _ p _ z h
  |stack k ih=>exact λp s z h=>ih _ p _ z h
  |choose src m k ih=>exact λp s z h=>⟨h.1,ih _ p _ z h.2⟩
  |os q l k ih=>exact λp s z h=>ih _ p _ z h
  |call c hd g l k ih=>exact λp s z h=>let ⟨r,s1,hr,h⟩:=h;⟨r,s1,hr,ih r p s1 (OM z (ml hr)) h⟩
  |handled o k ih=>exact λp s z h=>ih _ p _ z h
  |genState g k ih=>exact λp s z h=>let ⟨st,hs,h⟩:=h;⟨st,hs,ih _ p s z h⟩
  |newGen c k ih=>exact λp s z h=>ih _ p _ z h
  |resume g r l k ih=>
   exact λp s z h=>by
    obtain⟨res,s1,hw,h⟩:=h;refine⟨res,s1,hw,ih _ p s1 (OM z ?_) h⟩;unfold Wakes at hw;split at hw
    ·exact hw.elim
    ·split at hw
     ·obtain⟨e1,s2,hr,_,_,rfl⟩:=hw;have z:=ml hr;exact z
     ·rw[hw.2];exact OZ _
     ·rw[hw.2];exact OZ _
    ·obtain⟨e1,s2,hr,_,_,rfl⟩:=hw;have z:=ml hr;exact z
    ·rw[hw.2];exact OZ _
    ·rw[hw.2];exact OZ _
  |thread k ih=>exact λp s z h=>ih _ p _ z h
  |_=>exact λp s z h=>h.elim
 exact go s.toks p s (OZ _) h
theorem AU{α:Type}{M:Sy}{A:Sw}{t:Sem α}{Q:α->Sj->Prop}{E:Se->Sj->Prop}{s:Sj}(h:Sz M A t (λa s'=>s.toks<=s'.toks->Q a s') (λa s'=>s.toks<=s'.toks->E a s') s):Sz M A t Q E s:=
 λΓ p hi=>wp_toks (h Γ p hi)
noncomputable def qx{α:Type}:Sem α->Prop
 |.pure _=>False
 |.raise _=>True
 |.unsupported _=>True
 |.finish _=>True
 |.rule _ k=>qx (k ())
 |.at _ k=>qx (k ())
 |.load _ _ k=>∀o,qx (k o)
 |.update _ _ _ k=>qx (k ())
 |.loadIfAlive _ k=>∀o,qx (k o)
 |.point _ k=>qx (k ())
 |.alloc _ k=>∀a,qx (k a)
 |.fresh _=>True
 |.ask k=>∀a,qx (k a)
 |.stack k=>∀a,qx (k a)
 |_=>False
theorem qx.bind{α β:Type}{f:α->Sem β}:∀{m:Sem α},qx m->qx (m >>= f):=λ{m} h=>by
 show qx (m.bind f)
 induction m with
 |pure a=>exact h.elim
 |raise _=>trivial
 |unsupported _=>trivial
 |finish _=>trivial
 |rule _ k ih=>exact ih () h
 |«at» _ k ih=>exact ih () h
 |load _ _ k ih=>exact λo=>ih o (h o)
 |update _ _ g k ih=>exact ih () h
 |loadIfAlive _ k ih=>exact λo=>ih o (h o)
 |point _ k ih=>exact ih () h
 |alloc _ k ih=>exact λo=>ih o (h o)
 |fresh k ih=>trivial
 |ask k ih=>exact λo=>ih o (h o)
 |stack k ih=>exact λo=>ih o (h o)
 |_=>exact h.elim
theorem qx.wp{α:Type}{M:Sy}{Γ:PySem.Ctx}{Q:α->Pos->Sj->Prop}{E:Se->Pos->Sj->Prop}{t:Sem α}(d:qx t){p:Pos}{s:Sj}(h:Sem.wp M Γ t (λa p' s'=>0<s'.toks->Q a p' s') E p s):Sem.wp M Γ t Q E p s:=by
 induction t generalizing p s with
 |pure a=>exact d.elim
 |raise a=>exact h
 |unsupported _=>exact h
 |finish _=>exact h
 |rule _ k ih=>exact ih () d h
 |«at» q k ih=>exact ih () d h
 |load a _ k ih=>exact let ⟨o,ho,h⟩:=h;⟨o,ho,ih o (d o) h⟩
 |update a _ f k ih=>exact⟨h.1,ih () d h.2⟩
 |loadIfAlive a k ih=>exact ih _ (d _) h
 |point _ k ih=>exact ih () d h
 |alloc o k ih=>exact ih _ (d _) h
 |fresh k ih=>
  show Sem.wp M Γ (k s.toks) Q E p {s with toks:=s.toks+1};have h:Sem.wp M Γ (k s.toks) (λa p' s'=>0<s'.toks->Q a p' s') E p {s with toks:=s.toks+1}:=h;have h2:Sem.wp M Γ (k s.toks) (λa p' s'=>s.toks+1<=s'.toks->Q a p' s') (λa p' s'=>s.toks+1<=s'.toks->E a p' s') p {s with toks:=s.toks+1}:=by
   refine Sem.wp_mono M Γ (k s.toks) ?_ ?_ p _ h
   ·intro a p' s' x z;exact x (OI (Nat.succ_pos s.toks) z)
   ·intro a p' s' x z;exact x
  exact wp_toks h2
 |ask k ih=>exact ih _ (d _) h
 |stack k ih=>exact ih _ (d _) h
 |_=>exact d.elim
theorem qx.any{α:Type}{M:Sy}{A:Sw}{t:Sem α}(d:qx t){Q:α->Sj->Prop}{E:Se->Sj->Prop}{s:Sj}(h:Sz M A t (λa s'=>0<s'.toks->Q a s') E s):Sz M A t Q E s:=
 λΓ p hi=>d.wp (h Γ p hi)
theorem yL(ns:Sg)(x:Str)(v:Se):qx (nsSet ns x v):=by
 unfold nsSet;exact λ_=>trivial
theorem xY{env:Env}{x:Str}(v:Se)(hk:env.kindOf x=some .local)(hc:(env.scope.kind==.class||(env.scope.kind==.module&&env.locals !=env.globals))=false):qx (storeName env x v):=by
 unfold storeName;rw[hk,hc];exact yL _ _ _
noncomputable def NC{α:Type}:Sem α->Prop
 |.pure _=>True
 |.raise _=>True
 |.unsupported _=>True
 |.finish _=>True
 |.rule _ k=>NC (k ())
 |.at _ k=>NC (k ())
 |.load _ _ k=>∀o,NC (k o)
 |.update _ _ _ k=>NC (k ())
 |.loadIfAlive _ k=>∀o,NC (k o)
 |.point _ k=>NC (k ())
 |.alloc _ k=>∀a,NC (k a)
 |.fresh k=>∀a,NC (k a)
 |.ask k=>∀a,NC (k a)
 |.stack k=>∀a,NC (k a)
 |_=>False
theorem NC.both{α:Type}{M:Sy}{Γ:PySem.Ctx}{Q Q':α->Pos->Sj->Prop}{E E':Se->Pos->Sj->Prop}{t:Sem α}(d:NC t){p:Pos}{s:Sj}(h:Sem.wp M Γ t Q E p s)(h':Sem.wp M Γ t Q' E' p s):Sem.wp M Γ t (λa p s=>Q a p s/\Q' a p s) (λa p s=>E a p s/\E' a p s) p s:=by
 induction t generalizing p s with
 |pure a=>exact⟨h,h'⟩
 |raise a=>exact⟨h,h'⟩
 |unsupported _=>exact h
 |finish _=>exact h
 |rule _ k ih=>exact ih () d h h'
 |«at» q k ih=>exact ih () d h h'
 |load a _ k ih=>
  obtain⟨o,ho,h⟩:=h;obtain⟨o',ho',h'⟩:=h';rw[ho]at ho';cases ho';exact⟨o,ho,ih o (d o) h h'⟩
 |update a _ f k ih=>exact⟨h.1,ih () d h.2 h'.2⟩
 |loadIfAlive a k ih=>exact ih _ (d _) h h'
 |point _ k ih=>exact ih () d h h'
 |alloc o k ih=>exact ih _ (d _) h h'
 |fresh k ih=>exact ih _ (d _) h h'
 |ask k ih=>exact ih _ (d _) h h'
 |stack k ih=>exact ih _ (d _) h h'
 |_=>exact d.elim
theorem NC.any{α:Type}{M:Sy}{A:Sw}{t:Sem α}(d:NC t){Q Q':α->Sj->Prop}{E E':Se->Sj->Prop}{s:Sj}(h:Sz M A t Q E s)(h':Sz M A t Q' E' s):Sz M A t (λa s=>Q a s/\Q' a s) (λa s=>E a s/\E' a s) s:=λΓ p hi=>d.both (h Γ p hi) (h' Γ p hi)
theorem nq{α β:Type}{f:α->Sem β}(hf:∀a,NC (f a)):∀{m:Sem α},NC m->NC (m >>= f):=λ{m} h=>by
 show NC (m.bind f)
 induction m with
 |pure a=>exact hf a
 |raise _=>trivial
 |unsupported _=>trivial
 |finish _=>trivial
 |rule _ k ih=>exact ih () h
 |«at» _ k ih=>exact ih () h
 |load _ _ k ih=>exact λo=>ih o (h o)
 |update _ _ g k ih=>exact ih () h
 |loadIfAlive _ k ih=>exact λo=>ih o (h o)
 |point _ k ih=>exact ih () h
 |alloc _ k ih=>exact λo=>ih o (h o)
 |fresh k ih=>exact λo=>ih o (h o)
 |ask k ih=>exact λo=>ih o (h o)
 |stack k ih=>exact λo=>ih o (h o)
 |_=>exact h.elim
theorem A9(ns:Sg)(x:Str)(v:Se):NC (nsSet ns x v):=by
 unfold nsSet;refine nq (λh=>?_) (λ_=>trivial);refine nq (λk=>?_) (λ_=>trivial);refine nq (λo=>?_) (λ_=>trivial);split
 ·split
  ·trivial
  ·trivial
 ·trivial
theorem Ci{env:Env}{x:Str}(v:Se)(hk:env.kindOf x=some .local)(hc:(env.scope.kind==.class||(env.scope.kind==.module&&env.locals !=env.globals))=false):NC (storeName env x v):=by
 unfold storeName;rw[hk,hc];exact A9 _ _ _
theorem qx.bindR{α β:Type}{f:α->Sem β}(hf:∀a,qx (f a)):∀{m:Sem α},NC m->qx (m >>= f):=λ{m} h=>by
 show qx (m.bind f)
 induction m with
 |pure a=>exact hf a
 |raise _=>trivial
 |unsupported _=>trivial
 |finish _=>trivial
 |rule _ k ih=>exact ih () h
 |«at» _ k ih=>exact ih () h
 |load _ _ k ih=>exact λo=>ih o (h o)
 |update _ _ g k ih=>exact ih () h
 |loadIfAlive _ k ih=>exact λo=>ih o (h o)
 |point _ k ih=>exact ih () h
 |alloc _ k ih=>exact λo=>ih o (h o)
 |fresh k ih=>trivial
 |ask k ih=>exact λo=>ih o (h o)
 |stack k ih=>exact λo=>ih o (h o)
 |_=>exact h.elim
theorem uv{α β:Type}{f:α->β->Sem (ForInStep β)}(hf:∀a b,NC (f a b)):∀(l:List α)(b:β),NC (forIn l b f)
 |[],b=>by rw[Qb];trivial
 |a::l,b=>by
  rw[PB];refine nq (λr=>?_) (hf a b);cases r with
  |done b=>trivial
  |yield b=>exact uv hf l b
theorem Ff{scope:Sx}{g:Sg}{x qual:Str}{v code:Se}{r:List (Str×Se)}{func:Option Sg}{b:Sg}(hk:scope.kind=.function)(hx:scope.names.lookup x=some .local):qx (newFunctionEnv scope g [] ((x,v)::r) qual func code none b):=by
 unfold newFunctionEnv;refine qx.bindR (λL=>?_) (λ_=>trivial);refine qx.bindR (λcells=>?_) (uv (λa c=>?_) _ _)
 ·dsimp only;rw[PB];refine qx.bind (qx.bind (qx.bind (xY v ?_ ?_)))
  ·exact hx
  ·show(scope.kind==.class||(scope.kind==.module&&_))=false;rw[hk];rfl
 ·dsimp only;split
  ·exact λ_=>trivial
  ·trivial
open L2
open PyProof.Rows hiding St
noncomputable def IP(X:Cx)(st:cS)(t:TS):Prop:=
 ∀(pins:aM)(s:Sj)(σ:St)(H:Hp)(D:Ends),Inv X pins σ H s->0<s.toks->t D σ H->Sz (model X.prog X.w) X.A (execs st X.env) (SP X pins D) X.xe s
theorem HB{CX:sZ}{P:Sn}{w:Sl}{K:QR}{mg:bg}{base:Sr}{k:Nat}{f:Sg}{name qual:Str}{params:Arguments}{body:cS}{scope:Sx}{dV kV doc pm cdv ct oc:Se}{an od:Option Sg}
  {osl:Array (Option Se)} {N ps:ah} {sp:Sp} (lk:K.lookup f=some ⟨oc,od,.func (Rp name qual params body scope dV kV doc pm an cdv ct),osl⟩) (hcd:Rq K cdv qual=true) (S:aO N ps scope) (hp0:∃x0 r,ps=x0::r/\scope.names.lookup x0=some .local)
  (len:∀vs H Q E,sp vs H Q E->vs.length=ps.length)
  (hbody:∀ (A:Sw) (outer:List Env) (s:Sj) (H:Hp) (vs:ax) (Q:VK) (E:XK),dq k (A.deeper (envOfC qual scope s.heap.objs.size f cdv))->sp vs H Q E ->
   ∃t,IP (eY CX P w K mg base N qual scope f cdv A outer s H E) body t/\t {nx:=λ_ H'=>Q .non H',rt:=Q} (start N vs) H):
  fG P w K mg base CX (k+1) f (Rp name qual params body scope dV kV doc pm an cdv ct) ps sp:=by
 refine⟨len,λA outer s H args us vs Q E hr e0 hb r hsp=>?_⟩;have hl:=len _ _ _ _ hsp;have KX:K.In s.heap:=e0.mod.kin.keeps λb o e=>(e0.bs b o e).1;have lim:s.heap.NoLimit:=e0.mod.nolimit.keeps λb o e=>(e0.bs b o e).1;have hkind:∀y∈ps.zip us,scope.names.lookup y.1=some .local\/(scope.names.lookup y.1=some .cell/\((cellsFrom (s.heap.objs.size+1) scope.names []).lookup y.1).isSome=true):=λ⟨n,v⟩ hy=>by
  rcases S.par n (Pg hy).1 with q|q
  ·exact .inl q
  ·exact .inr ⟨q,Ro _ _ _ (.inl q)⟩
 refine codeAny_call_function hr.depth (KX _ _ lk) rfl S.co S.gen rfl (Rr KX hcd) (hb _ _ _ _ ?_);obtain⟨x0,r0,rfl,hx0⟩:=hp0;obtain⟨u0,ur,eu⟩:∃u0 ur,us=u0::ur:=by
  have hlu:=r.length;cases us with
  |nil=>rw[hl]at hlu;cases hlu
  |cons a b=>exact⟨a,b,rfl⟩
 refine qx.any ?tk (Tj S.kind hkind λenv he s1 x tk0=>?_)
 case tk=>subst eu;exact Ff S.kind hx0
 subst he;refine⟨lim.keeps x.toInCall.keep,codeAny_func ?_⟩;obtain⟨t,ht,hq⟩:=hbody A outer s H vs Q E (hr.deeper _) hsp;have I:Inv (eY CX P w K mg base N qual scope f cdv A outer s H E) [] (start N vs) H s1:=qt S hr.hd e0 hl r x;refine SD (ht [] s1 (start N vs) H _ I tk0 hq) (λfl s' hs=>?_) λe s' hs=>hs;have fin:∀{σ':St}{H':Hp}{v:V}{u:Se},Inv (eY CX P w K mg base N qual scope f cdv A outer s H E) [] σ' H' s'->RelV v u->Q v H'->CE outer P w H s Q u s':=
  λ{σ' H' v u} J rv q=>⟨v,H',J.os,J.bare,J.base,J.hok,rv,q⟩
 cases fl with
 |ret u=>
  obtain⟨v,σ',H',J,rv,q⟩:=hs;exact fin J rv q
 |next=>
  obtain⟨σ',H',J,q⟩:=hs;exact fin (v:=V.non) (u:=Value.none) J rfl q
 |brk=>
  obtain⟨_,_,_,q⟩:=hs;exact False.elim q
 |cont=>
  obtain⟨_,_,_,q⟩:=hs;exact False.elim q
theorem pf{X:Cx}{pins:aM}{σ:L2.St}{H:Hp}{s:Sj}{x:Str}{m:bg}{u:Se}{pos:Pos}{Q:bf}{E:bf}(I:Inv X pins σ H s)(hk:X.env.scope.names.lookup x=some .local)(hn:s.heap.Ns X.env.locals m)(hm:m x=some u)(h:Q u s)(hd:(x==("__debug__":Str))=false:=by decide):
  Sz (model X.prog X.w) X.A (eval (.Name x pos) X.env) Q E s:=SE (wpAny_loadName_local I.ok.kind hk hn hm h) hd
theorem xj{prog:Sn}{w:Sl}{A:Sw}{E:bf}{s:Sj}{x y:Str}{t u:Tok}{Q:bf}(hx:x.length≠0)(hy:y.length≠0)(hz:(x++y).length<=Ss)(h:Q (.str (x++y) s.toks) {s with toks:=s.toks+1}):
  Sz (model prog w) A (SV .Add (.str x t) (.str y u)) Q E s:=by
 refine PySem.P.add_str ?_;rw[if_neg (by simp[hx]),if_neg (by simp[hy])];exact⟨hz,h⟩
noncomputable def rm(c:Str):Str:=((" ":Str)++c)++(" ":Str)
theorem ER(c:Str):(rm c).length=c.length+2:=by
 unfold rm Str.length;show(_++_++_:Str).cps.size=_;show((((" ":Str).cps++c.cps)++(" ":Str).cps).size)=_;rw[Array.size_append,Array.size_append]
 have:(" ":Str).cps.size=1:=by decide
 omega
section
variable{X:Cx}{pins:aM}{σ:L2.St}{H:Hp}{s:Sj}{i:Nat}{xt xb y c:Str}{tk:Tok}{m:bg}{E:bf}{p1 p2 p3 p4 p5 p6 p7 p8:Pos}{k1 k2:Nat}
theorem xo(I:Inv X pins σ H s)(hi:X.N[i]?=some xt)(ht:X.env.scope.names.lookup xt=some .local)(hb:X.env.scope.names.lookup xb=some .local)(hn:s.heap.Ns X.env.locals m)(hm:m xb=some (.str c tk))(h0:0<tk)(h1:tk<s.toks)(hy:σ[i]?=some (some (.str y)))(hl:y.length<=100000)(hc:c.length=1)
  {Q:bf} (hQ:∀t k,Q (.str (Txt.replace y c (rm c)) t) {s with toks:=k})
  (hdt:(xt==("__debug__":Str))=false:=by decide) (hdb:(xb==("__debug__":Str))=false:=by decide)
  (hbase:S9 (.Name xt p1) "replace" X.env (eval (.Name xt p1) X.env)=eval (.Name xt p1) X.env:=by rfl)
  (hfew:((backTo p8 (SA [.Name xb p3,.BinOp (.BinOp (.Constant (.str " ") k1 p4) .Add (.Name xb p5) p6) .Add (.Constant (.str " ") k2 p7) p2] X.env)).all (fun x=>!x.1) && (backToKw p8 (Tc [] X.env)).all (fun x=>x.1.isSome)
   && decide (([.Name xb p3,.BinOp (.BinOp (.Constant (.str " ") k1 p4) .Add (.Name xb p5) p6) .Add (.Constant (.str " ") k2 p7) p2]:aF).length+([]:List Tx).length+(if([]:List Tx).isEmpty then 0 else 1)<30))=true:=by rfl)
  {apos:Pos} (hline:(apos.endLine==p8.line)=true:=by rfl):
  Sz (model X.prog X.w) X.A (eval (.Call (.Attribute (.Name xt p1) "replace" apos) [.Name xb p3,.BinOp (.BinOp (.Constant (.str " ") k1 p4) .Add (.Name xb p5) p6) .Add (.Constant (.str " ") k2 p7) p2] [] p8) X.env) Q E s:=by
 refine wpAny_Call_method_late hbase hfew hline rfl ?_;obtain⟨m',hn',hl'⟩:=I.loc;obtain⟨u,ru,lk⟩:=hl' i xt _ hi hy (.inl ht);obtain⟨t,rfl⟩:=ru;rcases lk with⟨hk,hmt⟩|⟨hk,_⟩
 rotate_left
 ·rcases hk with hk|hk<;>(have z:X.env.scope.names.lookup xt=_:=hk;rw[ht]at z;cases z)
 refine pf I ht hn' hmt ?_ hdt;refine⟨"str","str.replace",R9,PySem.F.slot_str_replace,PySem.F.type_str_replace,Tw _ _ _,?_,?_⟩
 ·exact(λo z=>nomatch z)
 refine Calls.callWith_builtin (by rfl) (Calls.evalArgs_plain ?_);refine Calls.spliced_cons (pf I hb hn hm ?_ hdb);refine Calls.spliced_cons (wpAny_BinOp (wpAny_BinOp (Calls.Constant_str (pf (I.tok _) hb hn hm ?_ hdb))));have hs:(" ":Str).length=1:=by decide
 have a1:((" ":Str)++c).length=2:=by
  show((" ":Str).cps++c.cps).size=2;rw[Array.size_append];have e1:(" ":Str).cps.size=1:=by decide
  have e2:c.cps.size=1:=hc;omega
 have a2:=ER c;refine xj (by rw[hs];decide) (by rw[hc];decide) (by rw[a1,S5];decide) ?_;refine Calls.Constant_str ?_;refine xj (by rw[a1];decide) (by rw[hs];decide) ?_ ?_
 ·show(rm c).length<=_;rw[a2,hc,S5];decide
 refine Calls.spliced_nil ?_;have nt:tk≠0:=OY h0;refine SC.replace nt ?_ ?_ ?_ ?_ λt' k=>hQ t' k
 ·show(s.toks+1+1+1:Nat)≠0;omega
 ·show(tk:Nat)≠(s.toks+1+1+1:Nat);exact OL (OI h1 (Qf s.toks 3))
 ·show(c==rm c)=false;cases h:c==rm c with
  |false=>rfl
  |true=>
   have e:=eq_of_beq h
   have:c.length=(rm c).length:=(by rw[<-e]);omega
 ·show y.length+(y.length+1)*(rm c).length<=_;rw[a2,hc];omega
end
variable[al]
noncomputable def iT:bx->Str->Option Str
 |[],y=>some y
 |c::cs,y=>if y.length<=100000 then iT cs (Txt.replace y ⟨#[c]⟩ (rm ⟨#[c]⟩))else none
noncomputable def Cr(i j:Nat)(bs:Str):aS:=λk ρ=>match ρ[i]? with
 |some (some (.val (.str y)))=>match iT bs.cps.toList y with
  |some z=>k.nx (setV i (.str z) (ρ.set j none))
  |none=>un
 |_=>un
section
variable{X:Cx}{i j:Nat}{xt xb xB bs:Str}{tb:Tok}{p0 p1 p2 p3 p4 p5 p6 p7 p8 p9 p10 p11 p12:Pos}{k1 k2:Nat}
theorem DI(hij:i≠j)(hN:X.N.Nodup)(hi:X.N[i]?=some xt)(hj:X.N[j]?=some xb)(ht:X.env.scope.names.lookup xt=some .local)(hb:X.env.scope.names.lookup xb=some .local)(hg:Gl X xB)(hm:X.mg xB=some (.str bs tb))(ha:bs.cps.all (·<128)=true)
  (hp:SK (model X.prog X.w) X.A X.env X.xe) (hc:X.calm=true)
  (hdt:(xt==("__debug__":Str))=false:=by decide) (hdb:(xb==("__debug__":Str))=false:=by decide) (hdB:(xB==("__debug__":Str))=false:=by decide)
  (hbase:S9 (.Name xt p1) "replace" X.env (eval (.Name xt p1) X.env)=eval (.Name xt p1) X.env:=by rfl)
  (hfew:((backTo p8 (SA [.Name xb p3,.BinOp (.BinOp (.Constant (.str " ") k1 p4) .Add (.Name xb p5) p6) .Add (.Constant (.str " ") k2 p7) p2] X.env)).all (fun x=>!x.1) && (backToKw p8 (Tc [] X.env)).all (fun x=>x.1.isSome)
   && decide (([.Name xb p3,.BinOp (.BinOp (.Constant (.str " ") k1 p4) .Add (.Name xb p5) p6) .Add (.Constant (.str " ") k2 p7) p2]:aF).length+([]:List Tx).length+(if([]:List Tx).isEmpty then 0 else 1)<30))=true:=by rfl)
  {apos:Pos} (hline:(apos.endLine==p8.line)=true:=by rfl)
  (hsw:swapsWith (.Call (.Attribute (.Name xt p1) "replace" apos) [.Name xb p3,.BinOp (.BinOp (.Constant (.str " ") k1 p4) .Add (.Name xb p5) p6) .Add (.Constant (.str " ") k2 p7) p2] [] p8) (some (.Name xt p9)) p10.line X.env=pure false:=by rfl)
  (hs:∀x,SU (.Name xB p11) X.env x=pure x:=by intro _;rfl)
  (Hb:Hp) (Ob:ap) (pins:aM) (s:Sj) (σ:L2.St) (H:Hp) (E:Ends) (I:Inv X pins σ H s) (tk:0<s.toks) (zq:FD X Hb Ob (Cr i j bs) E σ H):
  Sz (model X.prog X.w) X.A (exec (.For (.Name xb p12) (.Name xB p11) [.Assign [.Name xt p9] (.Call (.Attribute (.Name xt p1) "replace" apos) [.Name xb p3,.BinOp (.BinOp (.Constant (.str " ") k1 p4) .Add (.Name xb p5) p6) .Add (.Constant (.str " ") k2 p7) p2] [] p8) p10] [] p0) X.env) (SP X pins E) X.xe s:=by
 obtain⟨O,ρ,k,r,S,hF,hk⟩:=zq;obtain⟨y0,hy0,z,hz,hF⟩:∃y,ρ[i]?=some (some (.val (.str y)))/\∃z,iT bs.cps.toList y=some z/\k.nx (setV i (.str z) (ρ.set j none))=r:=by
  unfold Cr at hF;split at hF
  ·rename_i y hy;split at hF
   ·rename_i z hz;exact⟨y,hy,z,hz,hF⟩
   ·exact absurd hF.symm hk.ne
  ·exact absurd hF.symm hk.ne
 obtain⟨v0,hv0,dv0⟩:=S.env.val i _ hy0;rw[fF]at dv0;subst dv0;have hcls:(X.env.scope.kind==.class||(X.env.scope.kind==.module&&X.env.locals !=X.env.globals))=false:=by rw[I.ok.kind];rfl
 refine wpAny_For (gx I hg hm (wpAny_pyIter_ascii ha ?_) hdB) hs
 let it:Sg:=s.heap.objs.size
 have I1:Inv X pins σ H {s with heap:=s.heap.push {cls:=.type "str_ascii_iterator",data:=.fields #[.str bs tb,.int 0 0]}}:=I.kept (t':=s.toks) λb o e=>RP _ e;have f0:oM X pins H it:=I.fpOk (OZ _) (I.hok.fresh (OZ _));have hiσ:i<σ.length:=by rw[I.len];exact(List.getElem?_eq_some_iff.mp hi).1
 have S0:bi X.K Hb Ob O H (setV i (.str y0) (ρ.set j none)) σ:=by
  have:=(S.none j).setV hiσ (d:=.str y0) (v:=.str y0) (fF.mpr rfl)
  have e:σ.set i (some (.str y0))=σ:=by
   apply Qu;intro n;rw[List.getElem?_set];split
   ·rename_i h;subst h;exact hv0.symm
   ·rfl
  rw[e]at this;exact this
 refine codeAny_forLoop_any (λn s'=>∃q σ' y,Inv X pins σ' H s'/\s'.heap.IsStrIter it "str_ascii_iterator" bs tb q/\0<s'.toks/\n=bs.cps.size-q/\bi X.K Hb Ob O H (setV i (.str y) (ρ.set j none)) σ'/\σ'[i]?=some (some (.str y))/\iT (bs.cps.toList.drop q) y=some z) ?_ bs.cps.size
  ⟨0,σ,y0,I1,⟨_,RM _ rfl,rfl,rfl⟩,tk,(P6 _).symm,S0,hv0,by rw[PJ];exact hz⟩
 rintro n s3 ⟨q,σ3,y,I3,st3,tk3,rfl,S3,hy3,hr⟩;by_cases hq:q<bs.cps.size
 ·have hx:bs.cps[q]?=some bs.cps[q]:=by simp[hq]
  have hd:bs.cps.toList.drop q=bs.cps[q]::bs.cps.toList.drop (q+1):=by
   rw[P9 (by simpa using hq)];simp
  rw[hd]at hr;have hyl:y.length<=100000:=by
   unfold iT at hr;split at hr
   ·assumption
   ·cases hr
  have hr2:iT (bs.cps.toList.drop (q+1)) (Txt.replace y ⟨#[bs.cps[q]]⟩ (rm ⟨#[bs.cps[q]]⟩))=some z:=by
   unfold iT at hr;rw[if_pos hyl]at hr;exact hr
  have hjσ:∀{σ':L2.St}{s':Sj}{pp:aM},Inv X pp σ' H s'->j<σ'.length/\i<σ'.length:=λJ=>by
   rw[J.len];exact⟨(List.getElem?_eq_some_iff.mp hj).1,(List.getElem?_eq_some_iff.mp hi).1⟩
  refine SL hp (T4 st3 hx λh4 st4 sb=>?_);have I4:Inv X pins σ3 H {s3 with heap:=h4,toks:=s3.toks+1}:=I3.turned (λb o hb e=>(sb.2 b hb).trans e) f0.1 f0.2.1 f0.2.2.2.1 f0.2.2.2.2.1 f0.2.2.2.2.2;obtain⟨oi,ei,ci,di⟩:=id st4;refine SL hp (ux (s:={s3 with heap:=h4,toks:=s3.toks+1}) ei ci di (by decide) ?_);have I4':=I4.pinned (fp:=[it]) (λb hb=>by rw[List.mem_singleton.mp hb];exact f0) (λb hb=>⟨oi,by rw[List.mem_singleton.mp hb];exact ei,λv e=>by rw[di]at e;cases e⟩);have mp:(it,oi)∈j8 [it] h4:=gC (List.mem_singleton.mpr rfl) ei;refine SL hp (SJ ?_);obtain⟨m4,hn4,_⟩:=id I4'.loc;have st1:=jb (M:=model X.prog X.w) (A:=X.A) (E:=X.xe) (u:=.str ⟨#[bs.cps[q]]⟩ s3.toks) (Q:=λ_ s'=>Inv X (pins++j8 [it] h4) (σ3.set j (some (.str ⟨#[bs.cps[q]]⟩))) H s') I4' hN hj (.inl hb) (v:=.str ⟨#[bs.cps[q]]⟩) ⟨_,rfl⟩ (λs' I'=>I') (.inr hb);have st2:Sz (model X.prog X.w) X.A (storeName X.env xb (.str ⟨#[bs.cps[q]]⟩ s3.toks)) (λ_ s'=>∃m,s'.heap.Ns X.env.locals m/\m xb=some (.str ⟨#[bs.cps[q]]⟩ s3.toks)) X.xe {s3 with heap:=h4,toks:=s3.toks+1}:=wpAny_storeName_local hb hn4 (λh' hn' hs=>⟨_,hn',by simp⟩) hcls;refine AU (SD (NC.any (Ci _ hb hcls) st1 st2) (λ_ s5 z5 tk5=>?_) λ_ s5 z5 _=>z5.1);obtain⟨I5,m5,hn5,hm5⟩:=z5;have tk5:s3.toks+1<=s5.toks:=tk5;refine SL hp (AU ?_);refine SH (wpAny_Assign_Name ?_ hsw);obtain⟨hj3,hi3⟩:=hjσ I3;refine xo I5 hi ht hb hn5 hm5 tk3 (OI (O8 _) tk5) (by rw[OW (Ne.symm hij)];exact hy3) hyl rfl (λt' k'=>?_) hdt hdb hbase hfew hline;refine jb (v:=.str (Txt.replace y ⟨#[bs.cps[q]]⟩ (rm ⟨#[bs.cps[q]]⟩))) (I5.tok k') hN hi (.inl ht) ⟨_,rfl⟩ (λs7 I7=>?_) (.inr ht);refine SG λtk7=>⟨bs.cps.size-(q+1),by omega,q+1,_,_,I7.unpinned,?_,?_,rfl,?_,?_,hr2⟩
  ·exact⟨oi,(I7.pin _ (O0 _ (O0 _ mp))).1,ci,di⟩
  ·have z:s5.toks<=s7.toks:=tk7;omega
  ·have S4:=((S3.setV hj3 (d:=.str ⟨#[bs.cps[q]]⟩) (v:=.str ⟨#[bs.cps[q]]⟩) (fF.mpr rfl)).none j).setV (i:=i) (by rw[P8];exact hi3) (d:=.str (Txt.replace y ⟨#[bs.cps[q]]⟩ (rm ⟨#[bs.cps[q]]⟩))) (v:=.str (Txt.replace y ⟨#[bs.cps[q]]⟩ (rm ⟨#[bs.cps[q]]⟩))) (fF.mpr rfl);have e:setV i (.str (Txt.replace y ⟨#[bs.cps[q]]⟩ (rm ⟨#[bs.cps[q]]⟩))) ((setV j (.str ⟨#[bs.cps[q]]⟩) (setV i (.str y) (ρ.set j none))).set j none)=setV i (.str (Txt.replace y ⟨#[bs.cps[q]]⟩ (rm ⟨#[bs.cps[q]]⟩))) (ρ.set j none):=by
    unfold setV;rw[Qt,List.set_comm _ _ hij,Qt,Qt]
   rw[e]at S4;exact S4
  ·rw[OV (by rw[P8];exact hi3)]
 ·have hx:bs.cps[q]?=none:=by simp;omega
  refine SL hp (wpAny_pyNext_ascii_end (I3.ok.hd hc) st3 hx λh' eb=>?_);have I4:Inv X pins σ3 H {s3 with heap:=h'}:=I3.turned (t':=s3.toks) (λb o hb e=>eb b o hb e) f0.1 f0.2.1 f0.2.2.2.1 f0.2.2.2.2.1 f0.2.2.2.2.2;refine SG ⟨σ3,H,I4,hk.nx O _ σ3 H S3 ?_⟩
  have:bs.cps.toList.drop q=[]:=by apply List.drop_of_length_le;simp;omega
  rw[this]at hr;cases hr;exact hF
end
theorem yQ{prog:Sn}{w:Sl}{A:Sw}{E:bf}{s:Sj}{x:Str}{t:Tok}{Q:bf}(hsz:x.length+2<=Ss)
  (h:∀l k,l.map (·.1)=Txt.words x->Q (.ref s.heap.objs.size) {s with heap:=s.heap.push {cls:=.type "list",data:=.seq (strValues l).toArray},toks:=k}):
  Sz (model prog w) A (call (.builtin "str.split") [.str x t]) Q E s:=by
 have hn:(Builtin.Str.spaceWords x (x.length+1)).length<=Ss:=by
  have e1:=(StrLaws.sw_weight x).1;have e2:=StrLaws.len_le_wsum (Builtin.Str.spaceWords x (x.length+1));omega
 refine call_meets Sa (Tw _ _ _) PySem.F.entry_str_split (PySem.F.args_str_split_1 _) (meets_str_split_space x t ‹0› hn) ?_;cases hw:Builtin.Str.spaceWords x (x.length+1)==[(0,x.length)]
 ·simp only[PC,if_false];rw[strsFrom_eq];exact h (numbered s.toks (wordsOf x)) _ ((numbered_texts _ _).trans (if_neg (ne_true_of_eq_false hw)).symm)
 ·simp only[if_true];exact h [(x,t)] s.toks (if_pos hw).symm
theorem oY:∀l:List (Str×Tok),Vals ((l.map (·.1)).map V.str) (strValues l)
 |[]=>.nil
 |(x,t)::l=>.cons ⟨t,rfl⟩ (oY l)
theorem yD(x:Str):(Txt.words x).length<=x.length+1:=by
 have:=StrLaws.words_weight x
 omega
noncomputable def nA:D->aY
 |.str x=>if x.length<=100000 then some (.lst ((Txt.words x).map .str))else none
 |_=>none
theorem yy{X:Cx}:IW X "str.split" (λx xs H Q=>∃z,x=.str z/\xs=[]/\z.length<=100000/\∀p,H p=none->Q (.ref p) (upd H p (.lst ((Txt.words z).map .str)))):=by
 rintro pins s σ H x xs v us Q I rx rs ⟨z,rfl,rfl,hz,q⟩;obtain⟨t,rfl⟩:=rx;cases rs;have wl:=yD z;refine yQ (by rw[S5];omega) λl k e=>⟨.ref s.heap.objs.size,_,I.lnew (its:=strValues l) (t':=k) (ys:=(Txt.words z).map .str) ?_ ?_,rfl,q _ I.fresh⟩
 ·rw[<-e];exact oY l
 ·rw[O6,S5];omega
theorem yx{X:Cx}{a:Sh}{fa:FX}{apos cpos:Pos}(ha:FE X a fa)(hbase:S9 a "split" X.env (eval a X.env)=eval a X.env:=by rfl)(hline:(apos.endLine==cpos.line)=true:=by rfl):
  FE X (.Call (.Attribute a "split" apos) [] [] cpos) (f1 nA fa):=
 PE.weak (B8 R9 Sa PySem.F.type_str_split yy ha hbase hline) λσ H Q zq=>by
  obtain⟨O,ρ,E,hF⟩:=zq;refine⟨O,ρ,E,(fH.bind hF).imp λx hF v H1 s1 d1=>?_⟩;obtain⟨d,e,q⟩:=fH.rO hF;cases x with
  |str z=>
   have e:(if z.length<=100000 then some (D.lst ((Txt.words z).map .str))else none)=some d:=e;by_cases hz:z.length<=100000
   ·rw[if_pos hz]at e;cases e;rw[fF.mp d1];refine⟨rfl,z,rfl,rfl,hz,λp hp=>?_⟩;exact q _ _ (s1.trans (cZ hp _)) (gS (E.all.same s1) hp (kh _))
   ·rw[if_neg hz]at e;cases e
  |_=>cases e
noncomputable def N6(X:Cx)(st:Si)(F:aS):Prop:=∀(Hb:Hp)(Ob:ap)(pins:aM)(s:Sj)(σ:L2.St)(H:Hp)(E:Ends),Inv X pins σ H s->0<s.toks->FD X Hb Ob F E σ H->Sz (model X.prog X.w) X.A (exec st X.env) (SP X pins E) X.xe s
noncomputable def HM(X:Cx)(st:cS)(F:aS):Prop:=∀(Hb:Hp)(Ob:ap),IP X st (FD X Hb Ob F)
theorem yV{X:Cx}{st:Si}{rest:cS}{F1 F2:aS}(h1:N6 X st F1)(h2:JO X rest F2):HM X (st::rest) (aq F1 F2):=λHb Ob pins s σ H D I tk zq=>by
 obtain⟨O,ρ,k,r,S,hF,hk⟩:=zq;refine SH (dj (h1 Hb Ob pins s σ H {D with nx:=FD X Hb Ob F2 D} I tk ⟨O,ρ,{k with nx:=F2 k},r,S,hF,hk.ne,λO' ρ' σ' H' S' e=>⟨O',ρ',k,r,S',e,hk⟩,hk.bk,hk.ct,hk.rt,hk.ex⟩) λf s1 q=>?_);cases f with
 |next=>
  obtain⟨σ',H',I',q⟩:=q;exact h2 Hb Ob pins s1 σ' H' D I' q
 |ret v=>exact q
 |brk=>exact q
 |cont=>exact q
section
variable{P:Sn}{w:Sl}{K:QR}{mg:bg}{base:Sr}
structure Gg(P:Sn)(w:Sl)(K:QR)(mg:bg)(base:Sr)(k:Nat)(N:ah)(qual:Str)(st:Si)(f:Sg)(B:aS):Prop where
 h:∀(cdv:Se)(A:Sw)(outer:List Env)(s:Sj)(H:Hp)(E:XK),dq k (A.deeper (RY qual (aj st) s.heap.objs.size f cdv))->SK (model P w) (A.deeper (RY qual (aj st) s.heap.objs.size f cdv)) (RY qual (aj st) s.heap.objs.size f cdv) (eY (gB P w) P w K mg base N qual (aj st) f cdv A outer s H E).xe->
  HM (eY (gB P w) P w K mg base N qual (aj st) f cdv A outer s H E) (cH st) B
theorem ME{x qual:Str}{st:Si}{f:Sg}{fd:Te}{N ps:ah}{k:Nat}{sp:Sp}{CX:sZ}(F:kc K x qual st f fd)(S:aO N ps (aj st))(hp0:∃x0 r,ps=x0::r/\(aj st).names.lookup x0=some .local)(len:∀vs H Q E,sp vs H Q E->vs.length=ps.length)
  (hbody:∀ (cdv:Se) (A:Sw) (outer:List Env) (s:Sj) (H:Hp) (vs:ax) (Q:VK) (E:XK),dq k (A.deeper (RY qual (aj st) s.heap.objs.size f cdv))->sp vs H Q E ->
   ∃t,IP (eY CX P w K mg base N qual (aj st) f cdv A outer s H E) (cH st) t/\t {nx:=λ_ H'=>Q .non H',rt:=Q} (L2.start N vs) H):fG P w K mg base CX (k+1) f fd ps sp:=by
 obtain⟨oc,od,kV,doc,pm,an,cdv,ct,osl,rfl,lk,hcd⟩:=F.ex;exact HB lk hcd S hp0 len λA outer s H vs Q E hr hsp=>hbody cdv A outer s H vs Q E hr hsp
theorem Br{x qual:Str}{st:Si}{f:Sg}{fd:Te}{N ps:ah}{k:Nat}{B:aS}(F:kc K x qual st f fd)(SC:aO N ps (aj st))(hp0:∃x0 r,ps=x0::r/\(aj st).names.lookup x0=some .local)(hb:Gg P w K mg base k N qual st f B):
  fG P w K mg base (gB P w) (k+1) f fd ps (yr K ps.length (au B ps.length N.length)):=by
 refine ME F SC hp0 (λvs H Q E h=>?_) λcdv A outer s H vs Q E hr h=>?_
 ·obtain⟨O,ds,h1,_⟩:=h;exact h1
 ·obtain⟨O,ds,h1,h2,h3,h4⟩:=h;have hl:ds.length=ps.length:=h3.length.trans h1;have e4:au B ps.length N.length ds=B K0 (env0 N.length ds):=by unfold au;rw[if_pos hl]
  rw[e4]at h4;refine⟨_,hb.h cdv A outer s H E hr PassesOwn.leaving H O,O,env0 N.length ds,K0,_,⟨o8 h2 h3,⟨aB.refl H,λ_ z=>z,λa z=>.inl z⟩,λi xs a e=>?_,λi d e=>by obtain⟨d',_,e2⟩:=gF i _ e;cases e2⟩,rfl,?_⟩
  ·obtain⟨d',_,e2⟩:=gF i _ e;cases e2
  ·generalize B K0 (env0 N.length ds)=r at h4;refine⟨λz=>by rw[z]at h4;exact h4,λO' ρ' σ' H' S e=>?_,λO' ρ' σ' H' S e=>?_,λO' ρ' σ' H' S e=>?_,λd O' v H' e b dv=>?_,λO' ρ' σ' H' x S e=>?_⟩
   ·have e:(.ok .non:R D)=r:=e;subst e;exact h4 .non H' S.base.same (ip.mpr rfl)
   ·have e:(un:R D)=r:=e;subst e;exact h4.elim
   ·have e:(un:R D)=r:=e;subst e;exact h4.elim
   ·subst e;exact h4 v H' b.same (dv.mono (eT b.sub))
   ·have e:(.error (some x):R D)=r:=e;subst e;exact BJ h4 S.base.same S.base.sub
theorem uZ{x qual:Str}{st:Si}{f:Sg}{fd:Te}{N ps:ah}{k:Nat}{B:aS}(F:kc K x qual st f fd)(b:Binds K fd ps [])(m:mg x=some (.ref f))(SC:aO N ps (aj st))(hp0:∃x0 r,ps=x0::r/\(aj st).names.lookup x0=some .local)(hb:Gg P w K mg base k N qual st f B):
  Callee P w K mg base (k+1) x ps (au B ps.length N.length):=⟨f,fd,Br F SC hp0 hb,b,F.kp,m⟩
end
end TG
namespace TG
open PySem PySem.Spec L2
variable[al]
noncomputable def JI(K:QR)(p:Str×List Str)(q:Key×Se):Prop:=q.1=.inr p.1/\∃t,q.2=.ref t/\KTup K t p.2
noncomputable def zm(P:Sn)(w:Sl)(K:QR)(mg:bg)(x:Str)(kvs:List (Str×List Str)):Prop:=
 ∃(a:Sg)(vs:List (Key×Se)),mg x=some (.ref a)/\(a==sysModules)=false/\(∀h:Sr,K.In h->h.DictOf (fX P w) a vs)/\Sq (JI K) kvs vs
theorem Gi{K:QR}{kvs:List (Str×List Str)}{vs:List (Key×Se)}(h:Sq (JI K) kvs vs)(y:Str):
  (valueAt vs (Sum.inr y:Key)=none/\kvs.lookup y=none)\/∃t xs,valueAt vs (Sum.inr y:Key)=some (.ref t)/\kvs.lookup y=some xs/\KTup K t xs:=by
 induction h with
 |nil=>exact .inl ⟨rfl,rfl⟩
 |@cons p q ps qs h1 h2 ih=>
  obtain⟨e1,t,e2,kt⟩:=h1;obtain⟨pk,pv⟩:=p;obtain⟨qk,qv⟩:=q;have e1:qk=.inr pk:=e1;have e2:qv=.ref t:=e2;subst e1 e2;by_cases z:y=pk
  ·subst z;refine .inr ⟨t,pv,?_,?_,kt⟩
   ·unfold valueAt;rw[List.find?_cons_of_pos (by simp)];rfl
   ·rw[Pz,beq_self_eq_true]
  ·have n1:valueAt ((Sum.inr pk,Value.ref t)::qs) (Sum.inr y:Key)=valueAt qs (Sum.inr y):=by
    unfold valueAt;rw[List.find?_cons_of_neg];simp only[decide_eq_true_eq];intro e;exact z (Sum.inr.inj e).symm
   have n2:List.lookup y ((pk,pv)::ps)=List.lookup y ps:=by
    rw[Pz];cases hb:y==pk with
    |true=>exact absurd (eq_of_beq hb) z
    |false=>rfl
   rw[n1,n2];exact ih
noncomputable def Gh(kvs:List (Str×List Str)):D->aY
 |.str y=>(kvs.lookup y).map .kt
 |_=>none
noncomputable def zj(kvs:List (Str×List Str)):D->aY
 |.str y=>some (.bl (!(kvs.lookup y).isSome))
 |_=>none
section
variable{X:Cx}{x:Str}{kvs:List (Str×List Str)}{e:Sh}{f:FX}{p pos:Pos}
theorem CV(C:zm X.prog X.w X.K X.mg x kvs)(hg:Gl X x)(he:FE X e f)(hs:Iw e)(hd:(x==("__debug__":Str))=false:=by decide):FE X (.Subscript (.Name x p) e pos) (f1 (Gh kvs) f):=by
 obtain⟨a,vs,h1,h2,h3,h4⟩:=C;intro pins s σ H Q I zq;obtain⟨O,ρ,E,hF⟩:=zq;have hE:=he pins s σ H (λv H1=>∃y xs t,v=.str y/\kvs.lookup y=some xs/\valueAt vs (Sum.inr y:Key)=some (.ref t)/\Q (.ref t) H1) I ⟨O,ρ,E,(fH.bind hF).imp λd hF v H1 s1 d1=>by
  obtain⟨r,er,q⟩:=fH.rO hF;cases d with
  |str y=>
   have er:(kvs.lookup y).map D.kt=some r:=er;rcases Gi h4 y with⟨z1,z2⟩|⟨t,xs,z1,z2,kt⟩
   ·rw[z2]at er;cases er
   ·rw[z2]at er;cases er;exact⟨y,xs,t,fF.mp d1,z2,z1,q _ H1 s1 (MV.mpr ⟨t,rfl,kt⟩)⟩
  |_=>cases er⟩
 refine CU PySem.F.slot_dict_getitem.lookup hs (gx I hg h1 (dj hE λiv s2 zq=>?_) hd);obtain⟨yv,H2,I2,ry,y,xs,t,rfl,z2,z1,q⟩:=zq;have dd:=h3 s2.heap I2.kIn;exact⟨dd.typeIs,wpAny_getItem_of (FP (k:=Sum.inr y) ry) dd.mapOf z1 ⟨.ref t,H2,I2.tok _,rfl,q⟩⟩
theorem Gk{a:Sg}{vs:List (Key×Se)}(h2:(a==sysModules)=false)(h3:∀h:Sr,X.K.In h->h.DictOf (fX X.prog X.w) a vs):iZ X (SW .NotIn) (λx y H Q=>∃z,x=.str z/\y=.ref a/\Q (.bl (!(valueAt vs (Sum.inr z:Key)).isSome)) H):=by
 rintro pins s σ H x y u v Q I rx ry ⟨z,rfl,rfl,q⟩;cases ry;have dd:=h3 s.heap I.kIn;exact wpAny_notIn_of (FP (k:=Sum.inr z) rx) h2 dd.mapOf ⟨.bl _,H,I.tok _,rfl,q⟩
theorem BK{a:Sg}{vs:List (Key×Se)}(h4:Sq (JI X.K) kvs vs):∀σ H Q,tF X (f1 (zj kvs) f) σ H Q->IY (λx y H Q=>∃z,x=.str z/\y=.ref a/\Q (.bl (!(valueAt vs (Sum.inr z:Key)).isSome)) H) (tF X f) (tC (.ref a)) σ H Q:=λσ H Q zq=>by
 obtain⟨O,ρ,E,hF⟩:=zq;refine⟨O,ρ,E,(fH.bind hF).imp λd hF v H1 s1 d1=>?_⟩;obtain⟨r,er,q⟩:=fH.rO hF;cases d with
 |str y=>
  cases er;refine⟨y,fF.mp d1,rfl,q _ H1 s1 (iz.mpr ?_)⟩;rcases Gi h4 y with⟨z1,z2⟩|⟨t,xs,z1,z2,_⟩<;>rw[z1,z2]<;>rfl
 |_=>cases er
theorem Ji(C:zm X.prog X.w X.K X.mg x kvs)(hg:Gl X x)(he:FE X e f)(hd:(x==("__debug__":Str))=false:=by decide):FE X (.Compare e [.NotIn] [.Name x p] pos) (f1 (zj kvs) f):=by
 obtain⟨a,vs,h1,h2,h3,h4⟩:=C;exact PE.weak (v7 (Gk h2 h3) he (jL (v:=.ref a) hg h1 rfl hd) rfl) (BK h4)
theorem Ja(C:zm X.prog X.w X.K X.mg x kvs)(hg:Gl X x)(he:FE X e f)(hd:(x==("__debug__":Str))=false:=by decide):FT X (.Compare e [.NotIn] [.Name x p] pos) (fB (f1 (zj kvs) f)):=by
 obtain⟨a,vs,h1,h2,h3,h4⟩:=C;exact PT.weak (wW (Gk h2 h3) he (jL (v:=.ref a) hg h1 rfl hd) rfl) (o7 (BK h4))
end
theorem He{P:Sn}{w:Sl}{K:QR}{mg:bg}{x:Str}{kvs:List (Str×List Str)}{a:Sg}{es:Array Tz}{ep:Nat}{vs:List (Key×Se)}(h1:mg x=some (.ref a))(h2:(a==sysModules)=false)(h3:K.lookup a=some {cls:=.type "dict",data:=.dict es ep})
  (h4:KeysOf (fX P w) es) (h5:Pairs (fX P w) es.toList vs) (h6:(vs.map (·.1)).Nodup) (h7:Sq (JI K) kvs vs):zm P w K mg x kvs:=
 ⟨a,vs,h1,h2,λh kin=>⟨_,es,ep,kin _ _ h3,⟨rfl,rfl,rfl⟩,rfl,h4,h5,h6⟩,h7⟩
end TG
namespace TG
open PySem PySem.Spec
theorem xC:typeLookup (.type "list_reverseiterator") "__len__"=pure none:=by rw[typeLookup_type,builtinLookup_eq_fast];kernel_rfl
theorem AD:typeLookup (.type "list_reverseiterator") "__length_hint__"=pure (some (.builtin "list_reverseiterator.__length_hint__")):=by rw[typeLookup_type,builtinLookup_eq_fast];kernel_rfl
section
variable{prog:Sn}{w:Sl}{A:Sw}{E:Se->Sj->Prop}{s:Sj}{r l:Sg}{items:Array Se}
noncomputable def KQ(items:Array Se)(i:Nat)(v:Se):Prop:=items[items.size-1-i]?=some v
theorem Aj{Q:Bool->Sj->Prop}(hT:s.TypeIs (.ref r) "list_reverseiterator")(h:Q false s):Sz (model prog w) A (Builtin.List.listLengthHint (.ref r)) Q E s:=by
 unfold Builtin.List.listLengthHint;refine SN (TB hT xC ?_);show Sz _ A (specialOf (Value.ref r) (Str.ofString "__length_hint__") >>= _) _ _ _;refine SN (TB hT AD ?_);generalize hid:("list_reverseiterator.__length_hint__":String)=id0
 wp_delta
 rw[show splitId id0=some ("list_reverseiterator","__length_hint__")from by subst hid;decide +kernel];subst hid;refine SN (wpAny_isInstance (b:=true) hT (by rw[isSubtype_type];kernel_rfl) ?_);exact SM h
theorem vU{R:S6->Sj->Prop}(hh:A.handled=none)(hne:l≠r)(hit:s.heap.IsRevIter r l ((items.size:Int)-1))(hl:s.heap.IsList l items)(S:Sg)(hSr:S≠r)(hSl:S≠l)(res:Se)(c₀:Nat)(hS:s.heap.get? S=some {cls:=.type "list",data:=.seq #[] c₀})
  (hR:∀h' tk acc' c',(∀b o,b≠S->b≠r->s.heap.get? b=some o->h'.get? b=some o)->h'.get? S=some {cls:=.type "list",dict:=none,data:=.seq acc' c',slots:=#[]}->ItemsOf (KQ items) acc' items.size->R (.ok (.ret res)) {s with heap:=h',toks:=tk}) (hn:items.size<=Ss):
  Sz (model prog w) A.in1 (Builtin.List.listExtendWith (.ref S) (.ref r) res)
   (λfin s'=>match fin with|.done f=>R (.ok f) s'|.again c'=>c'.quiet=true/\S8 (model prog w) A c' R s') (λe s'=>R (.error e) s') s:=by
 have hSf:S∉[r,l]:=by simp only[Qc,Qd,or_false,not_or];exact⟨hSr,hSl⟩
 have W:=Walks.listRev (prog:=prog) (w:=w) (A:=A.in1) hh r l hne items;have st0:(0:Nat)<=items.size/\s.heap.IsRevIter r l ((items.size:Int)-1-((0:Nat):Int))/\s.heap.IsList l items:=⟨O9 _,by simpa using hit,hl⟩
 have key:S8 (model prog w) A (.builtin "list.extend.loop" ⟨[.ref S,.ref r,res],[]⟩) R s:=by
  refine codeAny_extend_loopS W.toS hn S hSf res items.size 0 _ #[] c₀ rfl (O9 _) st0 hS (ItemsOf.nil _) λs' acc' c' hm hS' hacc=>?_;rw[Moved.eq_with hm];refine hR s'.heap s'.toks acc' c' (λb o hb hr e=>hm.heap b o (λhmem=>?_) e) hS' hacc;rcases List.mem_cons.mp hmem with e'|hmem
  ·exact hb e'
  ·exact hr (List.mem_singleton.mp hmem)
 unfold Builtin.List.listExtendWith;refine SN (Tu (T:="list_reverseiterator") hit.typeIs ?_);have h1:Builtin.List.listSameRef (.ref S) (.ref r)=false:=by simp[Builtin.List.listSameRef,hSr]
 rw[if_neg (by rw[h1];decide)];refine SN (wpAny_pyIter_revIter hit ?_);refine SN (Tr (Aj hit.typeIs ?_));rw[if_neg (by decide)];exact SM ⟨plainId_quiet PySem.F.plain_extend_loop _,key⟩
theorem BP{Q:Se->Sj->Prop}(hh:A.handled=none)(hne:l≠r)(hit:s.heap.IsRevIter r l ((items.size:Int)-1))(hl:s.heap.IsList l items)(hn:items.size<=Ss)
  (hQ:∀h' tk acc' c',(∀b o,b≠r->s.heap.get? b=some o->h'.get? b=some o)->h'.get? s.heap.objs.size=some {cls:=.type "list",dict:=none,data:=.seq acc' c',slots:=#[]}->ItemsOf (KQ items) acc' items.size->Q (.ref s.heap.objs.size) {s with heap:=h',toks:=tk}):
  Sz (model prog w) A (call (.type "list") [.ref r]) Q E s:=by
 refine callType_codes (Q₁:=λobj s₁=>obj=.ref s.heap.objs.size/\s₁={s with heap:=s.heap.push {cls:=.type "list",data:=.seq #[]}}) PySem.F.called_list (PySem.F.typeCall_list_1 _) PySem.F.entry_list_init
  (code_list_new _ ⟨rfl,rfl⟩) λobj s₁ h₁=>?_
 obtain⟨rfl,rfl⟩:=h₁;have hS:(s.heap.push {cls:=.type "list",data:=.seq #[]}).get? s.heap.objs.size=some {cls:=.type "list",data:=.seq #[]}:=RM _ rfl;have lr:r<s.heap.objs.size:=by obtain⟨_,ho,_⟩:=id hit;exact RN ho
 have ll:l<s.heap.objs.size:=by obtain⟨_,ho,_⟩:=id hl;exact RN ho
 have nr:s.heap.objs.size≠r:=OY lr;have nl:s.heap.objs.size≠l:=OY ll;refine⟨⟨_,hS,rfl⟩,PySem.F.args_list_init_2 _ _,?_⟩;show Sz _ _ (do let old<-Builtin.List.listItems (.ref s.heap.objs.size);Builtin.List.listUpdate (.ref s.heap.objs.size) (λ_=>#[]);letGo old.toList.reverse;Builtin.List.listExtendWith (.ref s.heap.objs.size) (.ref r) .none) _ _ _;refine SN ?_;unfold Builtin.List.listItems;refine SN (TK hS rfl (SM ?_));show Sz _ _ (updateSeq s.heap.objs.size (λ_=>#[]) >>= λ_=>letGo (#[]:Array Se).toList.reverse >>= λ_=>Builtin.List.listExtendWith (.ref s.heap.objs.size) (.ref r) .none) _ _ _;refine SN (wpAny_updateSeq hS rfl ?_);have hS₂:=RV (Obj.mapSeq (λ_=>(#[]:Array Se))) hS rfl;have oth:∀b o,b≠s.heap.objs.size->(s.heap.push {cls:=.type "list",data:=.seq #[]}).get? b=some o->((s.heap.push {cls:=.type "list",data:=.seq #[]}).update s.heap.objs.size (Obj.mapSeq (λ_=>(#[]:Array Se)))).get? b=some o:=
  λb o hb e=>(RT _ _ (Ne.symm hb)).trans e
 refine SN (TV ?_);have up:∀b o,s.heap.get? b=some o->((s.heap.push {cls:=.type "list",data:=.seq #[]}).update s.heap.objs.size (Obj.mapSeq (λ_=>(#[]:Array Se)))).get? b=some o:=λb o e=>oth b o (OL (RN e)) (RP _ e);refine vU (A:=A.in1) hh hne (hit.at λo e=>up r o e) (hl.at λo e=>up l o e) _ nr nl .none _ hS₂ (λh' tk acc' c' hk hS' hacc=>?_) hn;exact⟨rfl,hQ h' tk acc' c' (λb o hb e=>hk b o (OL (RN e)) hb (up b o e)) hS' hacc⟩
end
open L2
variable[al]
theorem Ft{xs:ax}{its:aP}{acc:Array Se}(r:Vals xs its)(h:ItemsOf (KQ its.toArray) acc its.toArray.size):Vals xs.reverse acc.toList:=by
 have e:acc.toList=its.reverse:=by
  apply Qu;intro j;by_cases hj:j<its.length
  ·have hz:acc.size=its.length:=(by rw[h.1];simp);have q:=h.2 j acc[j] (by simp[hz,hj]);unfold KQ at q;rw[List.getElem?_reverse hj];rw[O2,List.getElem?_toArray]at q;rw[Array.getElem?_toList,q];simp[hz,hj]
  ·have hz:acc.size=its.length:=(by rw[h.1];simp);rw[Qv (by rw[Array.length_toList,hz];omega),Qv (by rw[Qw];omega)]
 rw[e];exact Vals.reverse r
noncomputable def qu:D->aY
 |.lst xs=>some (.lst xs.reverse)
 |_=>none
theorem D4{X:Cx}{a:Sh}{f:FX}{p q pos pos':Pos}(hc:X.calm=true)(hg:Gl X "list")(hm:X.mg "list"=none)(hg':Gl X "reversed")(hm':X.mg "reversed"=none)(ha:FE X a f)(hns:noStar a=true:=by rfl):
  FN X (.Call (.Name "list" p) [.Call (.Name "reversed" q) [a] [] pos'] [] pos) (f1 qu f):=by
 intro pins s σ H Q I zq;obtain⟨O,ρ,E,hF⟩:=zq;have hA:=ha pins s σ H (λv H1=>∃xs vs l,v=.ref l/\kg X.K H1 l vs/\aB H H1/\aJ X.K (hid H1 O) xs vs/\∀p H',aB H H'->H p=none->(∃o,H' p=some o/\jd o)->gq X.K H' (p::O) p (.lst xs.reverse)->Q (.ref p) H') I ⟨O,ρ,E,(fH.bind hF).imp λd hF v H1 s1 d1=>by
  obtain⟨r,er,q⟩:=fH.rO hF;cases d with
  |lst xs=>
   cases er;obtain⟨l,vs,rfl,g1,g2⟩:=cw.mp d1;exact⟨xs,vs,l,rfl,(az H1 O).seq g1,s1,g2,q⟩
  |_=>cases er⟩
 refine R0 (ka I hg hm PyProof.Rows.boot_list (RW ?_ (aI rfl) (bn rfl)));rw[aI (es:=[]) (env:=X.env) (e:=.Call (.Name "reversed" q) [a] [] pos') rfl];refine Calls.spliced_cons (R0 (ka I hg' hm' PyProof.Rows.boot_reversed (RW ?_ (aI hns) (bn rfl))));rw[aI (es:=[]) (env:=X.env) hns];refine Calls.spliced_cons (dj hA λv s1 zq=>Calls.spliced_nil ?_);obtain⟨y,H1,I1,rv,xs,vs,l,rfl,sq,sm,dn,q⟩:=zq;cases rv;obtain⟨its,rvs,pl,hz⟩:=I1.list sq;have hl:=pl.isList;refine call_reversed_list hl (Calls.spliced_nil ?_);have ll:l<s1.heap.objs.size:=by obtain⟨_,ho,_⟩:=id hl;exact RN ho
 have hln:=rvs.length;refine BP (s:={s1 with heap:=s1.heap.push (revObj l ((its.toArray.size:Int)-1))}) (I1.ok.hd hc) (OL ll) ⟨_,RM _ rfl,rfl,rfl⟩ (hl.at λo e=>RP _ e) (by rw[O2];omega) λh' tk acc' c' hk hS hacc=>?_;have e1:(s1.heap.push (revObj l ((its.toArray.size:Int)-1))).objs.size=s1.heap.objs.size+1:=RQ _ _;have le:s1.heap.objs.size<=(s1.heap.push (revObj l ((its.toArray.size:Int)-1))).objs.size:=by rw[e1];omega
 have kp:∀b u,s1.heap.get? b=some u->h'.get? b=some u:=λb u e=>hk b u (OL (RN e)) (RP _ e);have vr:=Ft rvs hacc;have fr:=I1.hok.fresh le;refine⟨.ref _,_,I1.laid (t':=tk) (o:=.lst vs.reverse) kp le ?_,rfl,q _ _ (sm.trans (cZ fr _)) (sm.free fr) ⟨_,aT,trivial⟩ (mO fr dn.reverse)⟩;exact⟨by rw[Qw];exact hz,acc'.toList,c',vr,by rw[Array.toArray_toList];exact hS⟩
end TG
namespace TG
open PySem PySem.Spec L2
variable[al]
section
variable{X:Cx}
noncomputable def Cq(K:QR):V->ax->Hp->VK->Prop:=λx xs H Q=>∃z l ys,x=.str z/\xs=[.ref l]/\lN K H l (ys.map V.str)/\(ys.map (λy=>y.length)).sum+ys.length*z.length<=100000/\Q (.str (Txt.join z ys)) H
theorem Ae:IW X "str.join" (Cq X.K):=by
 rintro pins s σ H x xs v us Q I rx rs ⟨z,l,ys,ex,exs,hl,hz,q⟩;subst ex exs;obtain⟨t,rfl⟩:=rx;obtain⟨u,rfl⟩:∃u,us=[u]:=by
  cases rs with
  |cons _ t=>cases t;exact⟨_,rfl⟩
 have ru:RelV (.ref l) u:=by cases rs with|cons h _=>exact h
 cases ru;obtain⟨its,r,ht,_⟩:=I.tuple hl;exact PyProof.Rows.join_tuple ht (rq r) ‹0› λt' k=>⟨.str _,H,I.tok _,⟨_,rfl⟩,q⟩
noncomputable def oI(z:Str)(as:List D):aY:=match as with
 |[.tup xs]=>(iP xs).bind λys=>if small ((ys.map (λy=>y.length)).sum+ys.length*z.length)then some (.str (Txt.join z ys))else none
 |_=>none
noncomputable def oZ(f:FX)(g:aC):FX:=λρ=>(f ρ).bind λa=>(rO (Gf a)).bind λz=>(g ρ).bind λds=>rO (oI z ds)
theorem jx(f:FX)(g:aC)(ρ:ak):oZ f g ρ=(f ρ).bind λa=>(rO (Gf a)).bind λz=>(g ρ).bind λds=>rO (oI z ds):=rfl
theorem pT{K:QR}{H:Hp}{O:ap}{z:Str}{ds:List D}{d:D}{vs:ax}{Q:VK}(hg:oI z ds=some d)(hd:aJ K (hid H O) ds vs)(q:∀v,eL K (hid H O) d v->Q v H):Cq K (.str z) vs H Q:=by
 unfold oI at hg;split at hg
 ·rename_i xs;cases e:iP xs with
  |none=>rw[e]at hg;cases hg
  |some ys=>
   rw[e]at hg;obtain⟨h1,h2⟩:=bp hg;subst h2;obtain⟨v,ev,h1'⟩:=hd.one;obtain⟨l,ws,el,hl,hw⟩:=cx.mp h1';rw[mC e]at hw;rw[mF hw]at hl;exact⟨z,l,ys,rfl,by rw[ev,el],bO (az H O) hl,of_decide_eq_true h1,q _ (fF.mpr rfl)⟩
 ·cases hg
end
end TG
namespace TX
open PySem PySem.Spec L2 TG
variable[al]
structure XE(X:Cx)(e:Sh)(F:FX):Prop where h:FE X e F
structure XT(X:Cx)(e:Sh)(F:aX):Prop where h:FT X e F
structure XW(X:Cx)(e:Sh)(F:aX):Prop where h:FW X e F
structure XA(X:Cx)(e:aF)(F:aC):Prop where h:FA X e F
structure XS(X:Cx)(e:Si)(F:aS):Prop where h:FS X e F
structure ua(X:Cx)(e:cS)(F:aS):Prop where h:JO X e F
structure XI(X:Cx)(t e:Sh)(F:aC):Prop where h:FI X t e F
structure XG(X:Cx)(e:Sh)(F:GF):Prop where h:FG X e F
structure GD(X:Cx)(e:aF)(F:CK):Prop where h:N2 X e F
structure XO(X:Cx)(e:Option Sh)(F:ak->R et):Prop where h:FO X e F
structure XN(X:Cx)(e:Sh)(F:FX):Prop where h:FN X e F
structure JL(X:Cx)(e:aF)(F:aX):Prop where h:Mx X e F
structure XV(X:Cx)(e:Sh)(i:Nat):Prop where h:PE X e (pP i)
structure XB(X:Cx)(scope:Sx)(N:ah)(tg elt:Sh)(ifs:aF)(g:GF)(C:aX)(Fe:FX)(cl:lQ)(C':Sg)(fp:ap)(s:Sj)(H:Hp)(E:bf):Prop where
 a:XG (bH X scope N cl C' fp s H E) tg g
 b:JL (bH X scope N cl C' fp s H E) ifs C
 c:XE (bH X scope N cl C' fp s H E) elt Fe
structure pJ(X:Cx)(scope:Sx)(N:ah)(tg elt:Sh)(ifs:aF)(g:GF)(C:aX)(Fe:FX):Prop where
 q:∀cl C' fp s H E,XB X scope N tg elt ifs g C Fe cl C' fp s H E
theorem pJ.h{X:Cx}{scope:Sx}{N:ah}{tg elt:Sh}{ifs:aF}{g:GF}{C:aX}{Fe:FX}(x:pJ X scope N tg elt ifs g C Fe):Nf X scope N tg elt ifs g C Fe:=λcl C' fp s H E=>⟨(x.q cl C' fp s H E).a.h,(x.q cl C' fp s H E).b.h,(x.q cl C' fp s H E).c.h⟩
theorem xv{X:Cx}(i:Nat){x:Str}{pos:Pos}(hN:X.N[i]?=some x:=by rfl)(hv:H0 X.env.scope x:=by first|exact Or.inl rfl|exact Or.inr (Or.inl rfl)|exact Or.inr (Or.inr rfl))(hd:(x==("__debug__":Str))=false:=by decide)
  (hcd:(x==("__classdict__":Str))=false:=by decide):XV X (.Name x pos) i:=⟨pv i hN hv hd hcd⟩
theorem Nb{X:Cx}{e:Sh}{f:aX}(h:XW X e f):XT X e f:=⟨FW.ft h.h⟩
section
variable[al]{X:Cx}
theorem Ee{i:Nat}{x:Str}{pos:Pos}(h:XV X (.Name x pos) i):XE X (.Name x pos) (ae i):=⟨PE.weak h.h λσ H Q zq=>zq.elim λO zq=>zq.elim λρ zq=>zq.elim λE hF=>by
  obtain⟨d,e,q⟩:=yG hF;obtain⟨v,e,dv⟩:=E.val i d e;exact⟨v,e,q v H (aB.refl H) dv⟩⟩
theorem Fm{i j pos}:XE X (.Constant (.int i) j pos) (fC (.int i)):=⟨ju Hy λ_ _=>gv.mpr rfl⟩
theorem GR{b j pos}:XE X (.Constant (.bool b) j pos) (fC (.bl b)):=⟨ju J3 λ_ _=>iz.mpr rfl⟩
theorem Dp{x j pos}:XE X (.Constant (.str x) j pos) (fC (.str x)):=⟨ju Iu λ_ _=>fF.mpr rfl⟩
theorem wm:XA X [] af:=⟨TG.MS ⟩
theorem nY{e:Sh}{es:aF}{f:FX}{g:aC}(he:XE X e f)(hs:XA X es g)(hns:noStar e=true:=by rfl):XA X (e::es) (aa f g):=⟨TG.Ki he.h hs.h hns⟩
theorem DE{es:aF}{g:aC}{k pos}(h:XA X es g):XE X (.Tuple es k pos) (dZ g):=⟨PE.weak (GC h.h) λσ H Q zq=>zq.elim λO zq=>zq.elim λρ zq=>zq.elim λE hF=>⟨O,ρ,E,(fH.bind hF).imp λxs hF vs H1 s1 d1=>by
  obtain⟨d,e,q⟩:=fH.rO hF;obtain⟨hz,e⟩:=bp e;subst e;refine⟨by rw[<-d1.length];exact dh hz,λp hp=>?_⟩;exact q _ _ (s1.trans (cZ hp _)) (gh (E.all.same s1) hp d1)⟩⟩
theorem E8{es:aF}{g:aC}{pos}(h:XA X es g):XE X (.List es pos) (gH g):=⟨PE.weak (B9 h.h) λσ H Q zq=>zq.elim λO zq=>zq.elim λρ zq=>zq.elim λE hF=>⟨O,ρ,E,(fH.bind hF).imp λxs hF vs H1 s1 d1=>by
  obtain⟨d,e,q⟩:=fH.rO hF;obtain⟨hz,e⟩:=bp e;subst e;refine⟨by rw[<-d1.length];exact dh hz,λp hp=>?_⟩;exact q _ _ (s1.trans (cZ hp _)) (gS (E.all.same s1) hp d1)⟩⟩
theorem jN{a b:Sh}{op:Operator}{r:R2}{g:D->D->aY}{fa fb:FX}{pos:Pos}(ho:iZ X (SV op) r)(s:dC X.K r g)(ha:XE X a fa)(hb:XE X b fb):XE X (.BinOp a op b pos) (f2 g fa fb):=⟨PE.weak (JM ho ha.h hb.h) (se s)⟩
theorem kE{a b:Sh}{op:SY}{r:R2}{g:D->D->aY}{fa fb:FX}{pos:Pos}(ho:iZ X (SW op) r)(s:dC X.K r g)(ha:XE X a fa)(hb:XE X b fb)(hm:SZ op b=false):XE X (.Compare a [op] [b] pos) (f2 g fa fb):=⟨PE.weak (v7 ho ha.h hb.h hm) (se s)⟩
theorem kY{a b:Sh}{op:SY}{r:R2}{g:D->D->aY}{fa fb:FX}{pos:Pos}(ho:iZ X (SW op) r)(s:dC X.K r g)(ha:XE X a fa)(hb:XE X b fb)(hm:SZ op b=false):XT X (.Compare a [op] [b] pos) (fB (f2 g fa fb)):=⟨PT.weak (wW ho ha.h hb.h hm) (o7 (se s))⟩
end
section
variable[al]{X:Cx}{a b c:Sh}{rest:aF}{pos:Pos}{f g:aX}
theorem Dw(h:XT X a f):XT X (.UnaryOp .Not a pos) (gk f):=⟨PT.weak (HX h.h) λσ H Q ⟨O,ρ,E,hF⟩=>⟨O,ρ,E,(fH.bind hF).imp λb q H1 s1=>q H1 s1⟩⟩
theorem Ay(h:XT X a f):XW X (.BoolOp .And [a] pos) f:=⟨CQ h.h⟩
theorem E6(h:XT X a f):XW X (.BoolOp .Or [a] pos) f:=⟨Ic h.h⟩
theorem EI(ha:XT X a f)(hb:XW X (.BoolOp .And (b::rest) pos) g):XW X (.BoolOp .And (a::b::rest) pos) (Ck f g):=⟨PW.weak (HF ha.h hb.h) λσ H Q zq=>zq.elim λO zq=>zq.elim λρ zq=>zq.elim λE hF=>⟨O,ρ,E,(fH.bind hF).imp λc hF H1 s1=>by
 cases c with
 |true=>exact pR ⟨O,ρ,E.same s1,(hF.mono s1).imp λb q H2 s2=>q H2 (s1.trans s2)⟩
 |false=>exact pL (hF H1 s1)⟩⟩
theorem HI(ha:XT X a f)(hb:XW X (.BoolOp .Or (b::rest) pos) g):XW X (.BoolOp .Or (a::b::rest) pos) (vB f g):=⟨PW.weak (J1 ha.h hb.h) λσ H Q zq=>zq.elim λO zq=>zq.elim λρ zq=>zq.elim λE hF=>⟨O,ρ,E,(fH.bind hF).imp λc hF H1 s1=>by
 cases c with
 |false=>exact pL ⟨O,ρ,E.same s1,(hF.mono s1).imp λb q H2 s2=>q H2 (s1.trans s2)⟩
 |true=>exact pR (hF H1 s1)⟩⟩
end
section
variable[al]{X:Cx}{a b c:Sh}{rest:aF}{pos:Pos}{f g:aX}{fa fb:FX}
theorem Ea{op}(h:XE X a fa):XE X (.BoolOp op [a] pos) fa:=⟨HD h.h⟩
theorem DY(ha:XE X a fa)(hb:XE X (.BoolOp .And (b::rest) pos) fb):XE X (.BoolOp .And (a::b::rest) pos) (js fa fb):=⟨PE.weak (G7 ha.h hb.h) λσ H Q zq=>zq.elim λO zq=>zq.elim λρ zq=>zq.elim λE hF=>⟨O,ρ,E,(fH.bind hF).imp λd hF x H1 s1 d1=>by
 cases d with
 |bl c=>
  refine⟨c,iz.mp d1,?_⟩;cases c with
  |true=>exact pR ⟨O,ρ,E.same s1,(hF.mono s1).imp λd q v H2 s2 d2=>q v H2 (s1.trans s2) d2⟩
  |false=>exact pL (hF _ H1 s1 (iz.mpr rfl))
 |_=>exact hF.elim⟩⟩
theorem D5(ha:XE X a fa):XE X (.UnaryOp .Not a pos) (wx fa):=⟨PE.weak (Ij ha.h) λσ H Q zq=>zq.elim λO zq=>zq.elim λρ zq=>zq.elim λE hF=>⟨O,ρ,E,(fH.bind hF).imp λd hF x H1 s1 d1=>by
 obtain⟨d',e,q⟩:=fH.rO hF;cases d with
 |bl c=>
  cases e;exact⟨c,iz.mp d1,q _ H1 s1 (iz.mpr rfl)⟩
 |_=>cases e⟩⟩
theorem Ir(hc:XT X c f)(ha:XE X a fa)(hb:XE X b fb):XE X (.IfExp c a b pos) (IU f fa fb):=⟨PE.weak (BE hc.h ha.h hb.h) λσ H Q zq=>zq.elim λO zq=>zq.elim λρ zq=>zq.elim λE hF=>⟨O,ρ,E,(fH.bind hF).imp λd hF H1 s1=>by
 cases d with
 |true=>exact pR ⟨O,ρ,E.same s1,(hF.mono s1).imp λd q v H2 s2 d2=>q v H2 (s1.trans s2) d2⟩
 |false=>exact pL ⟨O,ρ,E.same s1,(hF.mono s1).imp λd q v H2 s2 d2=>q v H2 (s1.trans s2) d2⟩⟩⟩
end
section
variable[al]{X:Cx}
theorem Hm{a b:Sh}{fa fb:FX}{pos:Pos}(ha:XE X a fa)(hb:XE X b fb)(hs:sE b):XE X (.Subscript a b pos) (f2 aR fa fb):=⟨PE.weak (JC Mr ha.h hb.h hs) (se eE)⟩
theorem CJ:XO X none bK:=⟨λpins s σ H Q I zq=>zq.elim λO zq=>zq.elim λρ zq=>zq.elim λE q=>EE pins s σ H Q I (q H (aB.refl H))⟩
theorem zo{e:Sh}{f:FX}(h:XE X e f):XO X (some e) (eI f):=⟨λpins s σ H Q I zq=>zq.elim λO zq=>zq.elim λρ zq=>zq.elim λE hF=>
 Fq h.h pins s σ H Q I ⟨O,ρ,E,(fH.bind hF).imp λd hF v H1 s1 d1=>by
  obtain⟨o,e,q⟩:=fH.rO hF;cases d with
  |int i=>
   cases e;exact⟨i,gv.mp d1,q H1 s1⟩
  |_=>cases e⟩⟩
theorem yB{e:Sh}{f:FX}{l h:ak->R et}{lo hi:Option Sh}{p2 pos:Pos}(he:XE X e f)(hl:XO X lo l)(hh:XO X hi h):XE X (.Subscript e (.Slice lo hi none p2) pos) (cz f l h):=⟨PE.weak (CB Mb he.h hl.h hh.h) λσ H Q zq=>zq.elim λO zq=>zq.elim λρ zq=>zq.elim λE hF=>⟨O,ρ,E,(fH.bind hF).imp λa hF x H1 s1 d1=>⟨O,ρ,E.same s1,((fH.bind hF).mono s1).imp λlo' hF H2 s2=>⟨O,ρ,E.same (s1.trans s2),((fH.bind hF).mono (s1.trans s2)).imp λhi' hF H3 s3=>by
  obtain⟨d,e,q⟩:=fH.rO hF;exact⟨O,a,d,E.all.same ((s1.trans s2).trans s3),d1.mono (bP (s2.trans s3)),e,λv H4 s4 d4=>q v H4 (((s1.trans s2).trans s3).trans s4) d4⟩⟩⟩⟩⟩
end
section
variable[al]{X:Cx}{x:Str}{p pos:Pos}{e:Sh}{es:aF}{id T:String}{g:List D->aY}{f:aC}
theorem jS(hc:fw X (.builtin id) (CM X.K g))(hg:Gl X x)(hm:X.mg x=none)(hv:Sv x=some (.builtin id))(ha:XA X (e::es) f)(hn:x≠"__name__":=by decide)(hdb:(x==("__debug__":Str))=false:=by decide)(hns:(e::es).all noStar=true:=by rfl):XE X (.Call (.Name x p) (e::es) [] pos) (fL g f):=⟨PE.weak (jz hc hg hm hv ha.h hn hdb (aI (Pt _ _ ▸ hns).1) (bn (Pt _ _ ▸ hns).2)) (Ct oh)⟩
theorem ke(hc:fw X (.type T) (CM X.K g))(hg:Gl X x)(hm:X.mg x=none)(hv:Sv x=some (.type T))(ha:XA X (e::es) f)(hn:x≠"__name__":=by decide)(hdb:(x==("__debug__":Str))=false:=by decide)(hns:(e::es).all noStar=true:=by rfl):XE X (.Call (.Name x p) (e::es) [] pos) (fL g f):=⟨PE.weak (ye hc hg hm hv ha.h hn hdb (aI (Pt _ _ ▸ hns).1) (bn (Pt _ _ ▸ hns).2)) (Ct oh)⟩
theorem nV{f:FX}{xT:Str}{p2:Pos}(ok:vi X.K T)(hg:Gl X "isinstance")(hm:X.mg "isinstance"=none)(hgT:Gl X xT)(hmT:X.mg xT=none)(hvT:Sv xT=some (.type T))(he:XE X e f)(hn2:xT≠"__name__":=by decide)(hd2:(xT==("__debug__":Str))=false:=by decide)(hns:noStar e=true:=by rfl):XE X (.Call (.Name "isinstance" p) [e,.Name xT p2] [] pos) (mh T f):=⟨PE.weak (jz (Be ok) hg hm lF (eZ he.h (eZ (v8 (v:=.ty T) hgT hmT hvT rfl hn2 hd2) kx (aI rfl)) (aI hns)) (by decide) (by decide) (aI hns) (bn rfl)) λσ H Q zq=>zq.elim λO zq=>zq.elim λρ zq=>zq.elim λE hF=>⟨O,ρ,E,(fH.bind hF).imp λa hF v H1 s1 d1=>by
  obtain⟨d,e,q⟩:=fH.rO hF;obtain⟨h1,h2⟩:=bp e;subst h2;exact⟨O,v,a,rfl,h1,d1,q _ H1 s1 (iz.mpr rfl)⟩⟩⟩
end
section
variable[al]{X:Cx}{a:Sh}{f:FX}{pos:Pos}
theorem x6(h:XE X a f)(he:∀whole,isTrue a X.env whole=(do let v<-whole;standAt a.pos;holding [v] (truthy v)):=by intro _;rfl):XT X a (bj f):=⟨PT.weak (Cw h.h he) λσ H Q zq=>zq.elim λO zq=>zq.elim λρ zq=>zq.elim λE hF=>⟨O,ρ,E,(fH.bind hF).imp λd hF x H1 s1 d1=>by
 obtain⟨r,hF,q⟩:=fH.rO hF;refine⟨r,?_,q H1 s1⟩;cases d with
 |non=>cases hF;rw[ip.mp d1];rfl
 |bl b=>cases hF;rw[iz.mp d1];rfl
 |int i=>cases hF;rw[gv.mp d1];rfl
 |str y=>
  obtain⟨hz,e⟩:=bp hF;subst e;rw[fF.mp d1];refine⟨dh hz,?_⟩;show(y.length !=0)=((y.length:Int) !=0)
  cases y.length<;>rfl
 |tup xs=>
  cases hF;obtain⟨p,vs,e,g1,g2⟩:=cx.mp d1;rw[e];refine .inr (.inl ⟨vs,bO (az H1 O) g1,?_⟩);have l:=g2.length;cases xs<;>cases vs<;>first|rfl|(simp at l)
 |lst xs=>
  cases hF;obtain⟨p,vs,e,g1,g2⟩:=cw.mp d1;rw[e];refine .inl ⟨vs,(az H1 O).seq g1,?_⟩;have l:=g2.length;cases xs<;>cases vs<;>first|rfl|(simp at l)
 |_=>cases hF⟩⟩
end
section
variable[al]{X:Cx}{tg:Sh}
theorem Ez{e:Sh}{f:FX}(h:XE X e f):XI X tg e (fS f):=by
 refine⟨?_⟩;rintro pins s σ H R I ⟨O,ρ,E,hG⟩;have hG':=fH.bind hG;cases hf:f ρ with
 |error z=>exact ww h.h pins s σ H R I ⟨O,ρ,E,by rw[hf]at hG' ⊢;cases z with|none=>exact hG'.elim|some x=>exact hG'⟩
 |ok d=>
  rw[hf]at hG';obtain⟨ds,e1,q⟩:=fH.rO (α:=List D) (o:=oK d) hG';cases d with
  |lst xs=>
   cases e1;refine ww h.h pins s σ H R I ⟨O,ρ,E,?_⟩;rw[hf];refine λv H1 s1 d1=>?_;obtain⟨p,vs,ev,g1,g2⟩:=cw.mp d1;exact⟨p,ev,⟨vs,(az H1 O).seq g1⟩,q _ H1 s1 (yk g1 g2)⟩
  |tup xs=>
   cases e1;refine Hs h.h pins s σ H R I ⟨O,ρ,E,?_⟩;rw[hf];refine λv H1 s1 d1=>?_;obtain⟨p,vs,ev,g1,g2⟩:=cx.mp d1;exact⟨p,ev,⟨vs,bO (az H1 O) g1⟩,q _ H1 s1 (AK g1 g2)⟩
  |_=>cases e1
theorem vN{a:Sh}{f:aC}{p pos:Pos}(hg:Gl X "range")(hm:X.mg "range"=none)(ha:XA X [a] f)(hs:SA [a] X.env=[(false,eval a X.env)]:=by rfl):XI X tg (.Call (.Name "range" p) [a] [] pos) (fW f):=by
 refine⟨?_⟩;rintro pins s σ H R I ⟨O,ρ,E,hG⟩;refine y9 hg hm ha.h hs pins s σ H R I ⟨O,ρ,E,(fH.bind hG).imp λes hG' vs H1 s1 d1=>?_⟩;clear hG;obtain⟨ds,hG,q⟩:=fH.rO hG';clear hG';unfold kQ at hG;split at hG
 ·rename_i j;obtain⟨h1,h2⟩:=bp hG;subst h2;obtain⟨j1,j2⟩:=of_decide_eq_true h1;obtain⟨v,ev,dv⟩:=d1.one;exact⟨j,by rw[ev,gv.mp dv],j1,j2,q _ H1 s1 (uO 0 _)⟩
 ·cases hG
end
section
variable[al]{X:Cx}{pos:Pos}
theorem zL{i:Nat}{x:Str}(hN:X.N.Nodup)(hi:X.N[i]?=some x)(hx:Loc X.env.scope x)(hf:X.fn x=true\/X.env.scope.names.lookup x=some .local:=by first|exact .inl rfl|exact .inr rfl|assumption):XG X (.Name x pos) (gN i):=by
 refine⟨?_⟩;rintro pins s σ H v u Q I r ⟨O,ρ,d,ρ',E,hd,hg,q⟩;cases hg;have hiσ:i<σ.length:=by rw[I.len];exact(List.getElem?_eq_some_iff.mp hi).1
 refine De hN hi hx hf pins s σ H v u Q I r (q _ (E.setV hiσ hd) λj x e nv=>?_);rcases aG e with⟨_,eq⟩|⟨ne,eq⟩
 ·cases eq;exact absurd rfl (nv _)
 ·exact⟨OW (Ne.symm ne),eq⟩
theorem Ac:GD X [] Gw:=by
 refine⟨?_⟩;rintro pins s σ H vs us Q I r ⟨O,ρ,ds,ρ',E,hd,hg,q⟩;cases ds with
 |nil=>
  cases hg;rw[cC]at hd;exact Dj pins s σ H vs us Q I r ⟨hd,q _ E λi x e _=>⟨rfl,e⟩⟩
 |cons _ _=>cases hg
theorem yw{e:Sh}{es:aF}{g:GF}{h:CK}(h1:XG X e g)(h2:GD X es h)(hs:(assignEach (e::es) X.env).map (·.2)=assign e X.env::(assignEach es X.env).map (·.2):=by rfl):GD X (e::es) (A6 g h):=by
 refine⟨?_⟩;rintro pins s σ H vs us Q I r ⟨O,ρ,ds,ρ',E,hd,hg,q⟩;cases ds with
 |nil=>cases hg
 |cons d ds=>
  obtain⟨ρ1,e1,e2⟩:=bind_some hg;rw[bh]at hd;obtain⟨v,vr,ev,d1,d2⟩:=hd;exact zx h1.h h2.h hs pins s σ H vs us Q I r ⟨v,vr,ev,O,ρ,d,ρ1,E,d1,e1,λσ1 E1 k1=>⟨O,ρ1,ds,ρ',E1,d2,e2,λσ2 E2 k2=>q σ2 E2 λi x e nv=>by
   obtain⟨a1,a2⟩:=k2 i x e nv;obtain⟨b1,b2⟩:=k1 i x a2 nv;exact⟨a1.trans b1,b2⟩⟩⟩
theorem DG{es:aF}{k:Nat}{g:CK}{n:Nat}(hc:X.calm=true)(h:GD X es g)(hn:(assignEach es X.env).length=n:=by rfl)(hst:(assignEach es X.env).findIdx? (·.1)=none:=by rfl):XG X (.Tuple es k pos) (gT n g):=by
 refine⟨?_⟩;rintro pins s σ H v u Q I r ⟨O,ρ,d,ρ',E,hd,hg,q⟩;cases d with
 |tup xs=>
  obtain⟨p,vs,ev,g1,g2⟩:=cx.mp hd;have hg':(if xs.length=n then g xs ρ else none)=some ρ':=hg;by_cases hl:xs.length=n
  ·rw[if_pos hl]at hg';exact Hl hc h.h hn hst pins s σ H v u Q I r ⟨p,vs,ev,bO (az H O) g1,by rw[<-g2.length];exact hl,O,ρ,xs,ρ',E,g2,hg',q⟩
  ·rw[if_neg hl]at hg';cases hg'
 |_=>cases hg
end
section
variable[al]
theorem AV{X:Cx}:JL X [] eK:=⟨TG.Kx ⟩
theorem CA{X:Cx}{c:Sh}{F:aX}(h:XT X c F):JL X [c] F:=⟨DZ h.h⟩
end
section
variable[al]{X:Cx}{elt tg iter:Sh}{ifs:aF}{scope:Sx}{pos:Pos}{N:ah}{ix:gj}{G:aC}{g:GF}{C:aX}{Fe:FX}
theorem G3(hc:X.calm=true)(ok:lg X scope N ix)(tk:mV ix g)(hi:XI X tg iter G)(hb:pJ X scope N tg elt ifs g C Fe)(hs:∀x,SU iter X.env x=pure x:=by intro _;rfl):XE X (.ListComp elt [⟨tg,iter,ifs,0⟩] scope pos) (ja ix G g C Fe):=⟨PE.weak (Gz hc ok.cell ok.kind ok.names ok.free ok.ix hi.h hb.h.k hs) (FL tk)⟩
end
section
variable[al]{X:Cx}{st:Si}{rest body:cS}{pos:Pos}
theorem B1:ua X [] aU:=⟨λHb Ob=>pH.weak sk λE σ H zq=>zq.elim λO zq=>zq.elim λρ zq=>zq.elim λk zq=>zq.elim λr zq=>zq.elim λS zq=>zq.elim λhF hk=>hk.nx O ρ σ H S hF⟩
theorem xU{F1 F2:aS}(h1:XS X st F1)(h2:ua X rest F2):ua X (st::rest) (aq F1 F2):=⟨λHb Ob=>pH.weak (pj (h1.h Hb Ob) (h2.h Hb Ob)) λE σ H zq=>zq.elim λO zq=>zq.elim λρ zq=>zq.elim λk zq=>zq.elim λr zq=>zq.elim λS zq=>zq.elim λhF hk=>
 ⟨O,ρ,{k with nx:=F2 k},r,S,hF,hk.ne,λO' ρ' σ' H' S' e=>⟨O',ρ',k,r,S',e,hk⟩,hk.bk,hk.ct,hk.rt,hk.ex⟩⟩
theorem tH{F1:aS}(h1:XS X st F1):ua X [st] F1:=⟨λHb Ob=>sr (h1.h Hb Ob)⟩
theorem wM{e:Sh}{f:FX}(h:XE X e f):XS X (.Return (some e) pos) (aK f):=⟨λHb Ob=>PS.weak (vj h.h) λE σ H zq=>zq.elim λO zq=>zq.elim λρ zq=>zq.elim λk zq=>zq.elim λr zq=>zq.elim λS zq=>zq.elim λhF hk=>
 ⟨O,ρ,S.env,fH.on hF hk S λd e v H' s' d'=>hk.rt d O v H' e.symm (S.base.same' s') d'⟩⟩
theorem BX:XS X (.Pass pos) aU:=⟨λHb Ob=>PS.weak C5 λE σ H zq=>zq.elim λO zq=>zq.elim λρ zq=>zq.elim λk zq=>zq.elim λr zq=>zq.elim λS zq=>zq.elim λhF hk=>hk.nx O ρ σ H S hF⟩
theorem Fw{x j pos'}:XS X (.Expr (.Constant (.str x) j pos) pos') aU:=⟨λHb Ob=>PS.weak Hq λE σ H zq=>zq.elim λO zq=>zq.elim λρ zq=>zq.elim λk zq=>zq.elim λr zq=>zq.elim λS zq=>zq.elim λhF hk=>hk.nx O ρ σ H S hF⟩
theorem Af{e:Sh}{f:FX}(h:XE X e f)(hs:swapsWith e none pos.line X.env=pure false:=by rfl):XS X (.Expr e pos) (wN f):=⟨λHb Ob=>PS.weak (qY h.h hs) λE σ H zq=>zq.elim λO zq=>zq.elim λρ zq=>zq.elim λk zq=>zq.elim λr zq=>zq.elim λS zq=>zq.elim λhF hk=>
 ⟨O,ρ,S.env,fH.on hF hk S λd e v H' s' d'=>hk.nx O ρ σ H' (S.same s') e⟩⟩
theorem Ib{c:Sh}{a b:cS}{tc:aX}{A B:aS}(hc:XT X c tc)(ha:ua X a A)(hb:ua X b B):XS X (.If c a b pos) (fm tc A B):=⟨λHb Ob=>PS.weak (Gp hc.h (ha.h Hb Ob) (hb.h Hb Ob)) λE σ H zq=>zq.elim λO zq=>zq.elim λρ zq=>zq.elim λk zq=>zq.elim λr zq=>zq.elim λS zq=>zq.elim λhF hk=>
 ⟨O,ρ,S.env,fH.on hF hk S fun z e H1 s1=>by
  cases z with
  |true=>exact pR ⟨O,ρ,k,r,S.same s1,e,hk⟩
  |false=>exact pL ⟨O,ρ,k,r,S.same s1,e,hk⟩⟩⟩
theorem EQ{i:Nat}{x:Str}{e:Sh}{f:FX}{pos':Pos}(hN:X.N.Nodup)(hi:X.N[i]?=some x)(hx:Loc X.env.scope x)(he:XE X e f)(hs:swapsWith e (some (.Name x pos')) pos.line X.env=pure false:=by rfl)(hf:X.fn x=true\/X.env.scope.names.lookup x=some .local:=by first|exact .inl rfl|exact .inr rfl|assumption):XS X (.Assign [.Name x pos'] e pos) (bB i f):=⟨qb (List.getElem?_eq_some_iff.mp hi).1 (n5 hN hi hx he.h hs hf)⟩
theorem IT{elt tg iter:Sh}{ifs:aF}{scope:Sx}{N:ah}{ix:gj}{G:aC}{g:GF}{C:aX}{Fe:FX}{i:Nat}{y:Str}{lpos py spos:Pos}(hN:X.N.Nodup)(hi':X.N[i]?=some y)(hx:Loc X.env.scope y)(hc:X.calm=true)(ok:lg X scope N ix)(tk:mV ix g)(hi:XI X tg iter G)(hb:pJ X scope N tg elt ifs g C Fe)(hsw:swapsWith (.ListComp elt [⟨tg,iter,ifs,0⟩] scope lpos) (some (.Name y py)) spos.line X.env=pure true:=by rfl)(hs:∀x,SU iter X.env x=pure x:=by intro _;rfl)(hf:X.fn y=true\/X.env.scope.names.lookup y=some .local:=by first|exact .inl rfl|exact .inr rfl|assumption):XS X (.Assign [.Name y py] (.ListComp elt [⟨tg,iter,ifs,0⟩] scope lpos) spos) (bB i (ja ix G g C Fe)):=⟨qb (List.getElem?_eq_some_iff.mp hi').1 (PS.weak (Gr hN hi' hx hc ok.cell ok.kind ok.names ok.free ok.ix hi.h hb.h.k hsw hs hf) λE σ H q=>FL tk σ H _ q)⟩
theorem Fc{tg e:Sh}{f:FX}{g:GF}(he:XE X e f)(hg:XG X tg g)(hs:swapsWithSole [tg] e pos.line X.env=pure false:=by rfl)(hw:swappedStores [tg] e X.env=pure none:=by rfl)(h1:(assignEach [tg] X.env).map (·.2)=[assign tg X.env]:=by rfl):XS X (.Assign [tg] e pos) (rT f g):=⟨λHb Ob=>PS.weak (GU he.h hg.h hs hw h1) λE σ H zq=>zq.elim λO zq=>zq.elim λρ zq=>zq.elim λk zq=>zq.elim λr zq=>zq.elim λS zq=>zq.elim λhF hk=>
 ⟨O,ρ,S.env,fH.on hF hk S fun d e v H1 s1 d1=>by
  cases hg.h:g d ρ with
  |none=>rw[hg.h]at e;exact absurd e.symm hk.ne
  |some ρ1=>
   rw[hg.h]at e;refine⟨O,ρ,d,ρ1,(S.same s1).env,d1,hg.h,λσ' E' own=>hk.nx O ρ1 σ' H1 ((S.same s1).after E' own) e⟩⟩⟩
theorem x9{st:cS}{F:aS}(is:bx)(h:ua X st F):ua X st (o3 is F):=⟨λHb Ob=>pH.weak (h.h Hb Ob) λE σ H zq=>zq.elim λO zq=>zq.elim λρ zq=>zq.elim λk zq=>zq.elim λr zq=>zq.elim λS zq=>zq.elim λhF hk=>⟨O,TG.kill is ρ,k,r,S.kill is,hF,hk⟩⟩
theorem Fl{tg iter:Sh}{G:aC}{g:GF}{B:aS}(hp:SK (model X.prog X.w) X.A X.env X.xe)(hc:X.calm=true)(hi:XI X tg iter G)(hg:XG X tg g)(hb:ua X body B)(hs:∀x,SU iter X.env x=pure x:=by intro _;rfl):XS X (.For tg iter body [] pos) (yH G g B):=⟨λHb Ob pins s σ H E I zq=>zq.elim λO zq=>zq.elim λρ zq=>zq.elim λk zq=>zq.elim λr zq=>zq.elim λS zq=>zq.elim λhF hk=>by
 have hall:pH X body (λE σ H=>∃Hb',FD X Hb' Ob B E σ H):=λpins s σ H E I zq=>zq.elim λHb' q=>hb.h Hb' Ob pins s σ H E I q;refine GO hp hc hi.h hg.h hall hs pins s σ H E I ⟨O,ρ,S.env,fH.on hF hk S λds hF J H1 s1 wk=>?_⟩;have E1:=S.same s1;refine⟨λi m σ H=>m=ds.length-i/\i<=ds.length/\∃O' ρ',bi X.K (lb H1 O Ob) Ob O' H ρ' σ/\iY g B k (ds.drop i) ρ'=r,
  ⟨ds.length,by rw[P6],O9 _,O,ρ,E1.loop,by rw[PJ];exact hF⟩,?_⟩
 rintro i m σ' H' ⟨rfl,hi',O',ρ',E',hr⟩;have sD:=zt E1.base E'.base;by_cases hlt:i<ds.length
 ·right;obtain⟨go,yl⟩:=(wk H' O' i E'.env.all sD).1 ds[i] (by simp[hlt]);refine⟨go,λσ2 H2=>ds.length-(i+1)=ds.length-(i+1)/\i+1<=ds.length/\∃O' ρ',bi X.K (lb H1 O Ob) Ob O' H2 ρ' σ2/\iY g B k (ds.drop (i+1)) ρ'=r,λσ2 H2 z=>⟨ds.length-(i+1),by omega,z⟩,λx H2 y=>?_⟩;obtain⟨s2,dx⟩:=yl x H2 y;have E':=E'.same s2;rw[P9 hlt]at hr;cases hg':g ds[i] ρ' with
  |none=>
   have hr':(rO (g ds[i] ρ')).bind (λρ1=>B ⟨iY g B k (ds.drop (i+1)),k.nx,iY g B k (ds.drop (i+1)),k.ex⟩ ρ1)=r:=hr;rw[hg']at hr';exact absurd hr'.symm hk.ne
  |some ρ1=>
   have hr':(rO (g ds[i] ρ')).bind (λρ1=>B ⟨iY g B k (ds.drop (i+1)),k.nx,iY g B k (ds.drop (i+1)),k.ex⟩ ρ1)=r:=hr;rw[hg']at hr';refine⟨O',ρ',ds[i],ρ1,E'.env,dx,hg',λσ3 E3 own=>?_⟩;have E3':bi X.K (lb H1 O Ob) Ob O' H2 ρ1 σ3:=E'.after E3 own;exact⟨lb H1 O Ob,O',ρ1,⟨iY g B k (ds.drop (i+1)),k.nx,iY g B k (ds.drop (i+1)),k.ex⟩,r,E3',hr',hk.loop E1.base (λO4 ρ4 σ4 H4 E4 z=>⟨rfl,hlt,O4,ρ4,E4,z⟩) (λO4 ρ4 σ4 H4 E4 z=>⟨rfl,hlt,O4,ρ4,E4,z⟩) rfl rfl rfl rfl⟩
 ·left;have ei:i=ds.length:=by omega
  subst ei;refine⟨(wk H' O' ds.length E'.env.all sD).2 rfl,?_⟩;rw[List.drop_length]at hr;exact hk.nx O' ρ' σ' H' (E'.back E1.base) hr⟩
theorem xF{c:Sh}{tc:aX}{B:aS}(n:Nat)(hp:SK (model X.prog X.w) X.A X.env X.xe)(hc:XT X c tc)(hb:ua X body B):XS X (.While c body [] pos) (kn n tc B):=⟨λHb Ob pins s σ H E I zq=>zq.elim λO zq=>zq.elim λρ zq=>zq.elim λk zq=>zq.elim λr zq=>zq.elim λS zq=>zq.elim λhF hk=>by
 have hall:pH X body (λE σ H=>∃Hb',FD X Hb' Ob B E σ H):=λpins s σ H E I zq=>zq.elim λHb' q=>hb.h Hb' Ob pins s σ H E I q;refine tS hp hc.h hall pins s σ H E I ⟨λm σ H'=>∃O' ρ',bi X.K (lb H O Ob) Ob O' H' ρ' σ/\eW tc B k m ρ'=r,⟨n,O,ρ,S.loop,hF⟩,?_⟩;rintro m σ' H' ⟨O',ρ',E',hr⟩;cases m with
 |zero=>exact absurd hr.symm hk.ne
 |succ m=>
  refine⟨O',ρ',E'.env,?_⟩;have hr':km (tc ρ') k ρ' (λb=>if b then B ⟨eW tc B k m,k.nx,eW tc B k m,k.ex⟩ ρ' else k.nx ρ')=r:=hr;refine fH.on hr' hk (E'.back S.base) λb hr H1 s1=>?_;cases b with
  |true=>
   refine pR ⟨λσ2 H2=>∃O' ρ',bi X.K (lb H O Ob) Ob O' H2 ρ' σ2/\eW tc B k m ρ'=r,λσ2 H2 z=>⟨m,O8 m,z⟩,?_⟩;exact⟨lb H O Ob,O',ρ',⟨eW tc B k m,k.nx,eW tc B k m,k.ex⟩,r,E'.same s1,hr,hk.loop S.base (λO4 ρ4 σ4 H4 E4 z=>⟨O4,ρ4,E4,z⟩) (λO4 ρ4 σ4 H4 E4 z=>⟨O4,ρ4,E4,z⟩) rfl rfl rfl rfl⟩
  |false=>exact pL (hk.nx O' ρ' σ' H1 ((E'.back S.base).same s1) hr)⟩
end
section
variable[al]{X:Cx}{pos:Pos}
theorem C9{es:aF}{g:aC}(h:XA X es g):XN X (.List es pos) (gH g):=⟨PE.weak (B9 h.h) λσ H Q zq=>zq.elim λO zq=>zq.elim λρ zq=>zq.elim λE hF=>⟨O,ρ,E,(fH.bind hF).imp λxs hF vs H1 s1 d1=>by
  obtain⟨d,e,q⟩:=fH.rO hF;obtain⟨hz,e⟩:=bp e;subst e;refine⟨by rw[<-d1.length];exact dh hz,λp hp=>?_⟩;exact q p _ (s1.trans (cZ hp _)) (s1.free hp) ⟨_,aT,trivial⟩ (mO hp d1)⟩⟩
theorem Do{i:Nat}{x:Str}{e:Sh}{f:FX}{pos':Pos}(hN:X.N.Nodup)(hi:X.N[i]?=some x)(hx:Loc X.env.scope x)(he:XN X e f)(hs:swapsWith e (some (.Name x pos')) pos.line X.env=pure false:=by rfl)(hf:X.fn x=true\/X.env.scope.names.lookup x=some .local:=by first|exact .inl rfl|exact .inr rfl|assumption):XS X (.Assign [.Name x pos'] e pos) (mS i f):=⟨pY (List.getElem?_eq_some_iff.mp hi).1 (n5 hN hi hx he.h hs hf)⟩
end
section
variable[al]
theorem x8{X:Cx}{elt tg iter:Sh}{ifs:aF}{scope:Sx}{N:ah}{ix:gj}{G:aC}{g:GF}{C:aX}{Fe:FX}{i:Nat}{y:Str}{lpos py spos:Pos}(hN:X.N.Nodup)(hi':X.N[i]?=some y)(hx:Loc X.env.scope y)(hc:X.calm=true)(ok:lg X scope N ix)(tk:mV ix g)(hi:XI X tg iter G)(hb:pJ X scope N tg elt ifs g C Fe)(hsw:swapsWith (.ListComp elt [⟨tg,iter,ifs,0⟩] scope lpos) (some (.Name y py)) spos.line X.env=pure true:=by rfl)(hs:∀x,SU iter X.env x=pure x:=by intro _;rfl)(hf:X.fn y=true\/X.env.scope.names.lookup y=some .local:=by first|exact .inl rfl|exact .inr rfl|assumption):XS X (.Assign [.Name y py] (.ListComp elt [⟨tg,iter,ifs,0⟩] scope lpos) spos) (mS i (ja ix G g C Fe)):=⟨pY (List.getElem?_eq_some_iff.mp hi').1 (PS.weak (Gr hN hi' hx hc ok.cell ok.kind ok.names ok.free ok.ix hi.h hb.h.k hsw hs hf) λE σ H q=>CH tk σ H _ (Gd σ H _ q))⟩
theorem Hc{X:Cx}{elt tg iter:Sh}{ifs:aF}{scope:Sx}{pos:Pos}{N:ah}{ix:gj}{G:aC}{g:GF}{C:aX}{Fe:FX}(hc:X.calm=true)(ok:lg X scope N ix)(tk:mV ix g)(hi:XI X tg iter G)(hb:pJ X scope N tg elt ifs g C Fe)(hs:∀x,SU iter X.env x=pure x:=by intro _;rfl):XN X (.ListComp elt [⟨tg,iter,ifs,0⟩] scope pos) (ja ix G g C Fe):=⟨PE.weak (Gz hc ok.cell ok.kind ok.names ok.free ok.ix hi.h hb.h.k hs) λσ H Q q=>CH tk σ H _ (Gd σ H _ q)⟩
theorem Il{X : Cx}{i : Nat}{x m : Str}{id : String}{r : V -> ax -> Hp -> VK -> Prop}{u : List D -> List D -> Option (List D)}{e : Sh}{es : aF}{f : aC}{npos apos cpos pos : Pos}(slot : Slot "list" m id)(hty : typeOf (.builtin id) = pure (.type "method_descriptor"))(hm : Kg X id r)(ok : Al X.K r u)(hx : XV X (.Name x npos) i)(he : XA X (e :: es) f)(hbase : S9 (.Name x npos) m X.env (eval (.Name x npos) X.env) = eval (.Name x npos) X.env := by rfl)(hfew : ((backTo cpos (SA (e :: es) X.env)).all (fun x => !x.1) && (backToKw cpos (Tc [] X.env)).all (fun x => x.1.isSome)
      && decide ((e::es:aF).length+([]:List Tx).length+(if([]:List Tx).isEmpty then 0 else 1)<30))=true:=by rfl)(hline:(apos.endLine==cpos.line)=true:=by rfl)(hs:SA (e::es) X.env=(false,eval e X.env)::SA es X.env:=by rfl)(hplain:(backTo cpos (SA es X.env)).any (·.1)=false:=by rfl)(hsw:swapsWith (.Call (.Attribute (.Name x npos) m apos) (e::es) [] cpos) none pos.line X.env=pure false:=by rfl):XS X (.Expr (.Call (.Attribute (.Name x npos) m apos) (e::es) [] cpos) pos) (zn i u f):=⟨λHb Ob pins s σ H E I zq=>zq.elim λO zq=>zq.elim λρ zq=>zq.elim λk zq=>zq.elim λrr zq=>zq.elim λS zq=>zq.elim λhF hk=>by
  rcases Cp i u f k ρ with⟨xs,hxs,fe⟩|fe<;>rw[fe]at hF
  · skip
    obtain⟨a,ha,haO,hat⟩:=S.env.own i _ hxs;obtain⟨o,vs0,ho,eo,dn⟩:=hat;subst eo;refine qY (tQ F.plainAttrs_list slot hty hm hx.h he.h hbase hfew hline hs hplain) hsw pins s σ H E I ⟨.ref a,ha,.inl ⟨rfl,vs0,kg.of ho⟩,O,ρ,S.env,fH.on hF hk S λds hr vs H1 s1 d1=>?_⟩;have S1:=S.same s1;cases hu1:u xs ds with
    |none=>rw[hu1]at hr;exact absurd hr.symm hk.ne
    |some ys=>
      rw[hu1]at hr;exact ok H1 O a xs ys ds vs0 vs _ S1.env.all haO (s1 _ _ ho) (dn.mono (bP s1)) d1 hu1 λws' v new=>hk.nx O _ σ _ (S1.setO hxs ha trivial (ji haO new)) hr
  ·exact absurd hF.symm hk.ne⟩
theorem Cy{X:Cx}{e:Sh}{f:aX}(is:bx)(h:XT X e f):XT X e (oH is f):=⟨PT.weak h.h λσ H Q zq=>zq.elim λO zq=>zq.elim λρ zq=>zq.elim λE hF=>by
 obtain⟨O',E'⟩:=E.frzs is;refine⟨O',TG.frzs is ρ,E',?_⟩;unfold oH at hF;cases hf:f (TG.frzs is ρ)with
 |error z=>rw[hf]at hF;exact hF.elim
 |ok d=>rw[hf]at hF;exact hF⟩
theorem vM{X:Cx}{k k':Nat}{ps:ah}{g:cy}{h:aC}{x:Str}{p pos:Pos}{e:Sh}{es:aF}(C:Callee X.prog X.w X.K X.mg X.base k x ps g)(hn:Ar ps.length g)(hr:dq k' X.A)(hk:k<=k')(ha:XA X (e::es) h)(hg:Gl X x:=by rfl)(hdb:(x==("__debug__":Str))=false:=by decide)(hns:(e::es).all noStar=true:=by rfl):XE X (.Call (.Name x p) (e::es) [] pos) (fR g h):=by
 refine⟨?_⟩;obtain⟨f,fd,F,b,kp,m⟩:=C;exact PE.weak (jm F (hr.mono hk) hg m kp b ha.h hdb (aI (Pt _ _ ▸ hns).1) (bn (Pt _ _ ▸ hns).2)) (xP hn)
end
section
variable[al]{X:Cx}{a b c:Sh}{fa fb fc:FX}{pos:Pos}
theorem yR{op op':SY}{r r':R2}{g g':D->D->aY}(ho:iZ X (SW op) r)(s:dC X.K r g)(ho':iZ X (SW op') r')(s':dC X.K r' g')(ha:XE X a fa)(hb:XE X b fb)(hc:XE X c fc)(hm:lastMarks [op,op'] [b,c]=false:=by with_unfolding_all rfl):XE X (.Compare a [op,op'] [b,c] pos) (ii g g' fa fb fc):=⟨PE.weak (zH ho ho' ha.h hb.h hc.h hm) (qw s s')⟩
theorem yF{op op':SY}{r r':R2}{g g':D->D->aY}(ho:iZ X (SW op) r)(s:dC X.K r g)(ho':iZ X (SW op') r')(s':dC X.K r' g')(ha:XE X a fa)(hb:XE X b fb)(hc:XE X c fc)(hm:lastMarks [op,op'] [b,c]=false:=by with_unfolding_all rfl):XT X (.Compare a [op,op'] [b,c] pos) (fB (ii g g' fa fb fc)):=⟨PT.weak (Ah ho ho' ha.h hb.h hc.h hm) (o7 (qw s s'))⟩
theorem CP(ha:XE X a fa):XE X (.UnaryOp .USub a pos) (Eu fa):=⟨PE.weak (Jv Hg ha.h) (HN λx d v O H Q _ e dv q=>by
 cases x with
 |int i=>cases e;exact⟨i,gv.mp dv,q _ H (aB.refl H) (gv.mpr rfl)⟩
 |_=>cases e)⟩
theorem BG{x:Str}{i:Int}(hg:Gl X x)(hm:∃t,X.mg x=some (.int i t))(hd:(x==("__debug__":Str))=false:=by decide):XE X (.Name x pos) (fC (.int i)):=by
 refine⟨?_⟩;obtain⟨t,m⟩:=hm;exact ju (jL (v:=.int i) hg m ⟨t,rfl⟩ hd) λ_ _=>gv.mpr rfl
theorem Bm{x y:Str}(hg:Gl X x)(hm:∃t,X.mg x=some (.str y t))(hd:(x==("__debug__":Str))=false:=by decide):XE X (.Name x pos) (fC (.str y)):=by
 refine⟨?_⟩;obtain⟨t,m⟩:=hm;exact ju (jL (v:=.str y) hg m ⟨t,rfl⟩ hd) λ_ _=>fF.mpr rfl
end
section
variable[al]{X:Cx}
theorem Em{a b:Sh}{es:aF}{k:Nat}{tpos:Pos}{f:aC}{p pos:Pos}(hg:Gl X "zip")(hm:X.mg "zip"=none)(ha:XA X [a,b] f)(hs:SA [a,b] X.env=(false,eval a X.env)::SA [b] X.env:=by rfl)(hpl:(backTo pos (SA [b] X.env)).any (·.1)=false:=by rfl):XI X (.Tuple es k tpos) (.Call (.Name "zip" p) [a,b] [] pos) (BI f):=by
 refine⟨?_⟩;rintro pins s σ H RR I ⟨O,ρ,E,hG⟩;have hA:=ha.h pos pins s σ H (λvs H1=>∃ds r,Ba ds=some r/\aJ X.K (hid H1 O) ds vs/\∀J,Walk X.K (hid H1 O) J r->RR J H1) I ⟨O,ρ,E,(fH.bind hG).imp λds hG vs H1 s1 d1=>by
  obtain⟨r,e,q⟩:=fH.rO hG;exact⟨ds,r,e,d1,λJ wk=>q J H1 s1 wk⟩⟩
 refine R0 (ka I hg hm PyProof.Rows.boot_zip (RW (dj hA λus s1 zq=>zq.elim λvs zq=>zq.elim λH1 zq=>zq.elim λI1 zq=>zq.elim λr1 zq=>zq.elim λds zq=>zq.elim λr zq=>zq.elim λer zq=>zq.elim λd1 q=>?_) hs hpl));exact GA I1 er d1 r1 q
end
section
variable[al]{X:Cx}{a o e:Sh}{es:aF}{fa fo:FX}{fas:aC}{f m x:Str}{cs:ah}{pos apos p:Pos}{k k':Nat}{ps:ah}
theorem C2(ok:aQ X.K f cs)(h:XE X a fa)(hb:S9 a f X.env (eval a X.env)=eval a X.env:=by rfl):XE X (.Attribute a f pos) (f1 (aW f cs) fa):=⟨PE.weak (GH h.h hb) λσ H Q zq=>zq.elim λO zq=>zq.elim λρ zq=>zq.elim λE hF=>⟨O,ρ,E,(fH.bind hF).imp λd hF v H1 s1 d1=>by
  obtain⟨r,e,q⟩:=fH.rO hF;cases d with
  |obj c fs vs=>
   have e':(if cs.contains c then(fs.zip vs).lookup f else none)=some r:=e;cases hc:cs.contains c with
   |false=>rw[hc]at e';cases e'
   |true=>
    rw[hc]at e';obtain⟨a,ws,ev,g1,g2,C,dx,g3,g4⟩:=KO.mp d1;obtain⟨w,l1,l2⟩:=oq g1 e';obtain⟨cl,na⟩:=ok c (List.contains_iff_mem.mp hc) C g3;exact⟨a,C,dx,_,w,ev,az H1 O _ _ g4,cl,na,l1,q w H1 s1 l2⟩
  |_=>cases e⟩⟩
theorem By{tbl : List (Str × (cy))}{pl : Sem Bool}(tb : oV X.prog X.w X.K X.mg X.base k m ps tbl)(hr : dq k' X.A)(hk : k <= k')(ho : XE X o fo)(ha : XA X (e :: es) fas)(hns : (e :: es).all noStar = true := by rfl)(ht : eval (.Call (.Attribute o m apos) (e :: es) [] pos) X.env = (do
      let ov<-eval o X.env
      standAt apos.atName
      let (f,first)<-holding [ov] (getMethod ov m pl)
      Tb pos f first (backTo pos (SA (e::es) X.env)) (backToKw pos (Tc [] X.env))):=by rfl):XE X (.Call (.Attribute o m apos) (e::es) [] pos) (gX m tbl fo fas):=⟨t9 tb (hr.mono hk) ho.h (λpins s1 σ H1 O ρ a f od Q g fd _ kp F b ar I1 E1 dO hP=>by
    refine Rn (first:=[.ref a]) (h₀:=X.base) I1.ok.mod.kin kp (dj (ha.h pos pins s1 σ H1 _ I1 ⟨O,ρ,E1,(fH.bind hP).imp λas hP vs H2 s2 d2=>kf (vs:=.ref a::vs) ar (E1.all.same s2) (bh.mpr ⟨_,_,rfl,dO.mono (bP s2),d2⟩) ((hP.mono s2).imp λd q v H3 s3 d3=>q v H3 (s2.trans s3) d3)⟩) λus s2 zq=>zq.elim λvs zq=>zq.elim λH2 zq=>zq.elim λI2 zq=>zq.elim λr zq=>zq.elim λEx zq=>zq.elim λhx q2=>⟨I2.kIn,?_⟩) (aI (Pt _ _ ▸ hns).1) (bn (Pt _ _ ▸ hns).2);exact sL (us:=.ref a::us) (vs:=.ref a::vs) F (hr.mono hk) b hx I2 (.cons rfl r) q2) ht⟩
theorem xZ{tbl : List (Str × (cy))}{pl : Sem Bool}(tb : oV X.prog X.w X.K X.mg X.base k m ps tbl)(hr : dq k' X.A)(hk : k <= k')(ho : XE X o fo)(ht : eval (.Call (.Attribute o m apos) [] [] pos) X.env = (do
      let ov<-eval o X.env
      standAt apos.atName
      let (f,first)<-holding [ov] (getMethod ov m pl)
      Tb pos f first (backTo pos (SA [] X.env)) (backToKw pos (Tc [] X.env))):=by rfl):XE X (.Call (.Attribute o m apos) [] [] pos) (gX m tbl fo af):=⟨t9 tb (hr.mono hk) ho.h (λpins s1 σ H1 O ρ a f od Q g fd _ kp F b ar I1 E1 dO hP=>by
    have hP':fH X σ O H1 (g [od]) λd=>∀v H',aB H1 H'->eL X.K (hid H' O) d v->Q v H':=hP;obtain⟨Ex,hx,q2⟩:=kf (vs:=[.ref a]) ar E1.all (bh.mpr ⟨_,_,rfl,dO,cC.mpr rfl⟩) hP';exact RK (first:=[.ref a]) I1.kIn kp (sL (us:=[.ref a]) (vs:=[.ref a]) F (hr.mono hk) b hx I1 (.cons rfl .nil) q2)) ht⟩
theorem Dl{c:Str}{fs:ah}(IA:bJ X.prog X.w X.K X.mg X.base k c ps fs)(hr:dq k' X.A)(hk:k+1<=k')(hg:Gl X c)(ha:XA X (e::es) fas)(hdb:(c==("__debug__":Str))=false:=by decide)(hns:(e::es).all noStar=true:=by rfl):XE X (.Call (.Name c p) (e::es) [] pos) (fNew c fs fas):=by
 refine⟨?_⟩;obtain⟨C,f,fd,h1,h2,h3,h4,h5⟩:=IA;refine PE.weak (wK (dvs:=[]) (E:=E0) h2 h3 (hr.mono hk) hg h5 h4 .nil FC ha.h hdb (aI (Pt _ _ ▸ hns).1) (bn (Pt _ _ ▸ hns).2)) λσ H Q zq=>zq.elim λO zq=>zq.elim λρ zq=>zq.elim λE hF=>⟨O,ρ,E,(fH.bind hF).imp λas hF vs H1 s1 d1 x dx hx hd ne=>?_⟩
 by_cases hl:as.length=fs.length
 ·rw[if_pos hl]at hF;rw[Pa];refine⟨x,dx,vs,rfl,by rw[<-d1.length,hl],by rw[aT],rfl,?_⟩;obtain⟨sm,dn⟩:=jg h1 hl d1 (E.all.same s1) hx hd ne;exact hF _ _ (s1.trans sm) dn
 ·rw[if_neg hl]at hF;exact hF.elim
end
section
variable[al]{X:Cx}
theorem B4{a e : Sh}{es : aF}{fa : FX}{fs : aC}{apos cpos : Pos}(ha : XE X a fa)(hs : XA X (e :: es) fs)(hbase : S9 a "join" X.env (eval a X.env) = eval a X.env := by rfl)(hfew : ((backTo cpos (SA (e :: es) X.env)).all (fun x => !x.1) && (backToKw cpos (Tc [] X.env)).all (fun x => x.1.isSome)
      && decide ((e::es).length+([]:List Tx).length+(if([]:List Tx).isEmpty then 0 else 1)<30))=true:=by rfl)(hline:(apos.endLine==cpos.line)=true:=by rfl)(hst:SA (e::es) X.env=(false,eval e X.env)::SA es X.env:=by rfl)(hplain:(backTo cpos (SA es X.env)).any (·.1)=false:=by rfl):XE X (.Call (.Attribute a "join" apos) (e::es) [] cpos) (qe fa fs):=⟨PE.weak (tQ F.plainAttrs_str F.slot_str_join F.type_str_join Fd ha.h hs.h hbase hfew hline hst hplain) λσ H Q zq=>zq.elim λO zq=>zq.elim λρ zq=>zq.elim λE hF=>⟨O,ρ,E,(fH.bind hF).imp λx hF v H1 s1 d1=>by
    obtain⟨z,ez,hF⟩:=fH.rO (fH.bind hF);rw[sf ez d1];exact⟨rfl,O,ρ,E.same s1,((fH.bind hF).mono s1).imp λds hF vs H2 s2 d2=>by
      obtain⟨d,e,q⟩:=fH.rO hF;exact rB e d2 λw dw=>q w H2 (s1.trans s2) dw⟩⟩⟩
end
section
variable[al]{X:Cx}{C:Sg}{pins:aM}{σ:St}{H:Hp}{s:Sj}{Q:VK}
theorem CG{c:Str}{p pos:Pos}(NA:tW X.K X.mg c)(hg:Gl X c)(hdb:(c==("__debug__":Str))=false:=by decide):XE X (.Call (.Name c p) [] [] pos) (fC (.obj c [] [])):=by
 refine⟨?_⟩;obtain⟨C,h1,h2,h3⟩:=NA;rintro pins s σ H Q I ⟨O,ρ,E,hF⟩;refine Ti (gx I hg h3 ?_ hdb);refine RK I.kIn h2.kp (run_plain h2 I λx dx hx hd ne=>?_);obtain⟨sm,dn⟩:=jg (fs:=[]) (as:=[]) (vs:=[]) h1 rfl (cC.mpr rfl) E.all hx hd ne;have e:upd (upd (upd H dx (.own x)) x (.ins C dx [])) x (.ins C dx (([]:ah).zip []))=upd (upd H dx (.own x)) x (.ins C dx []):=by rw[wC];rfl
 rw[e]at sm dn;exact hF _ _ sm dn
end
section
variable[al]{X:Cx}{p pos:Pos}{e:Sh}{C:Sg}
theorem Ds{f:FX}{x:Str}{p2:Pos}{yes no:ah}(h:sY X.K X.mg x yes no)(hg:Gl X "isinstance")(hm:X.mg "isinstance"=none)(hgx:Gl X x)(he:XE X e f)(hd2:(x==("__debug__":Str))=false:=by decide)(hns:noStar e=true:=by rfl):XE X (.Call (.Name "isinstance" p) [e,.Name x p2] [] pos) (f1 (jZ yes no) f):=by
 refine⟨?_⟩;obtain⟨C,hC,hy,hn⟩:=h;exact PE.weak (jz Ce hg hm lF (eZ he.h (eZ (jL (v:=.ref C) hgx hC rfl hd2) kx (aI rfl)) (aI hns)) (by decide) (by decide) (aI hns) (bn rfl)) λσ H Q zq=>zq.elim λO zq=>zq.elim λρ zq=>zq.elim λE hF=>⟨O,ρ,E,(fH.bind hF).imp λa hF v H1 s1 d1=>by
  obtain⟨d,e,q⟩:=fH.rO hF;unfold jZ at e;split at e
  ·rename_i c fs vs;obtain⟨a,ws,rfl,_,_,D,dx,hcl,ha⟩:=KO.mp d1;by_cases h1:yes.contains c=true
   ·rw[if_pos h1]at e;cases e;exact⟨a,D,dx,_,rfl,az _ _ _ _ ha,.inl ⟨hy c (by simpa using h1) D hcl,q _ H1 s1 (iz.mpr rfl)⟩⟩
   ·rw[if_neg h1]at e;obtain⟨h2,h3⟩:=bp e;subst h3;obtain⟨cl,n⟩:=hn c (by simpa using h2) D hcl;exact⟨a,D,dx,_,rfl,az _ _ _ _ ha,.inr ⟨cl,n,q _ H1 s1 (iz.mpr rfl)⟩⟩
  ·cases e⟩
end
section
variable[al]{X:Cx}{tg:Sh}
theorem Fp{e:Sh}{f:FX}(h:XE X e f):XI X tg e (gu f):=by
 refine⟨?_⟩;rintro pins s σ H R I ⟨O,ρ,E,hG⟩;refine GN h.h pins s σ H R I ⟨O,ρ,E,(fH.bind hG).imp λd hG' v H1 s1 d1=>?_⟩;obtain⟨ds,e1,q⟩:=fH.rO (α:=List D) (o:=Ak d) hG';cases d with
 |str x=>cases e1;exact⟨x,fF.mp d1,q _ H1 s1 (zK x)⟩
 |_=>cases e1
end
section
variable[al]{X:Cx}{pos:Pos}
theorem za{x:Str}{e:Sh}{es:aF}{f:aC}{np cpos:Pos}(hc:X.calm=true)(hx:ExcAt X.K X.mg x)(hg:Gl X x)(ha:XA X (e::es) f)(hdb:(x==("__debug__":Str))=false:=by decide)(hns:(e::es).all noStar=true:=by rfl):XS X (.Raise (some (.Call (.Name x np) (e::es) [] cpos)) none pos) (eF x f):=⟨λHb Ob pins s σ H E I zq=>zq.elim λO zq=>zq.elim λρ zq=>zq.elim λk zq=>zq.elim λr zq=>zq.elim λS zq=>zq.elim λhF hk=>by
 obtain⟨C,cl,hm,hi⟩:=hx;obtain⟨tl,N,nm,q,bs,hdct,sn,sub,ab,col,dd,k0,k1,k2,k3,k5,mN,hC,hN,hni,T⟩:=(xk I.mod.kin hi x).obj;have st:SA (e::es) X.env=_:=aI (Pt _ _ ▸ hns).1;have plain:(backTo cpos (SA (e::es) X.env)).any (·.1)=false:=bn hns;refine wpAny_Raise_call_subT (k5:=k5) (k3:=k3) (k2:=k2) (k1:=k1) (k0:=k0) (dd:=dd) (col:=col) (ab:=ab) (sub:=sub) (sn:=sn) (hdct:=hdct) (bs:=bs) (N:=N) (q:=q) (nm:=nm) R8 (mN:=mN) (T.hasType PySem.F.excBase_ValueError.hasBase) (I.ok.hd hc) plain hni (gx I hg hm ⟨rfl,?_⟩ hdb);have A1:=ha.h cpos pins s σ H (λvs H1=>vs.length<=Ss/\aB H H1/\k.ex ⟨x,[],[]⟩ ρ=r) I ⟨O,ρ,S.env,fH.on hF hk S λds e vs H' s' d'=>by
  have z:small ds.length=true:=by
   cases z:small ds.length with
   |true=>rfl
   |false=>rw[z]at e;exact absurd e.symm hk.ne
  rw[z]at e;exact⟨by rw[<-d'.length];exact dh z,s',e⟩⟩
 rw[st]at A1 ⊢;refine Calls.evalArgs_plain (dj A1 λus s2 zq=>zq.elim λvs zq=>zq.elim λH1 zq=>zq.elim λI1 zq=>zq.elim λrv zq=>zq.elim λq1 zq=>zq.elim λq2 q3=>⟨rfl,by rw[<-rv.length];exact q1,I1.bk _ _ hC,hN.keeps I1.bk,T.keeps I1.bk,λh' a m=>?_⟩);exact hk.ex O ρ σ H1 _ (S.same q2) q3 pins _ _ H1 (I1.kept (t':=s2.toks) m.keeps) (aB.refl H1) ⟨a,C,none,rfl,⟨cl,[],cC.mpr rfl,rfl,.inl rfl⟩,t0 I1 m⟩⟩
end
section
variable[al]{X:Cx}{p pos:Pos}{e:Sh}
theorem zD{f:FX}{x:Str}{p2:Pos}{tbl:List (Str×Bool)}(h:lu X.K X.mg x tbl)(hg:Gl X "isinstance")(hm:X.mg "isinstance"=none)(hgx:Gl X x)(he:XE X e f)(hd2:(x==("__debug__":Str))=false:=by decide)(hns:noStar e=true:=by rfl):XE X (.Call (.Name "isinstance" p) [e,.Name x p2] [] pos) (f1 (gO tbl) f):=by
 refine⟨?_⟩;obtain⟨C,hC,h⟩:=h;exact PE.weak (jz (qm (tv:=.ref C) (T:=.ref C) λu r=>r) hg hm lF (eZ he.h (eZ (jL (v:=.ref C) hgx hC rfl hd2) kx (aI rfl)) (aI hns)) (by decide) (by decide) (aI hns) (bn rfl)) (Gu h)
theorem xL{f:FX}{x:Str}{T:String}{p2:Pos}{tbl:List (Str×Bool)}(h:uA X.K (.type T) tbl)(hg:Gl X "isinstance")(hm:X.mg "isinstance"=none)(hgx:Gl X x)(hmx:X.mg x=none)(hv:Sv x=some (.type T))(he:XE X e f)(hn2:x≠"__name__":=by decide)(hd2:(x==("__debug__":Str))=false:=by decide)(hns:noStar e=true:=by rfl):XE X (.Call (.Name "isinstance" p) [e,.Name x p2] [] pos) (f1 (gO tbl) f):=⟨PE.weak (jz (qm (tv:=.ty T) (T:=.type T) λu r=>r) hg hm lF (eZ he.h (eZ (v8 (v:=.ty T) hgx hmx hv rfl hn2 hd2) kx (aI rfl)) (aI hns)) (by decide) (by decide) (aI hns) (bn rfl)) (Gu h)⟩
end
section
variable[al]
theorem vK{X:Cx}{k k':Nat}{ps:ah}{g:cy}{h:aC}{x:Str}{p pos:Pos}{e:Sh}{es:aF}(C:Fk X.prog X.w X.K X.mg X.base k x ps g)(hn:Ar ps.length g)(hr:dq k' X.A)(hk:k<=k')(ha:XA X (e::es) h)(hg:Gl X x:=by rfl)(hdb:(x==("__debug__":Str))=false:=by decide)(hns:(e::es).all noStar=true:=by rfl):XN X (.Call (.Name x p) (e::es) [] pos) (fR g h):=by
 refine⟨?_⟩;obtain⟨f,fd,F,b,kp,m⟩:=C;exact PE.weak (jm F (hr.mono hk) hg m kp b ha.h hdb (aI (Pt _ _ ▸ hns).1) (bn (Pt _ _ ▸ hns).2)) (yp hn)
end
theorem Ed{X:Cx}{pos:Pos}{body suite:cS}{b₀:Si}{g n:Str}{gp hpos:Pos}{F Fh:aS}{cs:ah}{i:Nat}(hx:X.ex=[])(hst:X.stack=X.env::X.outer)(hf:X.env.frame=some X.env.locals)(hfn:∀x,X.fn x=true)
  (hT:ul X.K X.mg g cs) (hg:Gl X g) (hN:X.N.Nodup) (hi:X.N[i]?=some n) (hl:X.env.scope.names.lookup n=some .local)
  (hb:∀E pn,SK (model X.prog X.w) X.A X.env E->ua (ug X E pn) body F) (hs:∀A pn,A.depth=X.A.depth->A.units=X.A.units->ua (pB X A pn) (b₀::suite) Fh) (hdb:(g==("__debug__":Str))=false:=by decide):
  XS X (.Try body [.ExceptHandler (some (.Name g gp)) (some n) (b₀::suite) hpos] [] [] pos) (Bl cs i F Fh):=⟨TG.Mh hx hst hf hfn hT hg hN hi hl (λE pn hp=>(hb E pn hp).h) (λA pn h1 h2=>(hs A pn h1 h2).h) hdb⟩
noncomputable abbrev Lk(K:QR)(f:Sg)(nm qual:Str)(st:Si)(oc:Se)(od:Option Sg)(kV dc pm:Se)(an:Option Sg)(cd ct:Se)(sl:Array (Option Se)):Prop:=K.lookup f=some ⟨oc,od,.func (Rp nm qual (il st) (cH st) (aj st) .none kV dc pm an cd ct),sl⟩
structure wJ(P:Sn)(w:Sl)(K:QR)(mg:bg)(base:Sr)(k:Nat)(N:ah)(qual:Str)(st:Si)(f:Sg)(B:aS):Prop where
 h:∀(cdv:Se)(A:Sw)(outer:List Env)(s:Sj)(H:Hp)(E:XK),dq k (A.deeper (RY qual (aj st) s.heap.objs.size f cdv))->SK (model P w) (A.deeper (RY qual (aj st) s.heap.objs.size f cdv)) (RY qual (aj st) s.heap.objs.size f cdv) (eY (gB P w) P w K mg base N qual (aj st) f cdv A outer s H E).xe->
  ua (eY (gB P w) P w K mg base N qual (aj st) f cdv A outer s H E) (cH st) B
theorem wJ.ok{P:Sn}{w:Sl}{K:QR}{mg:bg}{base:Sr}{k:Nat}{N:ah}{qual:Str}{st:Si}{f:Sg}{B:aS}(h:wJ P w K mg base k N qual st f B):BodyOk P w K mg base k N qual st f B:=⟨λcdv A outer s H E hr hp=>(h.h cdv A outer s H E hr hp).h⟩
section
variable{X:Cx}{x:Str}{pos:Pos}
theorem xw(i:Nat)(hN:X.N[i]?=some x:=by rfl)(hv:H0 X.env.scope x:=by first|exact Or.inl rfl|exact Or.inr (Or.inl rfl)|exact Or.inr (Or.inr rfl))(hd:(x==("__debug__":Str))=false:=by decide)(hcd:(x==("__classdict__":Str))=false:=by decide):XE X (.Name x pos) (ae i):=Ee (xv i hN hv hd hcd)
theorem xi{a b:Sh}{fa fb:FX}(ha:XE X a fa)(hb:XE X b fb)(hs:sE b:=by exact λ_ _=>rfl):XE X (.Subscript a b pos) (f2 aR fa fb):=Hm ha hb hs
theorem xa1{e:Sh}{f:FX}(he:XE X e f)(h:noStar e=true:=by rfl):XA X [e] (aa f af):=nY he wm h
theorem xa2{e e':Sh}{f f':FX}(he:XE X e f)(he':XE X e' f')(h:noStar e=true:=by rfl)(h':noStar e'=true:=by rfl):XA X [e,e'] (aa f (aa f' af)):=nY he (xa1 he' h') h
theorem xs(i:Nat){e:Sh}{f:FX}{pos':Pos}(hN:X.N.Nodup)(he:XE X e f)(hi:X.N[i]?=some x:=by rfl)(hx:Loc X.env.scope x:=by first|exact Or.inl rfl|exact Or.inr rfl)(hs:swapsWith e (some (.Name x pos')) pos.line X.env=pure false:=by rfl)(hf:X.fn x=true\/X.env.scope.names.lookup x=some .local:=by first|exact .inl rfl|exact .inr rfl|assumption):XS X (.Assign [.Name x pos'] e pos) (bB i f):=EQ hN hi hx he hs hf
end
noncomputable def MP:ah->Bool
 |[]=>true
 |x::r=>!(r.contains x)&&MP r
theorem jf{l:ah}(h:MP l=true):l.Nodup:=by
 induction l with
 |nil=>exact List.nodup_nil
 |cons x r ih=>
  simp only[MP,Pt,Qs]at h;exact List.nodup_cons.mpr ⟨λm=>by rw[List.contains_iff_mem.mpr m]at h;exact absurd h.1 (by decide),ih h.2⟩
noncomputable def Gq:Sh->ah
 |.Name x _=>[x]
 |.Tuple es _ _=>es.filterMap λe=>match e with
  |.Name x _=>some x
  |_=>none
 |_=>[]
noncomputable def Bi(N:ah):gj->ah->ah
 |[],_=>[]
 |some j::r,t=>N.getD j ""::Bi N r t
 |none::r,x::t=>x::Bi N r t
 |none::r,[]=>""::Bi N r []
section
variable{X:Cx}{elt tg iter:Sh}{ifs:aF}{scope:Sx}{ix:gj}{G:aC}{g:GF}{C:aX}{Fe:FX}{i:Nat}{y:Str}{lpos py pos:Pos}
theorem xl(hc:X.calm=true)(tk:mV ix g)(hi:XI X tg iter G)(hb:pJ X scope (Bi X.N ix (Gq tg)) tg elt ifs g C Fe)(ok:jU X.env.scope.names X.N scope (Bi X.N ix (Gq tg)) ix=true:=by rfl)(hs:∀x,SU iter X.env x=pure x:=by intro _;rfl):XE X (.ListComp elt [⟨tg,iter,ifs,0⟩] scope pos) (ja ix G g C Fe):=G3 hc (.of ok) tk hi hb hs
theorem NX(hc:X.calm=true)(tk:mV ix g)(hi:XI X tg iter G)(hb:pJ X scope (Bi X.N ix (Gq tg)) tg elt ifs g C Fe)(ok:jU X.env.scope.names X.N scope (Bi X.N ix (Gq tg)) ix=true:=by rfl)(hs:∀x,SU iter X.env x=pure x:=by intro _;rfl):XN X (.ListComp elt [⟨tg,iter,ifs,0⟩] scope pos) (ja ix G g C Fe):=Hc hc (.of ok) tk hi hb hs
theorem NN(hN:X.N.Nodup)(hc:X.calm=true)(tk:mV ix g)(hi:XI X tg iter G)(hb:pJ X scope (Bi X.N ix (Gq tg)) tg elt ifs g C Fe)(hi':X.N[i]?=some y:=by rfl)(hx:Loc X.env.scope y:=by first|exact Or.inl rfl|exact Or.inr rfl)(ok:jU X.env.scope.names X.N scope (Bi X.N ix (Gq tg)) ix=true:=by rfl)(hsw:swapsWith (.ListComp elt [⟨tg,iter,ifs,0⟩] scope lpos) (some (.Name y py)) pos.line X.env=pure true:=by rfl)(hs:∀x,SU iter X.env x=pure x:=by intro _;rfl)(hf:X.fn y=true\/X.env.scope.names.lookup y=some .local:=by first|exact .inl rfl|exact .inr rfl|assumption):XS X (.Assign [.Name y py] (.ListComp elt [⟨tg,iter,ifs,0⟩] scope lpos) pos) (bB i (ja ix G g C Fe)):=IT hN hi' hx hc (.of ok) tk hi hb hsw hs hf
theorem Oa(hN:X.N.Nodup)(hc:X.calm=true)(tk:mV ix g)(hi:XI X tg iter G)(hb:pJ X scope (Bi X.N ix (Gq tg)) tg elt ifs g C Fe)(hi':X.N[i]?=some y:=by rfl)(hx:Loc X.env.scope y:=by first|exact Or.inl rfl|exact Or.inr rfl)(ok:jU X.env.scope.names X.N scope (Bi X.N ix (Gq tg)) ix=true:=by rfl)(hsw:swapsWith (.ListComp elt [⟨tg,iter,ifs,0⟩] scope lpos) (some (.Name y py)) pos.line X.env=pure true:=by rfl)(hs:∀x,SU iter X.env x=pure x:=by intro _;rfl)(hf:X.fn y=true\/X.env.scope.names.lookup y=some .local:=by first|exact .inl rfl|exact .inr rfl|assumption):XS X (.Assign [.Name y py] (.ListComp elt [⟨tg,iter,ifs,0⟩] scope lpos) pos) (mS i (ja ix G g C Fe)):=x8 hN hi' hx hc (.of ok) tk hi hb hsw hs hf
end
structure U where
 P:Sn
 w:Sl
 K:QR
 mg:bg
 base:Sr
 cL:Sg
 T:Sg
noncomputable abbrev Ca(u:U)(k:Nat)(x:Str)(ps:ah)(g:cy):Prop:=Callee u.P u.w u.K u.mg u.base k x ps g
noncomputable abbrev Ma(u:U)(k:Nat)(c m:Str)(ps:ah)(g:cy):Prop:=MethAt u.P u.w u.K u.mg u.base k c m ps g
noncomputable abbrev Ta(u:U)(k:Nat)(m:Str)(ps:ah)(t:List (Str×(cy))):Prop:=oV u.P u.w u.K u.mg u.base k m ps t
noncomputable def Df(u:U)(x:Str)(st:Si):Prop:=∃f fd,kc u.K x x st f fd/\u.mg x=some (.ref f)
noncomputable def Dm(u:U)(c m qual:Str)(st:Si):Prop:=∃C f fd,clsAt u.K c C/\ik u.K C/\Meth u.K C m f/\kc u.K m qual st f fd
noncomputable def Bd(x qual:Str)(st:Si)(ps:ah):Prop:=∀us:aP,us.length=ps.length->∀(kV doc pm:Se)(an:Option Sg)(cdv ct:Se),bindArgs (Rp x qual (il st) (cH st) (aj st) .none kV doc pm an cdv ct) ⟨us,[]⟩=pure (ps.zip us)
theorem kc.bd{K:QR}{x qual:Str}{st:Si}{f:Sg}{fd:Te}{ps:ah}(F:kc K x qual st f fd)(h:Bd x qual st ps):Binds K fd ps []:=F.binds λkV doc pm an cdv ct us e=>h us e kV doc pm an cdv ct
section
variable{u:U}{x c m qual:Str}{st:Si}{ps:ah}{k:Nat}{B:aS}
theorem M8(M:ah)(d:Df u x st)(b:Bd x x st ps)(sc:aO (ps++M) ps (aj st))(h:(ps++M).Nodup->∀f,wJ u.P u.w u.K u.mg u.base k (ps++M) x st f B):Ca u (k+1) x ps (au B ps.length (ps++M).length):=by
 obtain⟨f,fd,F,e⟩:=d;exact xr F (kc.bd F b) e sc (h sc.nd f).ok
theorem Oj(d:Df u x st)(b:Bd x x st ps):Ca u k x ps λ_=>un:=by
 obtain⟨f,fd,F,e⟩:=d;exact ui k F (kc.bd F b) e
theorem NF(M:ah)(d:Dm u c m qual st)(b:Bd m qual st ps)(sc:aO (ps++M) ps (aj st))(h:(ps++M).Nodup->∀f,wJ u.P u.w u.K u.mg u.base k (ps++M) qual st f B):Ma u (k+1) c m ps (au B ps.length (ps++M).length):=by
 obtain⟨C,f,fd,h1,h2,h3,F⟩:=d;exact yZ h1 h2 h3 F (kc.bd F b) sc (h sc.nd f).ok
theorem NV(M:ah){f:Sg}{fd:Te}(F:kc u.K x x st f fd)(sc:aO (ps++M) ps (aj st))(h:(ps++M).Nodup->wJ u.P u.w u.K u.mg u.base k (ps++M) x st f B):fG u.P u.w u.K u.mg u.base (gB u.P u.w) (k+1) f fd ps (yr u.K ps.length (au B ps.length (ps++M).length)):=qX F sc (h sc.nd).ok
end
noncomputable def KD(K:QR)(x:Str)(st:Si):Prop:=∃f oc od kV dc pm an cd ct sl,Ru K Su x=some (some (.ref f))/\Lk K f x x st oc od kV dc pm an cd ct sl/\Rq K cd x=true/\Rm K (.ref f)=true
theorem KD.mk{K:QR}{x:Str}{st:Si}{f:Sg}{oc:Se}{od:Option Sg}{kV dc pm:Se}{an:Option Sg}{cd ct:Se}{sl:Array (Option Se)}(a:Ru K Su x=some (some (.ref f)))(l:Lk K f x x st oc od kV dc pm an cd ct sl)(c:Rq K cd x=true)(k:Rm K (.ref f)=true):KD K x st:=⟨f,oc,od,kV,dc,pm,an,cd,ct,sl,a,l,c,k⟩
noncomputable def KDs(K:QR):List (Str×Si)->Prop
 |[]=>True
 |p::r=>KD K p.1 p.2/\KDs K r
theorem KDs.mk{K:QR}{x:Str}{st:Si}{r:List (Str×Si)}(h:KD K x st)(t:KDs K r):KDs K ((x,st)::r):=⟨h,t⟩
noncomputable def Ku(u:U)(Z:Prop):List (Str×Si)->Prop
 |[]=>Z
 |p::r=>Ku u Z r/\Df u p.1 p.2
noncomputable def KZs(K:QR):ah->Prop
 |[]=>True
 |x::r=>Ru K Su x=some none/\KZs K r
theorem KZs.mk{K:QR}{x:Str}{r:ah}(h:Ru K Su x=some none)(t:KZs K r):KZs K (x::r):=⟨h,t⟩
noncomputable def Zs(u:U):ah->Prop
 |[]=>True
 |x::r=>Zs u r/\u.mg x=none
section
variable{u:U}{h:Sr}
theorem Ku.of{Z:Prop}(X:u.K.In h)(G:h.Ns Su u.mg)(z:Z):∀{l:List (Str×Si)},KDs u.K l->Ku u Z l
 |[],_=>z
 |_::_,h=>by
  obtain⟨⟨_,_,_,_,_,_,_,_,_,_,a,l,c,k⟩,r⟩:=h;exact⟨Ku.of X G z r,_,_,b8 l c k,RL X G a⟩
theorem Zs.of(X:u.K.In h)(G:h.Ns Su u.mg):∀{l:ah},KZs u.K l->Zs u l
 |[],_=>trivial
 |_::_,⟨a,r⟩=>⟨Zs.of X G r,PySem.W.mg_none_of X G a⟩
end
theorem Fi{us:aP}{n:Nat}(h:us.length=n+1):∃a r,us=a::r/\r.length=n:=by
 cases us with
 |nil=>cases h
 |cons a r=>exact⟨a,r,rfl,Nat.succ.inj h⟩
theorem JN{us:aP}(h:us.length=1):∃a,us=[a]:=List.length_eq_one_iff.mp h
theorem Bv{us:aP}(h:us.length=2):∃a b,us=[a,b]:=by
 obtain⟨a,r,rfl,k⟩:=Fi h;obtain⟨b,rfl⟩:=JN k;exact⟨a,b,rfl⟩
theorem vf{us:aP}(h:us.length=3):∃a b c,us=[a,b,c]:=by
 obtain⟨a,r,rfl,k⟩:=Fi h;obtain⟨b,c,rfl⟩:=Bv k;exact⟨a,b,c,rfl⟩
theorem Jb{us:aP}(h:us.length=4):∃a b c d,us=[a,b,c,d]:=by
 obtain⟨a,r,rfl,k⟩:=Fi h;obtain⟨b,c,d,rfl⟩:=vf k;exact⟨a,b,c,d,rfl⟩
theorem Jy{us:aP}(h:us.length=5):∃a b c d e,us=[a,b,c,d,e]:=by
 obtain⟨a,r,rfl,k⟩:=Fi h;obtain⟨b,c,d,e,rfl⟩:=Jb k;exact⟨a,b,c,d,e,rfl⟩
end TX
namespace TG
open L2
instance(priority:=low) noTabs:al:=⟨λ_=>True,λ_ _=>trivial,λ_ _ _=>trivial⟩
end TG
namespace TX
open PySem PySem.Spec L2 TG
variable[al]
structure XM(X:Cx)(j:Nat)(st:Si)(F:aS):Prop where h:FM X j st F
structure uH(X:Cx)(j:Nat)(st:cS)(F:aS):Prop where h:zl X j st F
structure zk(X:Cx)(j:Nat)(e:Sh)(F:sO):Prop where h:Gm X j e F
structure Gx(X:Cx)(j:Nat)(es:aF)(F:ak->R (List D×List D)):Prop where h:FAM X j es F
section
variable{X:Cx}{j:Nat}{pos:Pos}{st:Si}{rest body:cS}
theorem yM{k k':Nat}{ps:ah}{g:cy}{h:aC}{x y:Str}{p p' pos:Pos}{es:aF}(C:iJ X.prog X.w X.K X.mg X.base k x ps g)(hn:Ar ps.length g)(hr:dq k' X.A)(hk:k<=k')(hw:XV X (.Name y p') j)(ha:XA X es h)(hg:Gl X x:=by rfl)
  (hdb:(x==("__debug__":Str))=false:=by decide) (hns:es.all noStar=true:=by rfl):zk X j (.Call (.Name x p) (.Name y p'::es) [] pos) (dP j g h):=⟨AR C hn hr hk hw.h ha.h hg hdb hns⟩
theorem z8{x:Str}{npos apos cpos:Pos}(hx:XV X (.Name x npos) j)
  (hbase:S9 (.Name x npos) "pop" X.env (eval (.Name x npos) X.env)=eval (.Name x npos) X.env:=by rfl) (hline:(apos.endLine==cpos.line)=true:=by rfl):
  zk X j (.Call (.Attribute (.Name x npos) "pop" apos) [] [] cpos) (tI j):=⟨C3 hx.h hbase hline⟩
theorem yT{e:Sh}{F:sO}(h:zk X j e F)(hns:noStar e=true:=by rfl):Gx X j [e] (iu F):=⟨AI h.h hns⟩
theorem yN{e:Sh}{es:aF}{f:FX}{G:ak->R (List D×List D)}(he:XE X e f)(h:Gx X j es G)(hns:noStar e=true:=by rfl):Gx X j (e::es) (iA f G):=⟨A2 he.h h.h hns⟩
theorem tR{k k':Nat}{ps:ah}{g:cy}{G:ak->R (List D×List D)}{x:Str}{p pos:Pos}{e:Sh}{es:aF}
  (C:Callee X.prog X.w X.K X.mg X.base k x ps g) (hn:Ar ps.length g) (hr:dq k' X.A) (hk:k<=k') (ha:Gx X j (e::es) G) (hg:Gl X x:=by rfl)
  (hdb:(x==("__debug__":Str))=false:=by decide) (hns:(e::es).all noStar=true:=by rfl):zk X j (.Call (.Name x p) (e::es) [] pos) (II g G):=⟨vO C hn hr hk ha.h hg hdb hns⟩
theorem BZ{c:Str}{fs ps:ah}{k k':Nat}{G:ak->R (List D×List D)}{p pos:Pos}{e:Sh}{es:aF}(IA:bJ X.prog X.w X.K X.mg X.base k c ps fs)(hr:dq k' X.A)(hk:k+1<=k')(hg:Gl X c)(ha:Gx X j (e::es) G)(hdb:(c==("__debug__":Str))=false:=by decide)
  (hns:(e::es).all noStar=true:=by rfl):zk X j (.Call (.Name c p) (e::es) [] pos) (lK c fs G):=⟨EJ IA hr hk hg ha.h hdb hns⟩
theorem Av:uH X j [] aU:=⟨Dc⟩
theorem zg:uH X j body ql:=⟨zG⟩
theorem xW{F1 F2:aS}(h1:XM X j st F1)(h2:uH X j rest F2):uH X j (st::rest) (aq F1 F2):=⟨Bj h1.h h2.h⟩
theorem Bf{F1:aS}(h1:XM X j st F1):uH X j [st] F1:=⟨DQ h1.h⟩
theorem Cm{F:aS}(i:Nat)(hi:i≠j)(h:uH X j body F):uH X j body (j4 i j F):=⟨D3 i hi h.h⟩
theorem Fx{e:Sh}{f:FX}(h:XE X e f):XM X j (.Return (some e) pos) (mJ j f):=⟨HK h.h⟩
theorem Cj{e:Sh}{F:sO}(h:zk X j e F):XM X j (.Return (some e) pos) (kO j F):=⟨D8 h.h⟩
theorem zA{i:Nat}{x:Str}{e:Sh}{F:sO}{pos':Pos}(hij:i≠j)(hN:X.N.Nodup)(he:zk X j e F)(hi:X.N[i]?=some x:=by rfl)(hx:Loc X.env.scope x:=by first|exact Or.inl rfl|exact Or.inr rfl)(hs:swapsWith e (some (.Name x pos')) pos.line X.env=pure false:=by rfl)(hf:X.fn x=true\/X.env.scope.names.lookup x=some .local:=by first|exact .inl rfl|exact .inr rfl|assumption):
  XM X j (.Assign [.Name x pos'] e pos) (gr i j F):=⟨DN hij hN hi hx he.h hs hf⟩
theorem DF{i:Nat}{x:Str}{e:Sh}{f:FX}{pos':Pos}(hij:i≠j)(hN:X.N.Nodup)(he:XE X e f)(hi:X.N[i]?=some x:=by rfl)(hx:Loc X.env.scope x:=by first|exact Or.inl rfl|exact Or.inr rfl)(hs:swapsWith e (some (.Name x pos')) pos.line X.env=pure false:=by rfl)(hf:X.fn x=true\/X.env.scope.names.lookup x=some .local:=by first|exact .inl rfl|exact .inr rfl|assumption):
  XM X j (.Assign [.Name x pos'] e pos) (bB i f):=⟨Hz hij hN hi hx he.h hs hf⟩
theorem EF{i:Nat}{x:Str}{e:Sh}{f:FX}{pos':Pos}(hij:i≠j)(hN:X.N.Nodup)(he:XN X e f)(hi:X.N[i]?=some x:=by rfl)(hx:Loc X.env.scope x:=by first|exact Or.inl rfl|exact Or.inr rfl)(hs:swapsWith e (some (.Name x pos')) pos.line X.env=pure false:=by rfl)(hf:X.fn x=true\/X.env.scope.names.lookup x=some .local:=by first|exact .inl rfl|exact .inr rfl|assumption):
  XM X j (.Assign [.Name x pos'] e pos) (mS i f):=⟨HQ hij hN hi hx he.h hs hf⟩
theorem G2{c:Sh}{a b:cS}{tc:aX}{A B:aS}(hc:XT X c tc)(ha:uH X j a A)(hb:uH X j b B):XM X j (.If c a b pos) (fm tc A B):=⟨Jl hc.h ha.h hb.h⟩
theorem yh{c:Sh}{tc:aX}{B:aS}(n:Nat)(hp:SK (model X.prog X.w) X.A X.env X.xe)(hc:XT X c tc)(hb:uH X j body B):XM X j (.While c body [] pos) (kn n tc B):=⟨zO n hp hc.h hb.h⟩
theorem Ef{i:Nat}{x:Str}{e:Sh}{es:aF}{f:aC}{npos apos cpos pos:Pos}(hx:XV X (.Name x npos) i)(he:XA X (e::es) f)
  (hbase:S9 (.Name x npos) "append" X.env (eval (.Name x npos) X.env)=eval (.Name x npos) X.env:=by rfl)
  (hfew:((backTo cpos (SA (e::es) X.env)).all (fun x=>!x.1) && (backToKw cpos (Tc [] X.env)).all (fun x=>x.1.isSome)
   && decide ((e::es:aF).length+([]:List Tx).length+(if([]:List Tx).isEmpty then 0 else 1)<30))=true:=by rfl)
  (hline:(apos.endLine==cpos.line)=true:=by rfl) (hs:SA (e::es) X.env=(false,eval e X.env)::SA es X.env:=by rfl) (hplain:(backTo cpos (SA es X.env)).any (·.1)=false:=by rfl)
  (hsw:swapsWith (.Call (.Attribute (.Name x npos) "append" apos) (e::es) [] cpos) none pos.line X.env=pure false:=by rfl):
  XM X j (.Expr (.Call (.Attribute (.Name x npos) "append" apos) (e::es) [] cpos) pos) (zn i tM f):=⟨Jo Sb Sd lV qf hx.h he.h hbase hfew hline hs hplain hsw⟩
theorem x4{x:Str}{e:Sh}{es:aF}{f:aC}{np cpos:Pos}(hc:X.calm=true)(hx:ExcAt X.K X.mg x)(hg:Gl X x)(ha:XA X (e::es) f)
  (hdb:(x==("__debug__":Str))=false:=by decide) (hns:(e::es).all noStar=true:=by rfl):
  XM X j (.Raise (some (.Call (.Name x np) (e::es) [] cpos)) none pos) (eF x f):=⟨Bh hc hx hg ha.h hdb hns⟩
theorem BQ:XM X j st ql:=⟨Ej⟩
theorem vF{k k':Nat}{ps:ah}{g:cy}{f:FX}{x:Str}{p pos:Pos}{e:Sh}(C:iJ X.prog X.w X.K X.mg X.base k x ps g)(hn:Ar ps.length g)(hr:dq k' X.A)(hk:k<=k')(he:XN X e f)(hg:Gl X x:=by rfl)
  (hdb:(x==("__debug__":Str))=false:=by decide) (hns:noStar e=true:=by rfl):XE X (.Call (.Name x p) [e] [] pos) (lX g f):=⟨yo C hn hr hk he.h hg hdb hns⟩
theorem uN{a e:Sh}{fa:FX}{fs:aC}{apos cpos:Pos}(ha:XE X a fa)(hs:XA X [e] fs)(hbase:S9 a "startswith" X.env (eval a X.env)=eval a X.env:=by rfl)
  (hfew:((backTo cpos (SA [e] X.env)).all (fun x=>!x.1) && (backToKw cpos (Tc [] X.env)).all (fun x=>x.1.isSome)
   && decide (([e]:aF).length+([]:List Tx).length+(if([]:List Tx).isEmpty then 0 else 1)<30))=true:=by rfl)
  (hline:(apos.endLine==cpos.line)=true:=by rfl) (hst:SA [e] X.env=(false,eval e X.env)::SA [] X.env:=by rfl) (hplain:(backTo cpos (SA [] X.env)).any (·.1)=false:=by rfl):
  XE X (.Call (.Attribute a "startswith" apos) [e] [] cpos) (iC fa fs):=⟨xM ha.h hs.h hbase hfew hline hst hplain⟩
theorem AG{x:Str}{kvs:List (Str×List Str)}{e:Sh}{f:FX}{p:Pos}(C:zm X.prog X.w X.K X.mg x kvs)(hg:Gl X x)(he:XE X e f)(hs:Iw e)(hd:(x==("__debug__":Str))=false:=by decide):XE X (.Subscript (.Name x p) e pos) (f1 (Gh kvs) f):=⟨CV C hg he.h hs hd⟩
theorem IC{x:Str}{kvs:List (Str×List Str)}{e:Sh}{f:FX}{p:Pos}(C:zm X.prog X.w X.K X.mg x kvs)(hg:Gl X x)(he:XE X e f)(hd:(x==("__debug__":Str))=false:=by decide):XE X (.Compare e [.NotIn] [.Name x p] pos) (f1 (zj kvs) f):=⟨Ji C hg he.h hd⟩
theorem IJ{x:Str}{kvs:List (Str×List Str)}{e:Sh}{f:FX}{p:Pos}(C:zm X.prog X.w X.K X.mg x kvs)(hg:Gl X x)(he:XE X e f)(hd:(x==("__debug__":Str))=false:=by decide):XT X (.Compare e [.NotIn] [.Name x p] pos) (fB (f1 (zj kvs) f)):=⟨Ja C hg he.h hd⟩
theorem ot{a:Sh}{fa:FX}{apos cpos:Pos}(ha:XE X a fa)(hbase:S9 a "split" X.env (eval a X.env)=eval a X.env:=by rfl)(hline:(apos.endLine==cpos.line)=true:=by rfl):
  XE X (.Call (.Attribute a "split" apos) [] [] cpos) (f1 nA fa):=⟨yx ha.h hbase hline⟩
theorem zQ{a:Sh}{f:FX}{p q pos pos':Pos}(hc:X.calm=true)(hg:Gl X "list")(hm:X.mg "list"=none)(hg':Gl X "reversed")(hm':X.mg "reversed"=none)(ha:XE X a f)(hns:noStar a=true:=by rfl):
  XN X (.Call (.Name "list" p) [.Call (.Name "reversed" q) [a] [] pos'] [] pos) (f1 qu f):=⟨D4 hc hg hm hg' hm' ha.h hns⟩
end
structure Ig(P:Sn)(w:Sl)(K:QR)(mg:bg)(base:Sr)(k:Nat)(N:ah)(qual:Str)(st:Si)(f:Sg)(B:aS):Prop where
 h:∀(cdv:Se)(A:Sw)(outer:List Env)(s:Sj)(H:Hp)(E:XK),dq k (A.deeper (RY qual (aj st) s.heap.objs.size f cdv))->SK (model P w) (A.deeper (RY qual (aj st) s.heap.objs.size f cdv)) (RY qual (aj st) s.heap.objs.size f cdv) (eY (gB P w) P w K mg base N qual (aj st) f cdv A outer s H E).xe->
  uH (eY (gB P w) P w K mg base N qual (aj st) f cdv A outer s H E) 0 (cH st) B
noncomputable abbrev IX(u:U)(k:Nat)(x:Str)(ps:ah)(g:cy):Prop:=iJ u.P u.w u.K u.mg u.base k x ps g
section
variable{u:U}{x:Str}{st:Si}{ps:ah}{k:Nat}{B:aS}
theorem Ht(M:ah)(d:Df u x st)(b:Bd x x st ps)(sc:aO (ps++M) ps (aj st))(h:(ps++M).Nodup->∀f,Ig u.P u.w u.K u.mg u.base k (ps++M) x st f B):IX u (k+1) x ps (oy B ps.length (ps++M).length):=by
 obtain⟨f,fd,F,e⟩:=d;exact vL F (kc.bd F b) e sc ⟨λcdv A outer s H E hr hp=>((h sc.nd f).h cdv A outer s H E hr hp).h⟩
theorem L6(d:Df u x st)(b:Bd x x st ps):IX u k x ps λ_=>un:=by
 obtain⟨f,fd,F,e⟩:=d;exact rV k F (kc.bd F b) e
theorem Nz{bs:Str}(hm:∃t,u.mg "BRACKETS"=some (.str bs t))(ha:bs.cps.all (·<128)=true)(M:ah)(d:Df u x st)(b:Bd x x st ps)(sc:aO (ps++M) ps (aj st))(hp0:∃x0 r,ps=x0::r/\(aj st).names.lookup x0=some .local)
  (h:(ps++M).Nodup->∀ (tb:Tok),u.mg "BRACKETS"=some (.str bs tb)->∀ (f:Sg) (cdv:Se) (A:Sw) (outer:List Env) (s:Sj) (H:Hp) (E:XK),dq k (A.deeper (RY x (aj st) s.heap.objs.size f cdv))->SK (model u.P u.w) (A.deeper (RY x (aj st) s.heap.objs.size f cdv)) (RY x (aj st) s.heap.objs.size f cdv) (eY (gB u.P u.w) u.P u.w u.K u.mg u.base (ps++M) x (aj st) f cdv A outer s H E).xe ->
   HM (eY (gB u.P u.w) u.P u.w u.K u.mg u.base (ps++M) x (aj st) f cdv A outer s H E) (cH st) B):Ca u (k+1) x ps (au B ps.length (ps++M).length):=by
 obtain⟨f,fd,F,e⟩:=d;obtain⟨t,hm⟩:=hm;exact uZ F (kc.bd F b) e sc hp0 ⟨λcdv A outer s H E hr hp=>h sc.nd t hm f cdv A outer s H E hr hp⟩
end
noncomputable def CC(w:Sl)(p:Str×Tok×Sg×List Str):Tz:=⟨hashStr w p.1,.str p.1 p.2.1,.ref p.2.2.1⟩
noncomputable def LY(K:QR):List (Str×Tok×Sg×List Str)->Prop
 |[]=>True
 |p::r=>KTup K p.2.2.1 p.2.2.2/\LY K r
theorem tm:∀{xs:ah}{its:aP},its.map my=xs.map (λx=>some (V.str x))->Vals (xs.map V.str) its
 |[],[],_=>.nil
 |x::xs,v::its,h=>by
  have h1:my v=some (V.str x):=(List.cons.inj h).1;have h2:=(List.cons.inj h).2;refine .cons ?_ (tm h2);cases v<;>first|(cases h1;exact⟨_,rfl⟩)|cases h1
 |[],_::_,h=>by cases h
 |_::_,[],h=>by cases h
theorem gw{K:QR}{a:Sg}{xs:ah}{od:Option Sg}{its:Array Se}{n:Nat}{sl:Array (Option Se)}(h:K.lookup a=some ⟨.type "tuple",od,.seq its n,sl⟩)(e:its.toList.map my=xs.map (λx=>some (V.str x)))(hz:decide (xs.length<=100)=true):KTup K a xs:=
 ⟨_,its,n,h,rfl,rfl,by
  have hz:=of_decide_eq_true hz
  have:=congrArg List.length e
  rw[O6,O6,Array.length_toList]at this;rw[S5];omega,tm e⟩
theorem LY.paired{K:QR}:∀{L:List (Str×Tok×Sg×List Str)},LY K L->Sq (JI K) (L.map λp=>(p.1,p.2.2.2)) (L.map λp=>((.inr p.1:Key),Value.ref p.2.2.1))
 |[],_=>.nil
 |_::_,h=>.cons ⟨rfl,_,rfl,h.1⟩ (LY.paired h.2)
theorem zE{P:Sn}{w:Sl}{K:QR}{mg:bg}{x:Str}{a:Sg}{es:Array Tz}{ep:Nat}{L:List (Str×Tok×Sg×List Str)}(h1:mg x=some (.ref a))(h2:(a==sysModules)=false)(h3:K.lookup a=some {cls:=.type "dict",data:=.dict es ep})
  (h4:es.toList=L.map (CC w)) (h5:LY K L) (h6:(L.map (·.1)).Nodup):zm P w K mg x (L.map λp=>(p.1,p.2.2.2)):=by
 refine He h1 h2 h3 ?_ (vs:=L.map λp=>((.inr p.1:Key),Value.ref p.2.2.1)) ?_ ?_ h5.paired
 ·intro e he;have he:e∈es.toList:=by simpa using he
  rw[h4]at he;obtain⟨p,_,rfl⟩:=List.mem_map.mp he;exact⟨.inr p.1,jr P w p.1 p.2.1,rfl⟩
 ·rw[h4];clear h3 h4 h5 h6
  induction L with
  |nil=>exact .nil
  |cons p r ih=>exact .cons (jr P w p.1 p.2.1) rfl ih
 ·rw[Qx]
  have:(L.map ((λq:Key×Se=>q.1)∘λp=>((Sum.inr p.1:Key),Value.ref p.2.2.1)))=(L.map (·.1)).map Sum.inr:=by rw[Qx];rfl
  rw[this];exact List.Pairwise.map _ (λa b hn h=>hn (Sum.inr.inj h)) h6
section
variable{X:Cx}
theorem xA{a e : Sh}{es : aF}{fa : FX}{fs : aC}{apos cpos : Pos}(ha : XE X a fa)(hs : XA X (e :: es) fs)(hbase : S9 a "join" X.env (eval a X.env) = eval a X.env := by rfl)(hfew : ((backTo cpos (SA (e :: es) X.env)).all (fun x => !x.1) && (backToKw cpos (Tc [] X.env)).all (fun x => x.1.isSome)
      && decide ((e::es).length+([]:List Tx).length+(if([]:List Tx).isEmpty then 0 else 1)<30))=true:=by rfl)(hline:(apos.endLine==cpos.line)=true:=by rfl)(hst:SA (e::es) X.env=(false,eval e X.env)::SA es X.env:=by rfl)(hplain:(backTo cpos (SA es X.env)).any (·.1)=false:=by rfl):XE X (.Call (.Attribute a "join" apos) (e::es) [] cpos) (oZ fa fs):=⟨PE.weak (tQ F.plainAttrs_str F.slot_str_join F.type_str_join Ae ha.h hs.h hbase hfew hline hst hplain) λσ H Q zq=>zq.elim λO zq=>zq.elim λρ zq=>zq.elim λE hF=>⟨O,ρ,E,(fH.bind hF).imp λx hF v H1 s1 d1=>by
    obtain⟨z,ez,hF⟩:=fH.rO (fH.bind hF);rw[sf ez d1];exact⟨rfl,O,ρ,E.same s1,((fH.bind hF).mono s1).imp λds hF vs H2 s2 d2=>by
      obtain⟨d,e,q⟩:=fH.rO hF;exact pT e d2 λw dw=>q w H2 (s1.trans s2) dw⟩⟩⟩
end
end TX
namespace TG
open PySem PySem.Spec L2
theorem nr{α:Sort _}{a b:α}(h:a=b):a=b:=h
theorem kB{α β:Type}(a:α)(f:α->R β):Except.bind (Except.ok a:R α) f=f a:=nr rfl
theorem wu{α β:Type}(x:Option Ex)(f:α->R β):Except.bind (Except.error x:R α) f=.error x:=nr rfl
theorem fJ{α:Type}(a:α)(k:Ks)(ρ:ak)(f:α->R D):km (.ok a) k ρ f=f a:=nr rfl
theorem wA{α:Type}(x:Ex)(k:Ks)(ρ:ak)(f:α->R D):km (.error (some x)) k ρ f=k.ex x ρ:=nr rfl
theorem pZ{α:Type}(a:α):Dt (.ok a:R α)=.ok a:=nr rfl
theorem jR{α:Type}(a:α):rO (some a)=.ok a:=nr rfl
theorem ge_0(d:D)(ρ:ak):ph (some (.val d)::ρ) 0=.ok d:=rfl
theorem EX(x:Option S)(ρ:ak)(i:Nat):ph (x::ρ) (i+1)=ph ρ i:=rfl
theorem qT(i:Nat)(ρ:ak):ae i ρ=ph ρ i:=rfl
theorem DA(d:D)(ρ:ak):fC d ρ=.ok d:=rfl
theorem sJ(ρ:ak):af ρ=.ok []:=rfl
theorem nz(f:FX)(g:aC)(ρ:ak):aa f g ρ=(f ρ).bind λx=>(g ρ).bind λxs=>.ok (x::xs):=rfl
theorem sN(g:aC)(ρ:ak):dZ g ρ=(g ρ).bind λxs=>rO (j7 xs):=rfl
theorem rW(g:aC)(ρ:ak):gH g ρ=(g ρ).bind λxs=>rO (kT xs):=rfl
theorem CT(g:D->aY)(f:FX)(ρ:ak):f1 g f ρ=(f ρ).bind λa=>rO (g a):=rfl
theorem Dq(g:D->D->aY)(f h:FX)(ρ:ak):f2 g f h ρ=(f ρ).bind λa=>(h ρ).bind λb=>rO (g a b):=rfl
theorem EY(f:FX)(ρ:ak):fB f ρ=(f ρ).bind λd=>rO (KJ d):=rfl
theorem EH(g:List D->aY)(f:aC)(ρ:ak):fL g f ρ=(f ρ).bind λds=>rO (g ds):=rfl
theorem Fj(g:cy)(f:aC)(ρ:ak):fR g f ρ=(f ρ).bind g:=nr rfl
theorem rF(f:aX)(ρ:ak):gk f ρ=(f ρ).bind λb=>.ok (!b):=rfl
theorem rA(f g:aX)(ρ:ak):Ck f g ρ=(f ρ).bind λb=>if b then g ρ else .ok false:=rfl
theorem wg(f g:aX)(ρ:ak):vB f g ρ=(f ρ).bind λb=>if b then .ok true else g ρ:=rfl
theorem ly(f:FX)(ρ:ak):bj f ρ=(f ρ).bind λd=>rO (truth d):=rfl
theorem mY(f g:FX)(ρ:ak):js f g ρ=(f ρ).bind λd=>vp d (g ρ):=rfl
theorem qN(f g:FX)(ρ:ak):MI f g ρ=(f ρ).bind λd=>JZ d (g ρ):=rfl
theorem ng(f:FX)(ρ:ak):wx f ρ=(f ρ).bind λa=>rO (HR a):=rfl
theorem wo(t:aX)(f g:FX)(ρ:ak):IU t f g ρ=(t ρ).bind λc=>if c then f ρ else g ρ:=rfl
theorem qQ(T:String)(f:FX)(ρ:ak):mh T f ρ=(f ρ).bind λa=>rO (vR T a):=rfl
theorem rl(f:FX)(ρ:ak):MF f ρ=(f ρ).bind λa=>.ok (.bl (isNon a)):=rfl
theorem ni(f:FX)(ρ:ak):J8 f ρ=(f ρ).bind λa=>.ok (.bl (!isNon a)):=rfl
theorem su(f:FX)(ρ:ak):Eu f ρ=(f ρ).bind λa=>rO (HG a):=rfl
theorem lM(f:FX)(ρ:ak):Ii f ρ=(f ρ).bind λa=>rO (zC a):=rfl
theorem rR(f:FX)(ρ:ak):Lz f ρ=(f ρ).bind λa=>rO (IG a):=rfl
theorem lD(g g':D->D->aY)(fa fb fc:FX)(ρ:ak):ii g g' fa fb fc ρ=(fa ρ).bind λx=>(fb ρ).bind λy=>(rO (g x y)).bind λz=>vp z ((fc ρ).bind λw=>rO (g' y w)):=rfl
theorem lC(f:FX)(ρ:ak):fS f ρ=(f ρ).bind λd=>rO (oK d):=rfl
theorem jC(f:aC)(ρ:ak):fW f ρ=(f ρ).bind λds=>rO (kQ ds):=rfl
theorem jW(f:aC)(ρ:ak):El f ρ=(f ρ).bind λds=>rO (v9 ds):=rfl
theorem sB(f:aC)(ρ:ak):BI f ρ=(f ρ).bind λds=>rO (Ba ds):=rfl
theorem mX(f:aC)(ρ:ak):uQ f ρ=(f ρ).bind λds=>rO (Gv ds):=rfl
theorem Ew(f:FX)(g:aC)(ρ:ak):qe f g ρ=(f ρ).bind λa=>(rO (Gf a)).bind λz=>(g ρ).bind λds=>rO (tV z ds):=rfl
theorem sj(z:Str):Gf (.str z)=some z:=rfl
theorem jB(ρ:ak):bK ρ=.ok none:=rfl
theorem nU(f:FX)(ρ:ak):eI f ρ=(f ρ).bind λd=>rO (vt d):=rfl
theorem kM(f:FX)(l h:ak->R et)(ρ:ak):cz f l h ρ=(f ρ).bind λa=>(l ρ).bind λlo=>(h ρ).bind λhi=>rO (gm a lo hi):=rfl
theorem nD(ρ:ak):eK ρ=.ok true:=rfl
theorem nF(k:Ks)(ρ:ak):aU k ρ=k.nx ρ:=nr rfl
theorem cY(A B:aS)(k:Ks)(ρ:ak):aq A B k ρ=A {k with nx:=B k} ρ:=nr rfl
theorem kH(f:FX)(k:Ks)(ρ:ak):aK f k ρ=km (f ρ) k ρ .ok:=nr rfl
theorem kL(k:Ks)(ρ:ak):JK k ρ=.ok .non:=nr rfl
theorem jw(c:aX)(A B:aS)(k:Ks)(ρ:ak):fm c A B k ρ=km (c ρ) k ρ λb=>if b then A k ρ else B k ρ:=nr rfl
theorem jG(i:Nat)(f:FX)(k:Ks)(ρ:ak):bB i f k ρ=km (f ρ) k ρ λd=>k.nx (setV i d ρ):=nr rfl
theorem lj(is:bx)(F:aS)(k:Ks)(ρ:ak):o3 is F k ρ=F k (kill is ρ):=nr rfl
theorem jP(G:aC)(g:GF)(B:aS)(k:Ks)(ρ:ak):yH G g B k ρ=km (G ρ) k ρ λds=>iY g B k ds ρ:=nr rfl
theorem Ek(d:D)(x:Option S)(ρ:ak):setV 0 d (x::ρ)=some (.val d)::ρ:=rfl
theorem C0(i:Nat)(d:D)(x:Option S)(ρ:ak):setV (i+1) d (x::ρ)=x::setV i d ρ:=rfl
theorem sv(ρ:ak):kill [] ρ=ρ:=rfl
theorem nB(i:Nat)(is:bx)(ρ:ak):kill (i::is) ρ=kill is (ρ.set i none):=rfl
theorem aE(B:aS)(n:Nat)(a:D):au B 1 n [a]=B K0 (env0 n [a]):=nr rfl
theorem dQ(B:aS)(n:Nat)(a b:D):au B 2 n [a,b]=B K0 (env0 n [a,b]):=nr rfl
theorem B3(B:aS)(n:Nat)(a b c:D):au B 3 n [a,b,c]=B K0 (env0 n [a,b,c]):=nr rfl
theorem rK(ρ:ak):inB [] ρ=[]:=rfl
theorem nI(ix:gj)(ρ:ak):inB (none::ix) ρ=none::inB ix ρ:=rfl
noncomputable def pick(ρ:ak)(i:Nat):Option S:=match ρ[i]? with
 |some (some (.val d))=>some (.val d)
 |_=>none
theorem nQ(i:Nat)(ix:gj)(ρ:ak):inB (some i::ix) ρ=pick ρ i::inB ix ρ:=rfl
theorem DK(d:D)(ρ:ak):pick (some (.val d)::ρ) 0=some (.val d):=rfl
theorem Ep(x:Option S)(ρ:ak)(i:Nat):pick (x::ρ) (i+1)=pick ρ i:=rfl
theorem nN(i:Nat)(f:FX)(k:Ks)(ρ:ak):mS i f k ρ=km (f ρ) k ρ λd=>k.nx (ρ.set i (some (.own d))):=nr rfl
theorem nW(i:Nat)(F:aS)(k:Ks)(ρ:ak):Lr i F k ρ=F k (frz i ρ):=nr rfl
theorem EW(d:D)(ρ:ak):frz 0 (some (.own d)::ρ)=some (.val d)::ρ:=rfl
theorem wG(d:D)(ρ:ak):frz 0 (some (.val d)::ρ)=some (.val d)::ρ:=rfl
theorem CW(i:Nat)(x:Option S)(ρ:ak):frz (i+1) (x::ρ)=x::frz i ρ:=by
 unfold frz;rw[Qe];cases ρ[i]? with
 |none=>rfl
 |some z=>cases z with
  |none=>rfl
  |some s=>cases s<;>rfl
theorem rH(i j:Int):aD (.int i) (.int j)=some (.int (i+j)):=nr rfl
theorem rn(i j:Int):TG.uY (.int i) (.int j)=some (.int (i-j)):=nr rfl
theorem xh(i j:Int):Om (.int i) (.int j)=some (.bl (decide (i<j))):=nr rfl
theorem qS(i j:Int):pF (.int i) (.int j)=some (.bl (decide (i<j))):=nr rfl
theorem sM(x y:Str):pF (.str x) (.str y)=some (.bl (decide (x.cps.toList<y.cps.toList))):=nr rfl
theorem qU(c d:Bool):L7 (.bl c) (.bl d)=some (.bl (c==d)):=nr rfl
theorem jM(c d:Bool):Eh (.bl c) (.bl d)=some (.bl (!(c==d))):=nr rfl
theorem xf(i j:Int):wz (.int i) (.int j)=some (.bl (decide (i<=j))):=nr rfl
theorem wr(i j:Int):NZ (.int i) (.int j)=some (.bl (decide (j<i))):=nr rfl
theorem wD(i j:Int):NW (.int i) (.int j)=some (.bl (decide (j<=i))):=nr rfl
theorem rY(i:Int):HG (.int i)=some (.int (-i)):=nr rfl
theorem eQ{i j:Int}(h:0<j):fQ (.int i) (.int j)=some (.int (i%j)):=by
 show(if decide (0<j)then some (D.int (i%j))else none)=_;rw[decide_eq_true h];rfl
theorem fq{i j:Int}(h:0<j)(h':j<10^200):fD (.int i) (.int j)=some (.int (i/j)):=by
 show(if decide (0<j/\j<10^200)then some (D.int (i/j))else none)=_;rw[decide_eq_true ⟨h,h'⟩];rfl
theorem qP{i j:Int}(h:-(2^64)<i)(h':i<2^64):t6 (.int i) (.int j)=some (.int (i*j)):=by
 show(if decide ((-(2^64)<i/\i<2^64)\/(-(2^64)<j/\j<2^64))then some (D.int (i*j))else none)=_;rw[decide_eq_true (.inl ⟨h,h'⟩)];rfl
theorem EA{i j:Int}(h:-(2^64)<j)(h':j<2^64):t6 (.int i) (.int j)=some (.int (i*j)):=by
 show(if decide ((-(2^64)<i/\i<2^64)\/(-(2^64)<j/\j<2^64))then some (D.int (i*j))else none)=_;rw[decide_eq_true (.inr ⟨h,h'⟩)];rfl
theorem BW(i:Int)(n:Nat)(h:n<=1000000)(h':i.natAbs<2^64):rP (.int i) (.int n)=some (.int (i^n)):=by
 show(if decide (0<=(n:Int)/\(n:Int)<=1000000/\i.natAbs<2^64)then some (D.int (i^(n:Int).toNat))else none)=_;rw[decide_eq_true ⟨by omega,by omega,h'⟩];rfl
theorem AW:rP (.int 10) (.int 60)=some (.int (10^60)):=BW 10 60 (by decide) (by decide)
noncomputable def CN:Int:=10^60
theorem Jg:1000000<CN/\CN<10^199/\CN<10^69:=by decide +kernel
theorem Ip:rP (.int 10) (.int 60)=some (.int CN):=AW
theorem kU(i j:Int):gQ (.int i) (.int j)=some (.bl (i==j)):=nr rfl
theorem lw(i j:Str):gQ (.str i) (.str j)=some (.bl (i==j)):=nr rfl
theorem kP(i j:Bool):gQ (.bl i) (.bl j)=some (.bl (i==j)):=nr rfl
theorem kZ(i j:Int):xJ (.int i) (.int j)=some (.bl (!(i==j))):=nr rfl
theorem jk(i j:Str):xJ (.str i) (.str j)=some (.bl (!(i==j))):=nr rfl
theorem lq(i j:Bool):xJ (.bl i) (.bl j)=some (.bl (!(i==j))):=nr rfl
theorem HZ{α:Type}(xs:List α)(n:Nat):kF xs (n:Int)=xs[n]?:=by
 unfold kF EC;rw[if_pos ‹0›];by_cases h:n<xs.length
 ·rw[if_pos ‹0›];rfl
 ·rw[if_neg ‹0›,Qv ‹0›];rfl
theorem yg{α:Type}(a:α)(xs:List α):kF (a::xs) 0=some a:=HZ (a::xs) 0
theorem zb{α:Type}(a:α)(xs:List α)(n:Nat):kF (a::xs) ((n+1:Nat):Int)=kF xs (n:Int):=by
 rw[HZ,HZ,Qe]
theorem IK(xs:List D)(i:Int):aR (.tup xs) (.int i)=kF xs i:=nr rfl
theorem ow(a:D)(xs:List D):aR (.tup (a::xs)) (.int 0)=some a:=yg a xs
theorem wX(a b:D)(xs:List D):aR (.tup (a::b::xs)) (.int 1)=some b:=(zb a _ 0).trans (yg b xs)
theorem xc(a b c:D)(xs:List D):aR (.tup (a::b::c::xs)) (.int 2)=some c:=(zb a _ 1).trans ((zb b _ 0).trans (yg c xs))
theorem v6(a:D)(xs:List D):aR (.lst (a::xs)) (.int 0)=some a:=yg a xs
theorem wF(a b:D)(xs:List D):aR (.lst (a::b::xs)) (.int 1)=some b:=(zb a _ 0).trans (yg b xs)
theorem wc(a b c:D)(xs:List D):aR (.lst (a::b::c::xs)) (.int 2)=some c:=(zb a _ 1).trans ((zb b _ 0).trans (yg c xs))
theorem kK(xs:List D):ic [.lst xs]=some (.int xs.length):=nr rfl
theorem li(xs:List D):ic [.tup xs]=some (.int xs.length):=nr rfl
theorem iK(xs:List D):iL [.lst xs]=some (.tup xs):=nr rfl
theorem iy(xs:List D):iL [.tup xs]=some (.tup xs):=nr rfl
theorem qR(b:Bool):KJ (.bl b)=some b:=nr rfl
theorem jE(i:Int):vt (.int i)=some (some i):=nr rfl
theorem iB(b:Bool):truth (.bl b)=some b:=nr rfl
theorem iG(xs:List D):truth (.tup xs)=some (!xs.isEmpty):=nr rfl
theorem iw(xs:List D):truth (.lst xs)=some (!xs.isEmpty):=nr rfl
theorem sy(i j:Int):sS [.int i,.int j]=some (.int (if j>i then j else i)):=nr rfl
theorem rQ(i j:Int):tL [.int i,.int j]=some (.int (if j<i then j else i)):=nr rfl
theorem iI(xs:List D):oK (.lst xs)=some xs:=nr rfl
theorem iE(xs:List D):oK (.tup xs)=some xs:=nr rfl
theorem kA(k:R D):vp (.bl true) k=k:=nr rfl
theorem kS(k:R D):vp (.bl false) k=.ok (.bl false):=nr rfl
theorem nR(k:R D):JZ (.bl true) k=.ok (.bl true):=nr rfl
theorem nJ(k:R D):JZ (.bl false) k=k:=nr rfl
theorem kR(a b:Bool):vp (.bl a) (.ok (.bl b))=.ok (.bl (a&&b)):=by cases a<;>rfl
theorem nn(a b:Bool):JZ (.bl a) (.ok (.bl b))=.ok (.bl (a||b)):=by cases a<;>rfl
theorem ra(b:Bool):HR (.bl b)=some (.bl (!b)):=nr rfl
theorem sA(xs:List D):IG (.lst xs)=some (.lst xs.reverse):=nr rfl
theorem jT(n:Nat)(h:n<2^62):kQ [.int n]=some (fk 0 n):=by
 show(if okR (n:Int)then some (fk 0 ((n:Int).toNat))else none)=_
 have:okR (n:Int)=true:=decide_eq_true ⟨by omega,by omega⟩
 rw[this];rfl
theorem tN(xs ys:List D)(h:xs.length+ys.length<=100000):aD (.lst xs) (.lst ys)=some (.lst (xs++ys)):=by
 show(if small (xs.length+ys.length)then some (D.lst (xs++ys))else none)=_;rw[cB h];rfl
theorem nX(xs:List D)(lo hi:et):gm (.lst xs) lo hi=some (.lst (cutD xs lo hi)):=nr rfl
theorem nh(xs:List D)(lo hi:et):gm (.tup xs) lo hi=some (.tup (cutD xs lo hi)):=nr rfl
theorem gb{ix:gj}{G:aC}{g:GF}{C:aX}{Fe:FX}{ρ:ak}{ds r:List D}(h1:G ρ=.ok ds)(h2:ds.length<=100000)(h3:Am (inB ix ρ) g C Fe ds=.ok r):ja ix G g C Fe ρ=.ok (.lst r):=by
 unfold ja;rw[h1,kB,cB h2,h3];rfl
theorem nZ{α:Type}{ρ:ak}{g:GF}{C:aX}{Fe:FX}(mk:α->D)(p:α->Bool)(v:α->D):∀xs:List α,(∀a∈xs,∃ρ1,g (mk a) ρ=some ρ1/\C ρ1=.ok (p a)/\Fe ρ1=.ok (v a))->
  Am ρ g C Fe (xs.map mk)=.ok ((xs.filter p).map v)
 |[],_=>rfl
 |a::xs,h=>by
  obtain⟨ρ1,h1,h2,h3⟩:=h a OS;rw[O5,uz,h1,jR,kB,h2,pZ,kB,h3,pZ,kB,nZ mk p v xs λb hb=>h b (OT _ hb)];cases e:p a with
  |true=>rw[if_pos rfl,List.filter_cons_of_pos e];rfl
  |false=>rw[if_neg OX,List.filter_cons_of_neg (by simp[e])]
theorem fY{α:Type}{ρ:ak}{g:GF}{C:aX}{Fe:FX}(mk:α->D)(v:α->D)(xs:List α)(h:∀a∈xs,∃ρ1,g (mk a) ρ=some ρ1/\C ρ1=.ok true/\Fe ρ1=.ok (v a)):Am ρ g C Fe (xs.map mk)=.ok (xs.map v):=by
 rw[nZ mk (λ_=>true) v xs h,List.filter_eq_self.mpr λ_ _=>rfl]
theorem xg{g:GF}{B:aS}{k:Ks}(Iv:Nat->ak->Prop):∀(ds:List D)(i:Nat)(ρ:ak),(∀j d ρ (k':Ks),i<=j->ds[j-i]?=some d->Iv j ρ->∃ρ1 ρ2,g d ρ=some ρ1/\Iv (j+1) ρ2/\B k' ρ1=k'.nx ρ2)->Iv i ρ->∃ρ',Iv (i+ds.length) ρ'/\iY g B k ds ρ=k.nx ρ'
 |[],i,ρ,_,h=>⟨ρ,h,rfl⟩
 |d::ds,i,ρ,st,h=>by
  obtain⟨ρ1,ρ2,e1,h2,e2⟩:=st i d ρ ⟨iY g B k ds,k.nx,iY g B k ds,k.ex⟩ (OZ _) (by rw[Qm];rfl) h;obtain⟨ρ',h3,e3⟩:=xg (g:=g) (B:=B) (k:=k) Iv ds (i+1) ρ2 (λj d' ρ k' hj hd=>st j d' ρ k' ‹0› (by rw[show j-i=(j-(i+1))+1 by omega,Qe];exact hd)) h2;refine⟨ρ',?_,?_⟩
  ·rw[O3]
   have:i+(ds.length+1)=i+1+ds.length:=(by omega);rw[this];exact h3
  ·show((rO (g d ρ)).bind λρ1=>B ⟨iY g B k ds,k.nx,iY g B k ds,k.ex⟩ ρ1)=_;rw[e1,jR,kB,e2];exact e3
theorem rh{g:GF}{B:aS}{k:Ks}{ds:List D}{ρ:ak}{Q:R D->Prop}(Iv:Nat->ak->Prop)(st:∀i d ρ (k':Ks),ds[i]?=some d->Iv i ρ->∃ρ1 ρ2,g d ρ=some ρ1/\Iv (i+1) ρ2/\B k' ρ1=k'.nx ρ2)(h:Iv 0 ρ)(q:∀ρ',Iv ds.length ρ'->Q (k.nx ρ')):Q (iY g B k ds ρ):=by
 obtain⟨ρ',h1,e⟩:=xg (k:=k) Iv ds 0 ρ (λj d ρ k' _ hd=>st j d ρ k' hd) h;rw[e];rw[Qy]at h1;exact q ρ' h1
theorem qj{α:Type}{xs:List α}{i:Nat}{a:α}(h:xs[i]?=some a):i<xs.length:=by
 rcases Nat.lt_or_ge i xs.length with z|z
 ·exact z
 ·rw[Qv z]at h;cases h
theorem vh{α:Type}{xs:List α}{i:Nat}{a:α}(h:xs[i]?=some a):a∈xs:=Pn h
theorem kX{α β:Type}(f:α->β)(xs:List α)(i:Int):kF (xs.map f) i=(kF xs i).map f:=by
 unfold kF;rw[O6];cases EC xs.length i with
 |none=>rfl
 |some j=>simp
theorem jy{α:Type}{xs:List α}{k:Nat}(h:k<xs.length):kF xs (k:Int)=some xs[k]:=by
 unfold kF EC;rw[if_pos ‹0›,if_pos ‹0›];simp[h]
theorem DV{α:Type}{xs:List α}{i:Int}(h0:0<=i)(h:i<xs.length):kF xs i=some (xs[i.toNat]'‹0›):=by
 have e:i=((i.toNat:Nat):Int):=by omega
 conv=>lhs;rw[e]
 exact jy ‹0›
noncomputable def FV:aS:=aq (fm (fB (f2 pF (ae 1) (fL ic (aa (ae 0) af)))) (aK (f2 aR (ae 0) (ae 1))) aU) (aK (fC (.int 0)))
theorem Fy(ns:List Int)(k:Nat):au FV 2 2 [.lst (ns.map .int),.int k]=.ok (.int (ns.getD k 0)):=by
 show(if decide ((k:Int)<((ns.map D.int).length:Int))then km (rO (kF (ns.map D.int) (k:Int))) _ _ .ok else .ok (.int 0))=_;rw[O6];by_cases h:k<ns.length
 ·rw[if_pos (by simpa using h),kX,jy h,Option.map_some,Qz,PP h];rfl
 ·rw[if_neg (by simpa using h),Qz,Qv ‹0›];rfl
theorem zY(ns:List Int)(i:Int)(h:0<=i):∃c:Int,au FV 2 2 [.lst (ns.map .int),.int i]=.ok (.int c):=by
 have e:i=((i.toNat:Nat):Int):=by omega
 exact⟨ns.getD i.toNat 0,by rw[e];exact Fy ns i.toNat⟩
theorem jv(x y:Str)(h:x.length<=1000)(h':y.length<=1000):aD (.str x) (.str y)=some (.str (x++y)):=by
 show(if small (x.length+y.length)then some (D.str (x++y))else none)=_;rw[cB ‹0›];rfl
theorem mj(lo:Int)(n:Nat):fk lo n=(List.range n).map λ(k:Nat)=>D.int (lo+(k:Int)):=nr rfl
theorem fV(lo:Int)(n:Nat):(fk lo n).length=n:=by unfold fk;rw[O6,P5]
theorem kz:∀ys:ah,iP (ys.map .str)=some ys
 |[]=>rfl
 |y::ys=>by
  show(iP (ys.map .str)).bind (λzs=>some (y::zs))=_;rw[kz ys];rfl
theorem Hi{α:Type}(xs:List α)(m:Nat):cutD xs none (some (m:Int))=xs.take m:=by
 unfold cutD;rw[HT.Jt,HT.Kw,PJ,P6];rcases Nat.le_total m xs.length with h|h
 ·rw[Nat.min_eq_left h]
 ·rw[Nat.min_eq_right h,QA h,QA (OZ _)]
theorem B6{α:Type}(xs:List α)(m:Nat):cutD xs (some (m:Int)) none=xs.drop m:=by
 unfold cutD;rw[HT.Jt,HT.Kw];rcases Nat.le_total m xs.length with h|h
 ·rw[Nat.min_eq_left h];exact QA (by rw[Pr];exact OZ _)
 ·rw[Nat.min_eq_right h,Qm,PF,List.drop_eq_nil_of_le h]
local macro_rules
 |`(tactic| simp! only[$xs,*])=>`(tactic| simp only[kB,wu,fJ,wA,pZ,jR,ge_0,EX,qT,DA,sJ,nz,sN,rW,CT,Dq,EY,EH,Fj,rF,rA,wg,ly,mY,qN,ng,wo,qQ,rl,ni,su,lM,rR,lD,lC,jC,jW,sB,mX,jB,nU,kM,nD,nF,cY,kH,kL,jw,jG,lj,jP,nN,nW,EW,wG,CW,Ek,C0,sv,nB,rK,nI,nQ,DK,Ep,QB,QC,O5,Py,PD,P0,K0,env0,List.replicate,Qn,Pa,Qy,Nat.reduceAdd,Nat.reduceSub,O3,Qp,rH,rn,xh,qS,sM,qU,jM,sj,xf,wr,wD,rY,kU,lw,kP,kZ,jk,lq,ow,wX,xc,v6,wF,wc,kK,li,iK,iy,qR,jE,iB,iG,iw,sy,rQ,iI,iE,kA,kS,nR,nJ,kR,nn,ra,sA,nX,nh,gN,if_true,if_false,Qr,QD,PC,$xs,*])
inductive F2{α β:Type}(R:α->β->Prop):List α->List β->Prop where
 |nil:F2 R [] []
 |cons {a:α} {b:β} {as:List α} {bs:List β} (h:R a b) (t:F2 R as bs):F2 R (a::as) (b::bs)
end TG
namespace TD
open PySem PySem.Spec L2 TG TX
noncomputable def eM:aS:=aq (fm (fB (f2 pF (ae 1) (fL ic (aa (ae 0) af)))) (aK (f2 aR (ae 0) (ae 1))) aU) (aK (fC (.int 0)))
noncomputable def bL:aS:=aK (IU (bj (mh "str" (ae 0))) (f2 aD (fC (.str ".")) (ae 0)) (fL mU (aa (ae 0) af)))
end TD
namespace TD
open PySem PySem.Spec L2 TG
local macro_rules
 |`(tactic| simp! only[$xs,*])=>`(tactic| simp only[kB,wu,fJ,wA,pZ,jR,ge_0,EX,qT,DA,sJ,nz,sN,rW,CT,Dq,EY,EH,Fj,rF,rA,wg,ly,mY,qN,ng,wo,qQ,rl,ni,su,lM,rR,lD,lC,jC,jW,sB,mX,jB,nU,kM,nD,nF,cY,kH,kL,jw,jG,lj,jP,nN,nW,EW,wG,CW,Ek,C0,sv,nB,rK,nI,nQ,DK,Ep,QB,QC,O5,Py,PD,P0,K0,env0,List.replicate,Qn,Pa,Qy,Nat.reduceAdd,Nat.reduceSub,O3,Qp,rH,rn,xh,qS,sM,qU,jM,sj,xf,wr,wD,rY,kU,lw,kP,kZ,jk,lq,ow,wX,xc,v6,wF,wc,kK,li,iK,iy,qR,jE,iB,iG,iw,sy,rQ,iI,iE,kA,kS,nR,nJ,kR,nn,ra,sA,nX,nh,gN,if_true,if_false,Qr,QD,PC,$xs,*])
theorem KH(ns:List Int)(i:Int)(h:0<=i):∃c:Int,au eM 2 2 [.lst (ns.map .int),.int i]=.ok (.int c):=zY ns i h
local macro_rules
 |`(tactic| simp! only[$xs,*])=>`(tactic| simp only[kB,wu,fJ,wA,pZ,jR,ge_0,EX,qT,DA,sJ,nz,sN,rW,CT,Dq,EY,EH,Fj,rF,rA,wg,ly,mY,qN,ng,wo,qQ,rl,ni,su,lM,rR,lD,lC,jC,jW,sB,mX,jB,nU,kM,nD,nF,cY,kH,kL,jw,jG,lj,jP,nN,nW,EW,wG,CW,Ek,C0,sv,nB,rK,nI,nQ,DK,Ep,QB,QC,O5,Py,PD,P0,K0,env0,List.replicate,Qn,Pa,Qy,Nat.reduceAdd,Nat.reduceSub,O3,Qp,rH,rn,xh,qS,sM,qU,jM,sj,xf,wr,wD,rY,kU,lw,kP,kZ,jk,lq,ow,wX,xc,v6,wF,wc,kK,li,iK,iy,qR,jE,iB,iG,iw,sy,rQ,iI,iE,kA,kS,nR,nJ,kR,nn,ra,sA,nX,nh,gN,if_true,if_false,Qr,QD,PC,$xs,*])
end TD
namespace Tk90
open PySem PySem.Spec L2 TG TX TD
noncomputable abbrev gd:List (Str×List Str):=[("join",[]),("gather",["name"])]
noncomputable abbrev ib:List (Str×List Str):=[("rename",["name","name"]),("part",["name","number","name","name"]),("fuse",["name","name","number","name"]),("drop",["name","value"]),("sieve",["name","number","number"]),("nest",["number","name"]),("unnest",["name"])]
noncomputable def top(i:Nat):Si:=PySem.Challenge.pw_twoglass_k90_glasses_written.main.body.getD i (.Pass ⟨0,0,0,0⟩)
noncomputable abbrev gK:Si:=inClass (top 27) 0
theorem j9:aO ["self","name"] ["self","name"] (aj gK):=‹2›
noncomputable abbrev ie:Si:=inClass (top 42) 0
theorem kJ:aO ["self","name","kind"] ["self","name","kind"] (aj ie):=‹2›
noncomputable abbrev gR:Si:=inClass (top 40) 0
theorem kq:aO ["self","old","new"] ["self","old","new"] (aj gR):=‹2›
noncomputable abbrev iO:Si:=inClass (top 37) 0
theorem mr:aO ["self","name","by","quotient","rest"] ["self","name","by","quotient","rest"] (aj iO):=‹2›
noncomputable abbrev iR:Si:=inClass (top 38) 0
theorem lY:aO ["self","quotient","rest","by","name"] ["self","quotient","rest","by","name"] (aj iR):=‹2›
noncomputable abbrev iV:Si:=inClass (top 22) 0
theorem mG:aO ["self","name","value"] ["self","name","value"] (aj iV):=‹2›
noncomputable abbrev iQ:Si:=inClass (top 34) 0
theorem lO:aO ["self","many","name"] ["self","many","name"] (aj iQ):=‹2›
noncomputable abbrev gJ:Si:=inClass (top 35) 0
theorem kj:aO ["self","name"] ["self","name"] (aj gJ):=‹2›
noncomputable abbrev iN:Si:=inClass (top 31) 0
theorem lP:aO ["self","glass","step"] ["self","glass","step"] (aj iN):=‹2›
noncomputable abbrev iW:Si:=inClass (top 32) 0
theorem mq:aO ["self","one","other","pair"] ["self","one","other","pair"] (aj iW):=‹2›
noncomputable abbrev iS:Si:=inClass (top 30) 0
theorem lU:aO ["self","name"] ["self","name"] (aj iS):=‹2›
noncomputable def cF:aS:=aK (dZ af)
noncomputable def bQ:aS:=aK (dZ (aa (fC (.str "drop")) (aa (f1 (aW "name" ["Drop"]) (ae 0)) (aa (fR (au bL 1 1) (aa (f1 (aW "value" ["Drop"]) (ae 0)) af)) af))))
noncomputable def cJ:aS:=aK (dZ (aa (fC (.str "join")) af))
noncomputable def bG:aS:=aK (dZ (aa (fC (.str "gather")) (aa (f1 (aW "name" ["Gather"]) (ae 0)) af)))
noncomputable def cD:aS:=aK (dZ (aa (fC (.str "nest")) (aa (fR (au bL 1 1) (aa (f1 (aW "many" ["Nest"]) (ae 0)) af)) (aa (f1 (aW "name" ["Nest"]) (ae 0)) af))))
noncomputable def bI:aS:=aK (dZ (aa (fC (.str "unnest")) (aa (f1 (aW "name" ["Unnest"]) (ae 0)) af)))
noncomputable def cA:aS:=aK (dZ (aa (fC (.str "part")) (aa (f1 (aW "name" ["Part"]) (ae 0)) (aa (fR (au bL 1 1) (aa (f1 (aW "by" ["Part"]) (ae 0)) af)) (aa (f1 (aW "quotient" ["Part"]) (ae 0)) (aa (f1 (aW "rest" ["Part"]) (ae 0)) af))))))
noncomputable def cE:aS:=aK (dZ (aa (fC (.str "fuse")) (aa (f1 (aW "quotient" ["Fuse"]) (ae 0)) (aa (f1 (aW "rest" ["Fuse"]) (ae 0)) (aa (fR (au bL 1 1) (aa (f1 (aW "by" ["Fuse"]) (ae 0)) af)) (aa (f1 (aW "name" ["Fuse"]) (ae 0)) af))))))
noncomputable def bF:aS:=aK (dZ (aa (fC (.str "rename")) (aa (f1 (aW "old" ["Rename"]) (ae 0)) (aa (f1 (aW "new" ["Rename"]) (ae 0)) af))))
noncomputable def bD:aS:=aq (fm (fB (f2 gQ (f2 aR (f1 (aW "kind" ["Sieve"]) (ae 0)) (fC (.int 0))) (fC (.str "number")))) (aK (dZ (aa (fC (.str "sieve")) (aa (f1 (aW "name" ["Sieve"]) (ae 0)) (aa (fR (au bL 1 1) (aa (f2 aR (f1 (aW "kind" ["Sieve"]) (ae 0)) (fC (.int 1))) af)) (aa (fR (au bL 1 1) (aa (f2 aR (f1 (aW "kind" ["Sieve"]) (ae 0)) (fC (.int 2))) af)) af)))))) aU) (aK (f2 aD (dZ (aa (fC (.str "keep")) (aa (f1 (aW "name" ["Sieve"]) (ae 0)) af))) (fL iL (aa (ja [none] (fS (f2 aR (f1 (aW "kind" ["Sieve"]) (ae 0)) (fC (.int 1)))) (gN 0) eK (fR (au bL 1 1) (aa (ae 0) af))) af))))
noncomputable def fZ(bE:cy):aS:=aq (fm (bj (f1 (jZ ["Over"] ["Leaf","Both"]) (ae 0))) (aq (fm (fB (f2 gQ (gX "words" [("Step",(au cF 1 1)),("Drop",(au bQ 1 1)),("Join",(au cJ 1 1)),("Gather",(au bG 1 1)),("Nest",(au cD 1 1)),("Unnest",(au bI 1 1)),("Part",(au cA 1 1)),("Fuse",(au cE 1 1)),("Rename",(au bF 1 1)),("Sieve",(au bD 1 1))] (f1 (aW "step" ["Over"]) (ae 0)) af) (dZ af))) (eF "NoText" (aa (fC (.str "a plain step has no words")) af)) aU) (aK (f2 aD (f2 aD (fC (.str "(")) (oZ (fC (.str " ")) (aa (f2 aD (dZ (aa (fR bE (aa (f1 (aW "glass" ["Over"]) (ae 0)) af)) af)) (gX "words" [("Step",(au cF 1 1)),("Drop",(au bQ 1 1)),("Join",(au cJ 1 1)),("Gather",(au bG 1 1)),("Nest",(au cD 1 1)),("Unnest",(au bI 1 1)),("Part",(au cA 1 1)),("Fuse",(au cE 1 1)),("Rename",(au bF 1 1)),("Sieve",(au bD 1 1))] (f1 (aW "step" ["Over"]) (ae 0)) af)) af))) (fC (.str ")"))))) aU) (aq (fm (bj (f1 (jZ ["Both"] ["Leaf","Over"]) (ae 0))) (aq (bB 1 (gX "words" [("Step",(au cF 1 1)),("Drop",(au bQ 1 1)),("Join",(au cJ 1 1)),("Gather",(au bG 1 1)),("Nest",(au cD 1 1)),("Unnest",(au bI 1 1)),("Part",(au cA 1 1)),("Fuse",(au cE 1 1)),("Rename",(au bF 1 1)),("Sieve",(au bD 1 1))] (f1 (aW "pair" ["Both"]) (ae 0)) af)) (aK (f2 aD (f2 aD (fC (.str "[")) (oZ (fC (.str " ")) (aa (f2 aD (dZ (aa (f2 aR (ae 1) (fC (.int 0))) (aa (fR bE (aa (f1 (aW "one" ["Both"]) (ae 0)) af)) (aa (fR bE (aa (f1 (aW "other" ["Both"]) (ae 0)) af)) af)))) (cz (ae 1) (eI (fC (.int 1))) bK)) af))) (fC (.str "]"))))) aU) (aK (f1 (aW "name" ["Drop","Gather","Leaf","Nest","Unnest","Part","Fuse","Sieve"]) (ae 0))))
noncomputable def bE:Nat->cy
 |0=>λ_=>un
 |n+1=>au (fZ (bE n)) 1 2
theorem bT(n:Nat):bE (n+1)=au (fZ (bE n)) 1 2:=by rw[bE]
theorem pA:∀n:Nat,Ar 1 (bE n)
 |0=>λ_ h=>absurd (by rw[bE]) h
 |n+1=>by rw[bT];exact kd
noncomputable def cM:aS:=aq (fm (vB (gk (bj (mh "str" (ae 0)))) (gk (fB (ii wz wz (ae 1) (fL ic (aa (ae 0) af)) (fC (.int 8)))))) (aK (fC (.bl false))) aU) (aK (fL qZ (aa (ja [none] (gu (ae 0)) (gN 0) eK (f2 rM (ae 0) (fC (.str "abcdefghijklmnopqrstuvwxyz")))) af)))
noncomputable def g6:aS:=aK (fR (au cM 2 2) (aa (ae 0) (aa (fC (.int 1)) af)))
noncomputable def eR:aS:=aq (fm (gk (bj (fR (au g6 1 1) (aa (ae 0) af)))) (eF "NoText" (aa (fC (.str "it is no name")) af)) aU) (aK (ae 0))
noncomputable def du:aS:=aq (fm (vB (gk (bj (iC (ae 0) (aa (fC (.str ".")) af)))) (gk (bj (fR (au cM 2 2) (aa (cz (ae 0) (eI (fC (.int 1))) bK) (aa (fC (.int 0)) af)))))) (eF "NoText" (aa (fC (.str "it is no word")) af)) aU) (aK (cz (ae 0) (eI (fC (.int 1))) bK))
noncomputable def eB:aS:=aq (bB 1 (IU (bj (iC (ae 0) (aa (fC (.str "-")) af))) (cz (ae 0) (eI (fC (.int 1))) bK) (ae 0))) (aq (fm (vB (gk (fB (ii wz wz (fC (.int 1)) (fL ic (aa (ae 1) af)) (fC (.int 60))))) (gk (bj (fL qZ (aa (ja [none] (gu (ae 1)) (gN 0) eK (f2 rM (ae 0) (fC (.str "0123456789")))) af))))) (eF "NoText" (aa (fC (.str "it is no number, or one of too many figures")) af)) aU) (aK (fL qa (aa (ae 0) af))))
noncomputable def aV:aS:=aq (fm (fB (f2 gQ (ae 0) (fC (.str "name")))) (aK (fR (au eR 1 1) (aa (ae 1) af))) aU) (aq (fm (vB (fB (f2 gQ (ae 0) (fC (.str "number")))) (gk (bj (iC (ae 1) (aa (fC (.str ".")) af))))) (aK (fR (au eB 1 2) (aa (ae 1) af))) aU) (aK (fR (au du 1 1) (aa (ae 1) af))))
noncomputable def bU:aS:=aq (fm (fB (f2 xJ (fL ic (aa (ae 0) af)) (fL ic (aa (ae 1) af)))) (eF "NoText" (aa (fC (.str "there are too few words, or too many")) af)) aU) (aK (ja [none,none] (BI (aa (ae 0) (aa (ae 1) af))) (gT 2 (uG [0,1])) eK (fR (au aV 2 2) (aa (ae 0) (aa (ae 1) af)))))
noncomputable def fu:aS:=aq (fm (fB (f1 (zj gd) (ae 0))) (eF "NoText" (aa (fC (.str "there is no such pair")) af)) aU) (aq (bB 2 (fR (au bU 2 2) (aa (f1 (Gh gd) (ae 0)) (aa (ae 1) af)))) (aK (IU (fB (f2 gQ (ae 0) (fC (.str "join")))) (fC (.obj "Join" [] [])) (fNew "Gather" ["name"] (aa (f2 aR (ae 2) (fC (.int 0))) af)))))
noncomputable def eX:aS:=aq (fm (oH [0] (gk (bj (ae 0)))) (eF "NoText" (aa (fC (.str "the text ends too early")) af)) aU) (kO 0 (tI 0))
noncomputable def cQ:aS:=aq (mS 2 (gH af)) (aq (gr 3 0 (dP 0 (oy eX 1 1) af)) (aq (kn 200 (fB (f2 xJ (ae 3) (ae 1))) (aq (zn 2 tM (aa (ae 3) af)) (gr 3 0 (dP 0 (oy eX 1 1) af)))) (j4 2 0 (mJ 0 (ae 2)))))
noncomputable def gg:aS:=aq (fm (vB (gk (bj (mh "tuple" (ae 0)))) (gk (fB (ii wz wz (fC (.int 1)) (fL ic (aa (ae 0) af)) (fC (.int 12)))))) (aK (fC (.bl false))) aU) (aq (fm (gk (bj (fL qZ (aa (ja [none] (fS (ae 0)) (gN 0) eK (fR (au cM 2 2) (aa (ae 0) (aa (fC (.int 0)) af)))) af)))) (aK (fC (.bl false))) aU) (aK (fL qZ (aa (ja [none,some 0] (fW (aa (f2 uY (fL ic (aa (ae 0) af)) (fC (.int 1))) af)) (gN 0) eK (f2 pF (f2 aR (ae 1) (ae 0)) (f2 aR (ae 1) (f2 aD (ae 0) (fC (.int 1)))))) af))))
noncomputable def cI:aS:=aK (js (mh "tuple" (ae 0)) (f2 gQ (fL ic (aa (ae 0) af)) (ae 1)))
noncomputable def eV:aS:=aK (js (fR (au cI 2 2) (aa (ae 0) (aa (fC (.int 2)) af))) (js (f2 gQ (f2 aR (ae 0) (fC (.int 0))) (fC (.str "word"))) (fR (au gg 1 1) (aa (f2 aR (ae 0) (fC (.int 1))) af))))
noncomputable def fO:aS:=aK (js (mh "int" (ae 0)) (wx (mh "bool" (ae 0))))
noncomputable def bC:aS:=aq (fm (vB (gk (bj (fR (au cI 2 2) (aa (ae 0) (aa (fC (.int 3)) af))))) (fB (f2 xJ (f2 aR (ae 0) (fC (.int 0))) (fC (.str "number"))))) (aK (fC (.bl false))) aU) (aK (js (fR (au fO 1 1) (aa (f2 aR (ae 0) (fC (.int 1))) af)) (js (fR (au fO 1 1) (aa (f2 aR (ae 0) (fC (.int 2))) af)) (f2 wz (f2 aR (ae 0) (fC (.int 1))) (f2 aR (ae 0) (fC (.int 2)))))))
noncomputable def cK:aS:=aq (fm (Ck (gk (bj (fR (au bC 1 1) (aa (ae 1) af)))) (gk (bj (fR (au eV 1 1) (aa (ae 1) af))))) (eF "NoText" (aa (fC (.str "the low is more than the high, or the words are none, too many, or don't rise")) af)) aU) (aK (fNew "Sieve" ["name","kind"] (aa (ae 0) (aa (ae 1) af))))
noncomputable def bu:aS:=aq (fm (fB (f2 gQ (ae 0) (fC (.str "rename")))) (aK (fNew "Rename" ["old","new"] (aa (f2 aR (ae 1) (fC (.int 0))) (aa (f2 aR (ae 1) (fC (.int 1))) af)))) aU) (aq (fm (fB (f2 gQ (ae 0) (fC (.str "part")))) (aK (fNew "Part" ["name","by","quotient","rest"] (aa (f2 aR (ae 1) (fC (.int 0))) (aa (f2 aR (ae 1) (fC (.int 1))) (aa (f2 aR (ae 1) (fC (.int 2))) (aa (f2 aR (ae 1) (fC (.int 3))) af)))))) aU) (aq (fm (fB (f2 gQ (ae 0) (fC (.str "fuse")))) (aK (fNew "Fuse" ["quotient","rest","by","name"] (aa (f2 aR (ae 1) (fC (.int 0))) (aa (f2 aR (ae 1) (fC (.int 1))) (aa (f2 aR (ae 1) (fC (.int 2))) (aa (f2 aR (ae 1) (fC (.int 3))) af)))))) aU) (aq (fm (fB (f2 gQ (ae 0) (fC (.str "drop")))) (aK (fNew "Drop" ["name","value"] (aa (f2 aR (ae 1) (fC (.int 0))) (aa (f2 aR (ae 1) (fC (.int 1))) af)))) aU) (aq (fm (fB (f2 gQ (ae 0) (fC (.str "sieve")))) (aK (fR (au cK 2 2) (aa (f2 aR (ae 1) (fC (.int 0))) (aa (dZ (aa (fC (.str "number")) (aa (f2 aR (ae 1) (fC (.int 1))) (aa (f2 aR (ae 1) (fC (.int 2))) af)))) af)))) aU) (aq (fm (fB (f2 gQ (ae 0) (fC (.str "nest")))) (aK (fNew "Nest" ["many","name"] (aa (f2 aR (ae 1) (fC (.int 0))) (aa (f2 aR (ae 1) (fC (.int 1))) af)))) aU) (aK (fNew "Unnest" ["name"] (aa (f2 aR (ae 1) (fC (.int 0))) af))))))))
noncomputable def gi:aS:=aq (fm (gk (bj (ae 0))) (eF "NoText" (aa (fC (.str "there is no field to keep by")) af)) aU) (aK (fR (au cK 2 2) (aa (fR (au eR 1 1) (aa (f2 aR (ae 0) (fC (.int 0))) af)) (aa (dZ (aa (fC (.str "word")) (aa (fL iL (aa (ja [none] (fS (cz (ae 0) (eI (fC (.int 1))) bK)) (gN 0) eK (fR (au du 1 1) (aa (ae 0) af))) af)) af))) af))))
noncomputable def eN:aS:=aq (fm (gk (bj (ae 0))) (eF "NoText" (aa (fC (.str "there is no step")) af)) aU) (aq (fm (fB (f2 gQ (f2 aR (ae 0) (fC (.int 0))) (fC (.str "keep")))) (aK (fR (au gi 1 1) (aa (cz (ae 0) (eI (fC (.int 1))) bK) af))) aU) (aq (fm (fB (f1 (zj ib) (f2 aR (ae 0) (fC (.int 0))))) (eF "NoText" (aa (fC (.str "there is no such step")) af)) aU) (aK (fR (au bu 2 2) (aa (f2 aR (ae 0) (fC (.int 0))) (aa (fR (au bU 2 2) (aa (f1 (Gh ib) (f2 aR (ae 0) (fC (.int 0)))) (aa (cz (ae 0) (eI (fC (.int 1))) bK) af))) af))))))
noncomputable def bS(aA:cy):aS:=aq (gr 1 0 (dP 0 (oy eX 1 1) af)) (aq (fm (fB (f2 gQ (ae 1) (fC (.str "(")))) (aq (gr 2 0 (dP 0 aA af)) (kO 0 (lK "Over" ["glass","step"] (iA (ae 2) (iu (II (au eN 1 1) (iu (dP 0 (oy cQ 2 4) (aa (fC (.str ")")) af))))))))) aU) (aq (fm (fB (f2 gQ (ae 1) (fC (.str "[")))) (aq (gr 3 0 (dP 0 (oy eX 1 1) af)) (aq (gr 4 0 (dP 0 aA af)) (aq (gr 5 0 (dP 0 aA af)) (kO 0 (lK "Both" ["one","other","pair"] (iA (ae 4) (iA (ae 5) (iu (II (au fu 2 3) (iA (ae 3) (iu (dP 0 (oy cQ 2 4) (aa (fC (.str "]")) af))))))))))))) aU) (mJ 0 (fNew "Leaf" ["name"] (aa (fR (au eR 1 1) (aa (ae 1) af)) af)))))
noncomputable def aA:Nat->cy
 |0=>λ_=>un
 |n+1=>oy (bS (aA n)) 1 6
theorem cN(n:Nat):aA (n+1)=oy (bS (aA n)) 1 6:=by rw[aA]
theorem iU:∀n:Nat,Ar 1 (aA n)
 |0=>λ_ h=>absurd (by rw[aA]) h
 |n+1=>by rw[cN];exact rC
noncomputable def fN:aS:=aq (Cr 0 1 "()[]") (aK (f1 nA (ae 0)))
noncomputable def oC:aS:=aq (bB 1 (lX (aA 16) (f1 qu (fR (au fN 1 2) (aa (ae 0) af))))) (aq (fm (fB (f2 xJ (fR (bE 16) (aa (ae 1) af)) (ae 0))) (eF "NoText" (aa (fC (.str "it is not written so")) af)) aU) (aK (ae 1)))
noncomputable def cv:aS:=aq (bB 1 (fC (.bl false))) (aq (Bl ["NoText"] 2 (wN (fR (bE 16) (aa (ae 0) af))) (aq (bB 1 (js (f1 (gO [("NoText",true)]) (ae 2)) (f1 (gO [("NoText",true)]) (ae 2)))) (fm (vB (bj (f1 (gO [("NoText",false)]) (ae 2))) (vB (bj (f1 (gO [("NoText",false)]) (ae 2))) (bj (f1 (gO [("NoText",false)]) (ae 2))))) (bB 1 (fC (.bl false))) aU))) (aK (ae 1)))
noncomputable def dA:aS:=aq (bB 1 (cz (fC (.str "abcdefgh")) (eI (f2 fQ (ae 0) (fC (.int 3)))) bK)) (aq (fm (fB (f2 gQ (f2 fQ (f2 fD (ae 0) (fC (.int 3))) (fC (.int 2))) (fC (.int 0)))) (aK (fL iL (aa (ja [none,some 1,some 0] (fW (aa (f2 aD (fC (.int 1)) (f2 fQ (f2 fD (ae 0) (fC (.int 12))) (fC (.int 5)))) af)) (gN 0) eK (cz (ae 1) bK (eI (f2 aD (ae 0) (f2 fQ (f2 fD (ae 2) (fC (.int 6))) (fC (.int 2))))))) af))) aU) (aK (fL iL (aa (ja [none] (gu (cz (cz (fC (.str "abcdefghijklmno")) (eI (f2 fQ (f2 fD (ae 0) (fC (.int 6))) (fC (.int 4)))) bK) bK (eI (f2 aD (fC (.int 1)) (f2 fQ (f2 fD (ae 0) (fC (.int 24))) (fC (.int 12))))))) (gN 0) eK (f2 aD (fC (.str "x")) (ae 0))) af))))
noncomputable def aZ:aS:=aq (bB 3 (f2 aR (gH (aa (fC (.int 1234567891)) (aa (fC (.int 1876543217)) (aa (fC (.int 987654323)) (aa (fC (.int 1597463007)) (aa (fC (.int 1357924681)) (aa (fC (.int 1112131419)) af))))))) (ae 1))) (aq (bB 4 (f2 aR (gH (aa (fC (.int 2147483647)) (aa (fC (.int 2147483629)) (aa (fC (.int 2147483587)) (aa (fC (.int 2147483579)) (aa (fC (.int 2147483563)) (aa (fC (.int 2147483549)) af))))))) (ae 1))) (aK (f2 fQ (f2 fQ (f2 t6 (f2 aD (f2 fQ (ae 0) (fC (.int 1000000007))) (fC (.int 11))) (ae 3)) (ae 4)) (ae 2))))
noncomputable def cO:aS:=aq (fm (fB (f2 gQ (f2 fQ (ae 0) (fC (.int 2))) (fC (.int 0)))) (aK (f2 uY (f2 fQ (f2 fD (ae 0) (fC (.int 2))) (fC (.int 5))) (fC (.int 2)))) aU) (aK (f2 aD (f2 uY (f2 fQ (f2 fD (ae 0) (fC (.int 2))) (f2 uY (f2 t6 (fC (.int 2)) (f2 rP (fC (.int 10)) (fC (.int 60)))) (fC (.int 1)))) (f2 rP (fC (.int 10)) (fC (.int 60)))) (fC (.int 1))))
noncomputable def bY:aS:=aq (bB 1 (fC (.str "abcdefghijklmnopqrstuvwxyz"))) (aq (fm (fB (f2 gQ (f2 fQ (ae 0) (fC (.int 5))) (fC (.int 1)))) (aK (f2 aR (gH (aa (fC (.str "join")) (aa (fC (.str "gather")) (aa (fC (.str "rename")) (aa (fC (.str "drop")) (aa (fC (.str "keep")) (aa (fC (.str "in")) (aa (fC (.str "nest")) (aa (fC (.str "unnest")) (aa (fC (.str "sieve")) af)))))))))) (f2 fQ (f2 fD (ae 0) (fC (.int 5))) (fC (.int 9))))) aU) (aq (bB 2 (f2 fQ (f2 fD (ae 0) (fC (.int 5))) (f2 t6 (fC (.int 8)) (f2 rP (fC (.int 26)) (fC (.int 8)))))) (aq (bB 3 (fC (.str ""))) (aq (bB 4 (f2 fD (ae 2) (fC (.int 8)))) (o3 [0] (aq (yH (fW (aa (f2 aD (fC (.int 1)) (f2 fQ (ae 2) (fC (.int 8)))) af)) (gN 5) (aq (bB 3 (f2 aD (ae 3) (f2 aR (ae 1) (f2 fQ (ae 4) (fC (.int 26)))))) (aq (bB 4 (f2 fD (ae 4) (fC (.int 26)))) (o3 [5] aU)))) (aK (ae 3))))))))
noncomputable def fv:aS:=aq (bB 1 (fR (au bY 1 6) (aa (f2 fD (ae 0) (fC (.int 9))) af))) (aq (bB 2 (fR (au bY 1 6) (aa (f2 aD (f2 fD (ae 0) (fC (.int 11))) (fC (.int 3))) af))) (aq (bB 3 (fR (au cO 1 1) (aa (f2 fD (ae 0) (fC (.int 13))) af))) (aq (bB 4 (fR (au cO 1 1) (aa (f2 aD (f2 fD (ae 0) (fC (.int 7))) (fC (.int 1))) af))) (aq (bB 5 (fR (au aZ 3 5) (aa (ae 0) (aa (fC (.int 0)) (aa (fC (.int 9)) af))))) (aq (fm (fB (f2 gQ (ae 5) (fC (.int 0)))) (aK (dZ (aa (fNew "Rename" ["old","new"] (aa (ae 1) (aa (ae 2) af))) (aa (gH (aa (fC (.str "rename")) (aa (ae 1) (aa (ae 2) af)))) af)))) aU) (aq (fm (fB (f2 gQ (ae 5) (fC (.int 1)))) (aK (dZ (aa (fNew "Drop" ["name","value"] (aa (ae 1) (aa (ae 3) af))) (aa (gH (aa (fC (.str "drop")) (aa (ae 1) (aa (fL mU (aa (ae 3) af)) af)))) af)))) aU) (aq (fm (fB (f2 gQ (ae 5) (fC (.int 2)))) (aq (bB 6 (f2 aR (fR (au dA 1 2) (aa (f2 fD (ae 0) (fC (.int 9))) af)) (Eu (fC (.int 1))))) (aK (dZ (aa (fNew "Drop" ["name","value"] (aa (ae 1) (aa (ae 6) af))) (aa (gH (aa (fC (.str "drop")) (aa (ae 1) (aa (f2 aD (fC (.str ".")) (ae 6)) af)))) af))))) aU) (aq (fm (fB (f2 gQ (ae 5) (fC (.int 3)))) (aq (bB 7 (fL tL (aa (ae 3) (aa (ae 4) af)))) (aq (bB 8 (fL sS (aa (ae 3) (aa (ae 4) af)))) (aK (dZ (aa (fNew "Sieve" ["name","kind"] (aa (ae 1) (aa (dZ (aa (fC (.str "number")) (aa (ae 7) (aa (ae 8) af)))) af))) (aa (gH (aa (fC (.str "sieve")) (aa (ae 1) (aa (fL mU (aa (ae 7) af)) (aa (fL mU (aa (ae 8) af)) af))))) af)))))) aU) (aq (fm (fB (f2 gQ (ae 5) (fC (.int 4)))) (aq (bB 9 (fR (au dA 1 2) (aa (f2 fD (ae 0) (fC (.int 9))) af))) (aK (dZ (aa (fNew "Sieve" ["name","kind"] (aa (ae 1) (aa (dZ (aa (fC (.str "word")) (aa (ae 9) af))) af))) (aa (f2 aD (gH (aa (fC (.str "keep")) (aa (ae 1) af))) (ja [none] (fS (ae 9)) (gN 0) eK (f2 aD (fC (.str ".")) (ae 0)))) af))))) aU) (aq (fm (fB (f2 gQ (ae 5) (fC (.int 5)))) (aK (dZ (aa (fNew "Part" ["name","by","quotient","rest"] (aa (ae 1) (aa (ae 3) (aa (ae 2) (aa (fC (.str "r")) af))))) (aa (gH (aa (fC (.str "part")) (aa (ae 1) (aa (fL mU (aa (ae 3) af)) (aa (ae 2) (aa (fC (.str "r")) af)))))) af)))) aU) (aq (fm (fB (f2 gQ (ae 5) (fC (.int 6)))) (aK (dZ (aa (fNew "Fuse" ["quotient","rest","by","name"] (aa (ae 1) (aa (ae 2) (aa (ae 3) (aa (fC (.str "n")) af))))) (aa (gH (aa (fC (.str "fuse")) (aa (ae 1) (aa (ae 2) (aa (fL mU (aa (ae 3) af)) (aa (fC (.str "n")) af)))))) af)))) aU) (aq (fm (fB (f2 gQ (ae 5) (fC (.int 7)))) (aK (dZ (aa (fNew "Nest" ["many","name"] (aa (ae 3) (aa (ae 1) af))) (aa (gH (aa (fC (.str "nest")) (aa (fL mU (aa (ae 3) af)) (aa (ae 1) af)))) af)))) aU) (aK (dZ (aa (fNew "Unnest" ["name"] (aa (ae 1) af)) (aa (gH (aa (fC (.str "unnest")) (aa (ae 1) af))) af))))))))))))))))
noncomputable def eP:aS:=aq (bB 1 (fR (au bY 1 6) (aa (f2 aD (f2 fD (ae 0) (fC (.int 17))) (fC (.int 1))) af))) (aq (bB 2 (fNew "Leaf" ["name"] (aa (ae 1) af))) (aq (bB 3 (fR (au aZ 3 5) (aa (ae 0) (aa (fC (.int 2)) (aa (fC (.int 3)) af))))) (aq (yH (fW (aa (ae 3) af)) (gN 4) (aq (rT (fR (au fv 1 10) (aa (f2 aD (f2 fD (ae 0) (f2 aD (ae 4) (fC (.int 5)))) (f2 t6 (fC (.int 3)) (ae 4))) af)) (gT 2 (uG [5,6]))) (aq (bB 2 (fNew "Over" ["glass","step"] (aa (ae 2) (aa (ae 5) af)))) (aq (bB 1 (f2 aD (f2 aD (fC (.str "(")) (qe (fC (.str " ")) (aa (f2 aD (gH (aa (ae 1) af)) (ae 6)) af))) (fC (.str ")")))) (o3 [4,5,6] aU))))) (aq (fm (fB (f2 gQ (fR (au aZ 3 5) (aa (ae 0) (aa (fC (.int 3)) (aa (fC (.int 3)) af)))) (fC (.int 0)))) (aq (bB 7 (fR (au bY 1 6) (aa (f2 aD (f2 fD (ae 0) (fC (.int 19))) (fC (.int 2))) af))) (aq (fm (fB (f2 gQ (f2 fQ (ae 0) (fC (.int 2))) (fC (.int 0)))) (aK (dZ (aa (fNew "Both" ["one","other","pair"] (aa (ae 2) (aa (fNew "Leaf" ["name"] (aa (ae 7) af)) (aa (fC (.obj "Join" [] [])) af)))) (aa (f2 aD (f2 aD (f2 aD (f2 aD (fC (.str "[join ")) (ae 1)) (fC (.str " "))) (ae 7)) (fC (.str "]"))) (aa (f2 aD (ae 3) (fC (.int 1))) af))))) aU) (aK (dZ (aa (fNew "Both" ["one","other","pair"] (aa (fNew "Leaf" ["name"] (aa (ae 7) af)) (aa (ae 2) (aa (fNew "Gather" ["name"] (aa (fC (.str "in")) af)) af)))) (aa (f2 aD (f2 aD (f2 aD (f2 aD (fC (.str "[gather ")) (ae 7)) (fC (.str " "))) (ae 1)) (fC (.str " in]"))) (aa (f2 aD (ae 3) (fC (.int 1))) af))))))) aU) (aK (dZ (aa (ae 2) (aa (ae 1) (aa (ae 3) af)))))))))
noncomputable def eU:aS:=aq (rT (fR (au eP 1 8) (aa (ae 2) af)) (gT 3 (uG [3,4,5]))) (aq (bB 6 (fR (au aZ 3 5) (aa (ae 2) (aa (fC (.int 1)) (aa (fC (.int 16)) af))))) (aq (fm (fB (f2 gQ (ae 6) (fC (.int 0)))) (aK (dZ (aa (fNew "Both" ["one","other","pair"] (aa (ae 0) (aa (ae 3) (aa (fC (.obj "Join" [] [])) af)))) (aa (f2 aD (f2 aD (f2 aD (f2 aD (fC (.str "[join ")) (ae 1)) (fC (.str " "))) (ae 4)) (fC (.str "]"))) (aa (f2 aD (ae 5) (fC (.int 1))) af))))) aU) (aq (fm (fB (f2 gQ (ae 6) (fC (.int 1)))) (aK (dZ (aa (fNew "Both" ["one","other","pair"] (aa (ae 3) (aa (ae 0) (aa (fC (.obj "Join" [] [])) af)))) (aa (f2 aD (f2 aD (f2 aD (f2 aD (fC (.str "[join ")) (ae 4)) (fC (.str " "))) (ae 1)) (fC (.str "]"))) (aa (f2 aD (ae 5) (fC (.int 1))) af))))) aU) (aq (fm (fB (f2 gQ (ae 6) (fC (.int 2)))) (aK (dZ (aa (fNew "Both" ["one","other","pair"] (aa (ae 0) (aa (ae 3) (aa (fNew "Gather" ["name"] (aa (fC (.str "inner")) af)) af)))) (aa (f2 aD (f2 aD (f2 aD (f2 aD (fC (.str "[gather ")) (ae 1)) (fC (.str " "))) (ae 4)) (fC (.str " inner]"))) (aa (f2 aD (ae 5) (fC (.int 1))) af))))) aU) (aq (fm (fB (f2 gQ (ae 6) (fC (.int 3)))) (aK (dZ (aa (fNew "Both" ["one","other","pair"] (aa (ae 3) (aa (ae 0) (aa (fNew "Gather" ["name"] (aa (fC (.str "side")) af)) af)))) (aa (f2 aD (f2 aD (f2 aD (f2 aD (fC (.str "[gather ")) (ae 4)) (fC (.str " "))) (ae 1)) (fC (.str " side]"))) (aa (f2 aD (ae 5) (fC (.int 1))) af))))) aU) (aq (rT (fR (au fv 1 10) (aa (ae 2) af)) (gT 2 (uG [7,8]))) (aK (dZ (aa (fNew "Over" ["glass","step"] (aa (ae 0) (aa (ae 7) af))) (aa (f2 aD (f2 aD (fC (.str "(")) (qe (fC (.str " ")) (aa (f2 aD (gH (aa (ae 1) af)) (ae 8)) af))) (fC (.str ")"))) (aa (fC (.int 1)) af)))))))))))
noncomputable def mL:aS:=aq (bB 1 (fR (au bY 1 6) (aa (fR (au eM 2 2) (aa (ae 0) (aa (fC (.int 0)) af))) af))) (aq (bB 2 (fNew "Leaf" ["name"] (aa (ae 1) af))) (aq (bB 3 (fNew "Over" ["glass","step"] (aa (ae 2) (aa (fC (.obj "Step" [] [])) af)))) (aq (bB 4 (fC (.int 0))) (aq (yH (fS (cz (ae 0) (eI (fC (.int 1))) (eI (fC (.int 13))))) (gN 5) (aq (fm (gk (bj (fR (au cv 1 3) (aa (ae 3) af)))) (aK (fC (.bl false))) aU) (aq (rT (fR (au eU 3 9) (aa (ae 2) (aa (ae 1) (aa (ae 5) af)))) (gT 3 (uG [6,7,8]))) (aq (fm (fB (f2 pF (f2 aD (ae 4) (ae 8)) (fC (.int 12)))) (aq (bB 3 (f2 aR (fR (au eU 3 9) (aa (ae 3) (aa (ae 1) (aa (ae 5) af)))) (fC (.int 0)))) (aq (bB 2 (ae 6)) (aq (bB 1 (ae 7)) (bB 4 (f2 aD (ae 4) (ae 8)))))) aU) (o3 [5,6,7,8] aU))))) (aq (bB 9 (fR (bE 16) (aa (ae 2) af))) (aq (fm (vB (gk (bj (mh "str" (ae 9)))) (vB (fB (f2 xJ (ae 9) (ae 1))) (vB (gk (bj (fR (au cv 1 3) (aa (ae 3) af)))) (gk (bj (fR (au cv 1 3) (aa (fNew "Over" ["glass","step"] (aa (ae 2) (aa (fC (.obj "Step" [] [])) af))) af))))))) (aK (fC (.bl false))) aU) (aK (js (f2 gQ (fR (bE 16) (aa (fR (au oC 1 2) (aa (ae 1) af)) af)) (ae 1)) (f2 gQ (fR (bE 16) (aa (ae 2) af)) (ae 1))))))))))
set_option hygiene false
local macro_rules|`(tactic|ktr_call $p $e)=>`(tactic|((with_reducible show $p);refine $e))
local macro_rules|`(tactic|walk_at "A")=>`(tactic|first|ktr_call (ua _ _ (aq _ _)) (xU ?_ ?_)|ktr_call (ua _ _ (o3 _ _)) (x9 _ ?_)|ktr_call (ua _ _ aU) B1|refine tH ?_)
local macro_rules|`(tactic|walk_at "B")=>`(tactic|first|ktr_call (XS _ _ (aK _)) (wM ?_)|ktr_call (XS _ _ (fm _ _ _)) (Ib ?_ ?_ ?_)|ktr_call (XS _ _ aU) BX|ktr_call (XS _ _ aU) Fw|ktr_call (XS _ _ (bB _ (ja _ _ _ _ _))) (NN (by first|assumption|exact jf rfl) rfl (by first|exact jX rfl|exact iM rfl) ?_ ?_)|ktr_call (XS _ _ (bB _ _)) (xs _ (by first|assumption|exact jf rfl) ?_)|ktr_call (XS _ _ (eF _ _)) (za rfl (by walk_at "a") rfl ?_)|ktr_call (XS _ _ (rT _ _)) (Fc ?_ ?_)|ktr_call (XS _ _ (yH _ _ _)) (Fl hp rfl ?_ ?_ ?_)|ktr_call (XS _ _ (wN _)) (Af ?_)|ktr_call (XS _ _ (kn _ _ _)) (xF _ hp ?_ ?_)|ktr_call (XS _ _ (mS _ (ja _ _ _ _ _))) (Oa (by first|assumption|exact jf rfl) rfl (by first|exact jX rfl|exact iM rfl) ?_ ?_)|ktr_call (XS _ _ (mS _ _)) (Do (by first|assumption|exact jf rfl) rfl (by first|exact Or.inl rfl|exact Or.inr rfl) ?_)|ktr_call (XS _ _ (zn _ tM _)) (Il Sb Sd lV qf (xv _) ?_)|ktr_call (XS _ _ (Bl _ _ _ _)) (Ed rfl rfl rfl (fun _=>rfl) (by walk_at "a") rfl (by first|assumption|exact jf rfl) rfl rfl (fun E' pn hp=>?_) (fun A' pn hA hU=>?_)))
local macro_rules|`(tactic|walk_at "C")=>`(tactic|first|ktr_call (XT _ _ (fB (f2 gQ _ _))) (kY (z7 hr.units) eE ?_ ?_ (jA _))|ktr_call (XT _ _ (bj _)) (x6 ?_)|ktr_call (XT _ _ (gk _)) (Dw ?_)|ktr_call (XT _ _ (vB _ _)) (Nb ?_)|ktr_call (XT _ _ (fB (f2 xJ _ _))) (kY (AH hr.units) eE ?_ ?_ (jA _))|ktr_call (XT _ _ (fB (ii wz wz _ _ _))) (yF qH gz qH gz ?_ ?_ ?_)|ktr_call (XT _ _ (fB (f1 (zj _) _))) (IJ (by walk_at "a") rfl ?_)|ktr_call (XT _ _ (fB (f2 pF _ _))) (kY (BH hr.units) eE ?_ ?_ (jA _))|ktr_call (XT _ _ (Ck _ _)) (Nb ?_)|ktr_call (XT _ _ (oH _ _)) (Cy _ ?_)|ktr_call (XT _ _ (fB (f2 wz _ _))) (kY qH gz ?_ ?_ (jA _))|ktr_call (XT _ _ (fB (f2 rM _ _))) (kY Bs eE ?_ ?_ rfl))
local macro_rules|`(tactic|walk_at "D")=>`(tactic|first|ktr_call (XW _ _ (Ck _ _)) (EI ?_ ?_)|ktr_call (XW _ _ (vB _ _)) (HI ?_ ?_)|refine Ay ?_|refine E6 ?_)
local macro_rules|`(tactic|walk_at "F")=>`(tactic|first|ktr_call (XI _ _ _ (fS _)) (Ez ?_)|ktr_call (XI _ _ _ (fW _)) (vN rfl (by walk_at "a") ?_)|ktr_call (XI _ _ _ (gu _)) (Fp ?_)|ktr_call (XI _ _ _ (BI _)) (Em rfl (by walk_at "a") ?_))
local macro_rules|`(tactic|walk_at "L")=>`(tactic|first|ktr_call (XN _ _ (gH _)) (C9 ?_)|ktr_call (XN _ _ (ja _ _ _ _ _)) (NX rfl (by first|exact jX rfl|exact iM rfl) ?_ ?_)|ktr_call (XN _ _ (fR _ _)) (vK (by walk_at "a") (by first|exact kd|walk_at "a") hr ‹0› ?_)|ktr_call (XN _ _ (f1 qu _)) (zQ rfl rfl (by walk_at "a") rfl (by walk_at "a") ?_))
local macro_rules|`(tactic|walk_at "M")=>`(tactic|first|with_reducible refine Ea ?_|ktr_call (XE _ _ (ae _)) (xw _)|ktr_call (XE _ _ (fC (.int _))) Fm|ktr_call (XE _ _ (fC (.int _))) (BG rfl (by walk_at "a"))|ktr_call (XE _ _ (fC (.str _))) Dp|ktr_call (XE _ _ (fC (.str _))) (Bm rfl (by walk_at "a"))|ktr_call (XE _ _ (f2 aD _ _)) (jN EZ eE ?_ ?_)|ktr_call (XE _ _ (fR _ _)) (vM (by walk_at "a") (by first|exact kd|walk_at "a") hr ‹0› ?_)|ktr_call (XE _ _ (f2 aR _ _)) (xi ?_ ?_)|ktr_call (XE _ _ (dZ _)) (DE ?_)|ktr_call (XE _ _ (f2 gQ _ _)) (kE (z7 hr.units) eE ?_ ?_ (jA _))|ktr_call (XE _ _ (fNew _ _ _)) (Dl (by walk_at "a") hr ‹0› rfl ?_)|ktr_call (XE _ _ (f1 (aW _ _) _)) (C2 (by walk_at "a") ?_)|ktr_call (XE _ _ (f2 fD _ _)) (jN Cd HJ ?_ ?_)|ktr_call (XE _ _ (f2 fQ _ _)) (jN HP GL ?_ ?_)|ktr_call (XE _ _ (gH _)) (E8 ?_)|ktr_call (XE _ _ (cz _ _ _)) (yB ?_ ?_ ?_)|ktr_call (XE _ _ (ja _ _ _ _ _)) (xl rfl (by first|exact jX rfl|exact iM rfl) ?_ ?_)|ktr_call (XE _ _ (fC (.bl _))) GR|ktr_call (XE _ _ (js _ _)) (DY ?_ ?_)|ktr_call (XE _ _ (fL ic _)) (jS yc rfl (by walk_at "a") PySem.boot_len ?_)|ktr_call (XE _ _ (fC (.obj _ _ _))) (CG (by walk_at "a") rfl)|ktr_call (XE _ _ (mh "int" _)) (nV AX rfl (by walk_at "a") rfl (by walk_at "a") R1 ?_)|ktr_call (XE _ _ (mh "bool" _)) (nV yC rfl (by walk_at "a") rfl (by walk_at "a") PyProof.Rows.boot_bool ?_)|ktr_call (XE _ _ (mh "str" _)) (nV zN rfl (by walk_at "a") rfl (by walk_at "a") R3 ?_)|ktr_call (XE _ _ (mh "tuple" _)) (nV vH rfl (by walk_at "a") rfl (by walk_at "a") R4 ?_)|ktr_call (XE _ _ (fL mU _)) (ke yP rfl (by walk_at "a") R3 ?_)|ktr_call (XE _ _ (f2 xJ _ _)) (kE (AH hr.units) eE ?_ ?_ (jA _))|ktr_call (XE _ _ (f1 (gO _) _)) (zD (by walk_at "a") rfl (by walk_at "a") rfl ?_)|ktr_call (XE _ _ (f1 (gO _) _)) (xL (by walk_at "a") rfl (by walk_at "a") rfl (by walk_at "a") PyProof.Rows.Boot.«ValueError» ?_)|ktr_call (XE _ _ (f2 uY _ _)) (jN GZ HV ?_ ?_)|ktr_call (XE _ _ (f2 t6 _ _)) (jN HS HY ?_ ?_)|ktr_call (XE _ _ (fL iL _)) (ke t7 rfl (by walk_at "a") R4 ?_)|ktr_call (XE _ _ (fL qZ _)) (jS (x5 rfl) rfl (by walk_at "a") PyProof.Rows.boot_all ?_)|ktr_call (XE _ _ (f2 rP _ _)) (jN Ha HA ?_ ?_)|ktr_call (XE _ _ (ii wz wz _ _ _)) (yR qH gz qH gz ?_ ?_ ?_)|ktr_call (XE _ _ (gX _ _ _ (aa _ _))) (By (by walk_at "a") hr ‹0› ?_ ?_)|ktr_call (XE _ _ (gX _ _ _ af)) (xZ (by walk_at "a") hr ‹0› ?_)|ktr_call (XE _ _ (iC _ _)) (uN ?_ ?_)|ktr_call (XE _ _ (f2 pF _ _)) (kE (BH hr.units) eE ?_ ?_ (jA _))|ktr_call (XE _ _ (f2 rM _ _)) (kE Bs eE ?_ ?_ rfl)|ktr_call (XE _ _ (IU _ _ _)) (Ir ?_ ?_ ?_)|ktr_call (XE _ _ (f1 (jZ _ _) _)) (Ds (by walk_at "a") rfl (by walk_at "a") rfl ?_)|ktr_call (XE _ _ (qe _ _)) (B4 ?_ ?_)|ktr_call (XE _ _ (f1 (Gh _) _)) (AG (by walk_at "a") rfl ?_ (fun _ _=>rfl))|ktr_call (XE _ _ (f1 (zj _) _)) (IC (by walk_at "a") rfl ?_)|ktr_call (XE _ _ (oZ _ _)) (xA ?_ ?_)|ktr_call (XE _ _ (f2 wz _ _)) (kE qH gz ?_ ?_ (jA _))|ktr_call (XE _ _ (wx _)) (D5 ?_)|ktr_call (XE _ _ (Eu _)) (CP ?_)|ktr_call (XE _ _ (fL sS _)) (jS (vG rfl) rfl (by walk_at "a") PyProof.Rows.boot_max ?_)|ktr_call (XE _ _ (fL tL _)) (jS (vT rfl) rfl (by walk_at "a") PyProof.Rows.boot_min ?_)|ktr_call (XE _ _ (lX _ _)) (vF (by walk_at "a") (by first|exact rC|exact kd|walk_at "a") hr ‹0› ?_)|ktr_call (XE _ _ (fL qa _)) (ke zf rfl (by walk_at "a") R1 ?_)|ktr_call (XE _ _ (f1 nA _)) (ot ?_))
local macro_rules|`(tactic|walk_at "N")=>`(tactic|first|ktr_call (uH _ _ _ (aq _ _)) (xW ?_ ?_)|ktr_call (uH _ _ _ (j4 _ _ _)) (Cm _ (by decide) ?_)|ktr_call (uH _ _ _ aU) Av|ktr_call (uH _ _ _ ql) zg|refine Bf ?_)
local macro_rules|`(tactic|walk_at "O")=>`(tactic|first|ktr_call (XM _ _ _ (fm _ _ _)) (G2 ?_ ?_ ?_)|ktr_call (XM _ _ _ (mJ _ _)) (Fx ?_)|ktr_call (XM _ _ _ (kO _ _)) (Cj ?_)|ktr_call (XM _ _ _ (gr _ _ _)) (zA (by decide) (by first|assumption|exact jf rfl) ?_)|ktr_call (XM _ _ _ (mS _ _)) (EF (by decide) (by first|assumption|exact jf rfl) ?_)|ktr_call (XM _ _ _ (bB _ _)) (DF (by decide) (by first|assumption|exact jf rfl) ?_)|ktr_call (XM _ _ _ (kn _ _ _)) (yh _ hp ?_ ?_)|ktr_call (XM _ _ _ (zn _ tM _)) (Ef (xv _) ?_)|ktr_call (XM _ _ _ (eF _ _)) (x4 rfl (by walk_at "a") rfl ?_)|ktr_call (XM _ _ _ ql) BQ)
local macro_rules|`(tactic|walk_at "P")=>`(tactic|first|ktr_call (zk _ _ _ (dP _ _ _)) (yM (by walk_at "a") (by first|exact rC|exact kd|walk_at "a") hr ‹0› (xv _) ?_)|ktr_call (zk _ _ _ (tI _)) (z8 (xv _))|ktr_call (zk _ _ _ (II _ _)) (tR (by walk_at "a") (by first|exact rC|exact kd|walk_at "a") hr ‹0› ?_)|ktr_call (zk _ _ _ (lK _ _ _)) (BZ (by walk_at "a") hr ‹0› rfl ?_))
local macro_rules|`(tactic|walk_at "d")=>`(tactic|((first|((with_reducible show XE _ _ _);walk_at "M")|((with_reducible show XA _ _ _);first|ktr_call (XA _ _ (aa _ _)) (nY ?_ ?_)|ktr_call (XA _ _ af) wm)|((with_reducible show XS _ _ _);walk_at "B")|((with_reducible show ua _ _ _);walk_at "A")|((with_reducible show XT _ _ _);walk_at "C")|((with_reducible show XW _ _ _);walk_at "D")|((with_reducible show XI _ _ _ _);walk_at "F")|((with_reducible show XG _ _ _);first|ktr_call (XG _ _ (gN _)) (zL (by first|assumption|exact jf rfl) rfl (by first|exact Or.inl rfl|exact Or.inr rfl))|ktr_call (XG _ _ (gT _ _)) (DG rfl ?_))|((with_reducible show GD _ _ _);first|ktr_call (GD _ _ (uG (_ :: _))) (yw ?_ ?_)|ktr_call (GD _ _ (uG [])) Ac)|((with_reducible show XO _ _ _);first|ktr_call (XO _ _ bK) CJ|ktr_call (XO _ _ (eI _)) (zo ?_))|((with_reducible show JL _ _ _);first|ktr_call (JL _ _ eK) AV|refine CA ?_)|((with_reducible show pJ _ _ _ _ _ _ _ _ _);first|refine ⟨fun _ _ _ _ _ _=>⟨?_, ?_, ?_⟩⟩)|((with_reducible show XN _ _ _);walk_at "L")|((with_reducible show uH _ _ _ _);walk_at "N")|((with_reducible show XM _ _ _ _);walk_at "O")|((with_reducible show zk _ _ _ _);walk_at "P")|((with_reducible show Gx _ _ _ _);first|ktr_call (Gx _ _ _ (iA _ _)) (yN ?_ ?_)|ktr_call (Gx _ _ _ (iu _)) (yT ?_)))<;>walk_at "d"))
local macro_rules | `(tactic| walk_at "a") => `(tactic| first | assumption | exact q.2 | exact q.1.2 | exact q.1.1.2 | exact q.1.1.1.2 | exact q.1.1.1.1.2 | exact q.1.1.1.1.1.2 | exact q.1.1.1.1.1.1.2 | exact q.1.1.1.1.1.1.1.2 | (replace q := q.1.1.1.1.1.1.1.1; walk_at "a") | exact q.1 | exact q.1.1 | exact q.1.1.1 | exact q.1.1.1.1 | exact q.1.1.1.1.1 | exact q.1.1.1.1.1.1 | exact q.1.1.1.1.1.1.1)
local macro_rules | `(tactic| walk_at "b") => `(tactic| (intro us hl _ _ _ _ _ _; first | (obtain ⟨a, rfl⟩ := JN hl; rfl) | (obtain ⟨a, b, rfl⟩ := Bv hl; rfl) | (obtain ⟨a, b, c, rfl⟩ := vf hl; rfl)))
local macro_rules | `(tactic| walk_at "m") => `(tactic| ((· walk_at "a"); (· walk_at "b"); (· exact ‹2›); first | refine fun nd f => ⟨fun cdv A outer s H E hr hp => ?_⟩ | intro nd f A outer s H E hr hp))
local macro_rules | `(tactic| ktn_call $m $b:ident) => `(tactic| ((first | (apply M8 $m; walk_at "m") | (apply NF $m; walk_at "m")); unfold $b; walk_at "d"))
local macro_rules | `(tactic| walk_at "t") => `(tactic| first | exact DU | (refine Bx (MethAt.mono (by walk_at "a") (by first | decide | omega)) (by first | exact kd | walk_at "a") ?_; walk_at "t"))
section
variable{u:U}
noncomputable def Q0(u:U):Prop:=(((((((((((((((((((((((((((((((((((((((((((((((((((((((((((((((((Ku u (Ku u (Zs u ["isinstance","str","tuple","len","all","int","zip","range","bool","list","reversed","ValueError","min","max"]) [("written",top 20),("shown",top 49),("is_letters",top 12),("is_name",top 13),("read_name",top 62),("read_word",top 64),("read_number",top 63),("read_value",top 61),("read_values",top 60),("read_pair",top 55),("taken",top 52),("taken_until",top 53),("are_words",top 17),("has_parts",top 14),("is_word_kind",top 16),("is_whole",top 11),("is_number_kind",top 15),("made_sieve",top 59),("made_step",top 57),("read_keep",top 58),("read_step",top 56),("read_glass",top 54),("words_of",top 51),("read",top 50),("_law_refused",top 74),("_law_words",top 70),("_law_pick",top 67),("_law_number",top 69),("_law_name",top 68),("_law_step",top 71)]) [("_law_side",top 72),("_law_more",top 73),("_law_cell_at",top 66)])/\∃t,u.mg "MOST_LETTERS"=some (.int 8 t))/\∃t,u.mg "LETTERS"=some (.str "abcdefghijklmnopqrstuvwxyz" t))/\∃t,u.mg "MOST_FIGURES"=some (.int 60 t))/\∃t,u.mg "FIGURES"=some (.str "0123456789" t))/\∃t,u.mg "MOST_WORDS"=some (.int 12 t))/\∃t,u.mg "BRACKETS"=some (.str "()[]" t))/\zm u.P u.w u.K u.mg "PAIRS" gd)/\zm u.P u.w u.K u.mg "STEPS" ib)/\aQ u.K "value" ["Drop"])/\aQ u.K "name" ["Drop"])/\aQ u.K "name" ["Gather"])/\aQ u.K "name" ["Nest"])/\aQ u.K "many" ["Nest"])/\aQ u.K "name" ["Unnest"])/\aQ u.K "rest" ["Part"])/\aQ u.K "quotient" ["Part"])/\aQ u.K "by" ["Part"])/\aQ u.K "name" ["Part"])/\aQ u.K "name" ["Fuse"])/\aQ u.K "by" ["Fuse"])/\aQ u.K "rest" ["Fuse"])/\aQ u.K "quotient" ["Fuse"])/\aQ u.K "new" ["Rename"])/\aQ u.K "old" ["Rename"])/\aQ u.K "kind" ["Sieve"])/\aQ u.K "name" ["Sieve"])/\aQ u.K "step" ["Over"])/\aQ u.K "glass" ["Over"])/\aQ u.K "pair" ["Both"])/\aQ u.K "other" ["Both"])/\aQ u.K "one" ["Both"])/\aQ u.K "name" ["Drop","Gather","Leaf","Nest","Unnest","Part","Fuse","Sieve"])/\bJ u.P u.w u.K u.mg u.base 1 "Gather" ["self","name"] ["name"])/\bJ u.P u.w u.K u.mg u.base 1 "Sieve" ["self","name","kind"] ["name","kind"])/\bJ u.P u.w u.K u.mg u.base 1 "Rename" ["self","old","new"] ["old","new"])/\bJ u.P u.w u.K u.mg u.base 1 "Part" ["self","name","by","quotient","rest"] ["name","by","quotient","rest"])/\bJ u.P u.w u.K u.mg u.base 1 "Fuse" ["self","quotient","rest","by","name"] ["quotient","rest","by","name"])/\bJ u.P u.w u.K u.mg u.base 1 "Drop" ["self","name","value"] ["name","value"])/\bJ u.P u.w u.K u.mg u.base 1 "Nest" ["self","many","name"] ["many","name"])/\bJ u.P u.w u.K u.mg u.base 1 "Unnest" ["self","name"] ["name"])/\bJ u.P u.w u.K u.mg u.base 1 "Over" ["self","glass","step"] ["glass","step"])/\bJ u.P u.w u.K u.mg u.base 1 "Both" ["self","one","other","pair"] ["one","other","pair"])/\bJ u.P u.w u.K u.mg u.base 1 "Leaf" ["self","name"] ["name"])/\tW u.K u.mg "Join")/\tW u.K u.mg "Step")/\sY u.K u.mg "Over" ["Over"] ["Leaf","Both"])/\sY u.K u.mg "Both" ["Both"] ["Leaf","Over"])/\ExcAt u.K u.mg "NoText")/\ul u.K u.mg "GlassError" ["NoText"])/\lu u.K u.mg "NoText" [("NoText",true)])/\lu u.K u.mg "NoForm" [("NoText",false)])/\lu u.K u.mg "NoKind" [("NoText",false)])/\lu u.K u.mg "Twice" [("NoText",false)])/\uA u.K (.type "ValueError") [("NoText",true)])/\Dm u "Step" "words" "Step.words" (inClass (top 19) 0))/\Dm u "Drop" "words" "Drop.words" (inClass (top 22) 1))/\Dm u "Join" "words" "Join.words" (inClass (top 25) 0))/\Dm u "Gather" "words" "Gather.words" (inClass (top 27) 1))/\Dm u "Nest" "words" "Nest.words" (inClass (top 34) 1))/\Dm u "Unnest" "words" "Unnest.words" (inClass (top 35) 1))/\Dm u "Part" "words" "Part.words" (inClass (top 37) 1))/\Dm u "Fuse" "words" "Fuse.words" (inClass (top 38) 1))/\Dm u "Rename" "words" "Rename.words" (inClass (top 40) 1))/\Dm u "Sieve" "words" "Sieve.words" (inClass (top 42) 1))
noncomputable def Q1(u:U):Prop:=Q0 u/\Ma u 1 "Step" "words" ["self"] (au cF 1 1)
theorem e1(q:Q0 u):Q1 u:=⟨q,(by ktn_call [] cF)⟩
noncomputable def Q2(u:U):Prop:=Q1 u/\Ca u 1 "written" ["value"] (au bL 1 1)
theorem e2(q:Q1 u):Q2 u:=⟨q,(by ktn_call [] bL)⟩
noncomputable def Q3(u:U):Prop:=Q2 u/\Ma u 2 "Drop" "words" ["self"] (au bQ 1 1)
theorem e3(q:Q2 u):Q3 u:=⟨q,(by ktn_call [] bQ)⟩
noncomputable def Q4(u:U):Prop:=Q3 u/\Ma u 1 "Join" "words" ["self"] (au cJ 1 1)
theorem e4(q:Q3 u):Q4 u:=⟨q,(by ktn_call [] cJ)⟩
noncomputable def Q5(u:U):Prop:=Q4 u/\Ma u 1 "Gather" "words" ["self"] (au bG 1 1)
theorem e5(q:Q4 u):Q5 u:=⟨q,(by ktn_call [] bG)⟩
noncomputable def Q6(u:U):Prop:=Q5 u/\Ma u 2 "Nest" "words" ["self"] (au cD 1 1)
theorem e6(q:Q5 u):Q6 u:=⟨q,(by ktn_call [] cD)⟩
noncomputable def Q7(u:U):Prop:=Q6 u/\Ma u 1 "Unnest" "words" ["self"] (au bI 1 1)
theorem e7(q:Q6 u):Q7 u:=⟨q,(by ktn_call [] bI)⟩
noncomputable def Q8(u:U):Prop:=Q7 u/\Ma u 2 "Part" "words" ["self"] (au cA 1 1)
theorem e8(q:Q7 u):Q8 u:=⟨q,(by ktn_call [] cA)⟩
noncomputable def Q9(u:U):Prop:=Q8 u/\Ma u 2 "Fuse" "words" ["self"] (au cE 1 1)
theorem e9(q:Q8 u):Q9 u:=⟨q,(by ktn_call [] cE)⟩
noncomputable def MJ(u:U):Prop:=Q9 u/\Ma u 1 "Rename" "words" ["self"] (au bF 1 1)
theorem e10(q:Q9 u):MJ u:=⟨q,(by ktn_call [] bF)⟩
noncomputable def Lj(u:U):Prop:=MJ u/\Ma u 2 "Sieve" "words" ["self"] (au bD 1 1)
theorem Lf(q:MJ u):Lj u:=⟨q,(by ktn_call [] bD)⟩
noncomputable def KI(u:U):Prop:=Lj u/\Ta u 2 "words" ["self"] [("Step",(au cF 1 1)),("Drop",(au bQ 1 1)),("Join",(au cJ 1 1)),("Gather",(au bG 1 1)),("Nest",(au cD 1 1)),("Unnest",(au bI 1 1)),("Part",(au cA 1 1)),("Fuse",(au cE 1 1)),("Rename",(au bF 1 1)),("Sieve",(au bD 1 1))]
theorem N3(q:Lj u):KI u:=⟨q,(by walk_at "t")⟩
theorem qI(q:KI u):∀n:Nat,Ca u (2+n) "shown" ["glass"] (bE n)
 |0=>by
  rw[bE];exact Oj (by walk_at "a") (by walk_at "b")
 |n+1=>by
  have ih:=qI q n;have c0:=ih;have a0:=pA n;rw[bT];apply M8 (k:=2+n) ["words"];walk_at "m";unfold fZ;walk_at "d"
noncomputable def Ml(u:U):Prop:=(KI u/\Ca u (18) "shown" ["glass"] (bE 16))/\Ar 1 (bE 16)
theorem OA(q:KI u):Ml u:=⟨⟨q,(qI q 16)⟩,pA 16⟩
noncomputable def MN(u:U):Prop:=Ml u/\Ca u 1 "is_letters" ["value","fewest"] (au cM 2 2)
theorem NI(q:Ml u):MN u:=⟨q,(by ktn_call [] cM)⟩
noncomputable def Mg(u:U):Prop:=MN u/\Ca u 2 "is_name" ["value"] (au g6 1 1)
theorem NP(q:MN u):Mg u:=⟨q,(by ktn_call [] g6)⟩
noncomputable def LR(u:U):Prop:=Mg u/\Ca u 3 "read_name" ["word"] (au eR 1 1)
theorem N9(q:Mg u):LR u:=⟨q,(by ktn_call [] eR)⟩
noncomputable def Lh(u:U):Prop:=LR u/\Ca u 2 "read_word" ["word"] (au du 1 1)
theorem Nt(q:LR u):Lh u:=⟨q,(by ktn_call [] du)⟩
noncomputable def M1(u:U):Prop:=Lh u/\Ca u 1 "read_number" ["word"] (au eB 1 2)
theorem NE(q:Lh u):M1 u:=⟨q,(by ktn_call ["figures"] eB)⟩
noncomputable def MK(u:U):Prop:=M1 u/\Ca u 4 "read_value" ["sort","word"] (au aV 2 2)
theorem Ox(q:M1 u):MK u:=⟨q,(by ktn_call [] aV)⟩
noncomputable def MM(u:U):Prop:=MK u/\Ca u 5 "read_values" ["sorts","words"] (au bU 2 2)
theorem e20(q:MK u):MM u:=⟨q,(by ktn_call [] bU)⟩
noncomputable def LA(u:U):Prop:=MM u/\Ca u 6 "read_pair" ["first","words"] (au fu 2 3)
theorem Oq(q:MM u):LA u:=⟨q,(by ktn_call ["values"] fu)⟩
noncomputable def K9(u:U):Prop:=LA u/\IX u 1 "taken" ["waiting"] (oy eX 1 1)
theorem NB(q:LA u):K9 u:=⟨q,(by apply Ht [];walk_at "m";unfold eX;walk_at "d")⟩
noncomputable def LX(u:U):Prop:=K9 u/\IX u 2 "taken_until" ["waiting","end"] (oy cQ 2 4)
theorem N5(q:K9 u):LX u:=⟨q,(by apply Ht ["words","word"];walk_at "m";unfold cQ;walk_at "d")⟩
noncomputable def LN(u:U):Prop:=LX u/\Ca u 2 "are_words" ["value"] (au gg 1 1)
theorem NQ(q:LX u):LN u:=⟨q,(by ktn_call [] gg)⟩
noncomputable def M4(u:U):Prop:=LN u/\Ca u 1 "has_parts" ["value","many"] (au cI 2 2)
theorem N8(q:LN u):M4 u:=⟨q,(by ktn_call [] cI)⟩
noncomputable def My(u:U):Prop:=M4 u/\Ca u 3 "is_word_kind" ["value"] (au eV 1 1)
theorem Nv(q:M4 u):My u:=⟨q,(by ktn_call [] eV)⟩
noncomputable def Mo(u:U):Prop:=My u/\Ca u 1 "is_whole" ["value"] (au fO 1 1)
theorem Oh(q:My u):Mo u:=⟨q,(by ktn_call [] fO)⟩
noncomputable def Li(u:U):Prop:=Mo u/\Ca u 2 "is_number_kind" ["value"] (au bC 1 1)
theorem Nm(q:Mo u):Li u:=⟨q,(by ktn_call [] bC)⟩
noncomputable def Mw(u:U):Prop:=Li u/\Ca u 4 "made_sieve" ["name","kind"] (au cK 2 2)
theorem Ow(q:Li u):Mw u:=⟨q,(by ktn_call [] cK)⟩
noncomputable def LC(u:U):Prop:=Mw u/\Ca u 5 "made_step" ["first","values"] (au bu 2 2)
theorem NT(q:Mw u):LC u:=⟨q,(by ktn_call [] bu)⟩
noncomputable def Lv(u:U):Prop:=LC u/\Ca u 5 "read_keep" ["words"] (au gi 1 1)
theorem NU(q:LC u):Lv u:=⟨q,(by ktn_call [] gi)⟩
noncomputable def Ko(u:U):Prop:=Lv u/\Ca u 6 "read_step" ["words"] (au eN 1 1)
theorem N4(q:Lv u):Ko u:=⟨q,(by ktn_call [] eN)⟩
theorem jo(q:Ko u):∀n:Nat,IX u (6+n) "read_glass" ["waiting"] (aA n)
 |0=>by
  rw[aA];exact L6 (by walk_at "a") (by walk_at "b")
 |n+1=>by
  have ih:=jo q n;have c0:=ih;have a0:=iU n;rw[cN];apply Ht (k:=6+n) ["word","glass","first","one","other"];walk_at "m";unfold bS;walk_at "d"
noncomputable def M0(u:U):Prop:=(Ko u/\IX u (22) "read_glass" ["waiting"] (aA 16))/\Ar 1 (aA 16)
theorem NY(q:Ko u):M0 u:=⟨⟨q,(jo q 16)⟩,iU 16⟩
noncomputable def Le(u:U):Prop:=M0 u/\Ca u 1 "words_of" ["text"] (au fN 1 2)
theorem Nq(q:M0 u):Le u:=⟨q,(by apply Nz (bs:="()[]") (by walk_at "a") (by decide +kernel) ["bracket"];(· walk_at "a");(· walk_at "b");(· exact‹2›);(· exact⟨_,_,rfl,rfl⟩);intro nd tb hm f cdv A outer s H E hr hp;unfold fN;exact yV (λHb Ob pins s σ H E I tk zq=>DI (i:=0) (j:=1) (hij:=by decide) (hN:=nd) (hi:=by rfl) (hj:=by rfl) (ht:=by rfl) (hb:=by rfl) (hg:=by rfl) (hm:=hm) (ha:=by decide +kernel) (hp:=hp) (hc:=by rfl) (Hb:=Hb) (Ob:=Ob) (pins:=pins) (s:=s) (σ:=σ) (H:=H) (E:=E) (I:=I) (tk:=tk) (zq:=zq)) (tH (wM (ot (xw _)))).h)⟩
noncomputable def Ls(u:U):Prop:=Le u/\Ca u 23 "read" ["text"] (au oC 1 2)
theorem OB(q:Le u):Ls u:=⟨q,(by ktn_call ["glass"] oC)⟩
noncomputable def LW(u:U):Prop:=Ls u/\Ca u 19 "_law_refused" ["_law_glass"] (au cv 1 3)
theorem Og(q:Ls u):LW u:=⟨q,(by ktn_call ["_law_refused_here","e"] cv)⟩
noncomputable def MG(u:U):Prop:=LW u/\Ca u 1 "_law_words" ["_law_cell"] (au dA 1 2)
theorem N7(q:LW u):MG u:=⟨q,(by ktn_call ["_law_word"] dA)⟩
noncomputable def Lb(u:U):Prop:=MG u/\Ca u 1 "_law_pick" ["_law_cell","_law_k","_law_many"] (au aZ 3 5)
theorem Od(q:MG u):Lb u:=⟨q,(by ktn_call ["_law_step_here","_law_prime"] aZ)⟩
noncomputable def LV(u:U):Prop:=Lb u/\Ca u 1 "_law_number" ["_law_cell"] (au cO 1 1)
theorem N1(q:Lb u):LV u:=⟨q,(by ktn_call [] cO)⟩
noncomputable def Mu(u:U):Prop:=LV u/\Ca u 1 "_law_name" ["_law_cell"] (au bY 1 6)
theorem Nk(q:LV u):Mu u:=⟨q,(by ktn_call ["_law_letters","_law_number_here","_law_name_here","_law_rest","_law_k"] bY)⟩
noncomputable def Mf(u:U):Prop:=Mu u/\Ca u 3 "_law_step" ["_law_cell"] (au fv 1 10)
theorem OC(q:Mu u):Mf u:=⟨q,(by ktn_call ["_law_one","_law_other","_law_far","_law_more_here","_law_way","_law_word","_law_low","_law_high","_law_words_here"] fv)⟩
noncomputable def K4(u:U):Prop:=Mf u/\Ca u 4 "_law_side" ["_law_cell"] (au eP 1 8)
theorem N0(q:Mf u):K4 u:=⟨q,(by ktn_call ["_law_text","_law_glass","_law_many","_law_k","_law_step_here","_law_words_here","_law_other"] eP)⟩
noncomputable def MT(u:U):Prop:=K4 u/\Ca u 5 "_law_more" ["_law_glass","_law_text","_law_cell"] (au eU 3 9)
theorem OD(q:K4 u):MT u:=⟨q,(by ktn_call ["_law_side_here","_law_told","_law_many","_law_way","_law_step_here","_law_words_here"] eU)⟩
noncomputable def M6(u:U):Prop:=MT u/\Ca u 1 "_law_cell_at" ["_law_script","_law_k"] (au eM 2 2)
theorem ND(q:MT u):M6 u:=⟨q,(by ktn_call [] eM)⟩
theorem JR{f:Sg}{fd:Te}(F:kc u.K "law" "law" (top 75) f fd)(q:M6 u):fG u.P u.w u.K u.mg u.base (gB u.P u.w) 24 f fd ["_law_script"] (yr u.K 1 (au mL 1 10)):=by
 refine NV ["_law_text","_law_glass","_law_plain","_law_total","_law_cell","_law_more_here","_law_told","_law_many","_law_found"] F ?_ ?_
 ·exact‹2›
 refine λnd=>⟨λcdv A outer s H E hr hp=>?_⟩
 unfold mL;walk_at "d"
set_option hygiene true
variable{P:Sn}{w:Sl}{K:QR}{mg:bg}{base:Sr}
theorem uf{C f:Sg}{fd:Te}(h1:clsAt K "Gather" C)(hM:Mk K C f)(cl:ik K C)(na:∀g∈(["name"]:ah),dR K C g)(F:kc K "__init__" "Gather.__init__" gK f fd)(b:Binds K fd ["self","name"] [])(hmg:mg "Gather"=some (.ref C)):bJ P w K mg base 1 "Gather" ["self","name"] ["name"]:=
 de (k:=0) h1 hM cl na F b hmg j9 rfl (by decide +kernel) (by decide) λcdv A outer s H E=>(dm rfl (pv 0) (pv 1) rfl)
theorem vc{C f:Sg}{fd:Te}(h1:clsAt K "Sieve" C)(hM:Mk K C f)(cl:ik K C)(na:∀g∈(["name","kind"]:ah),dR K C g)(F:kc K "__init__" "Sieve.__init__" ie f fd)(b:Binds K fd ["self","name","kind"] [])(hmg:mg "Sieve"=some (.ref C)):bJ P w K mg base 1 "Sieve" ["self","name","kind"] ["name","kind"]:=
 de (k:=0) h1 hM cl na F b hmg kJ rfl (by decide +kernel) (by decide) λcdv A outer s H E=>(bz rfl (pv 0) (pv 1) rfl (dm rfl (pv 0) (pv 2) rfl))
theorem uk{C f:Sg}{fd:Te}(h1:clsAt K "Rename" C)(hM:Mk K C f)(cl:ik K C)(na:∀g∈(["old","new"]:ah),dR K C g)(F:kc K "__init__" "Rename.__init__" gR f fd)(b:Binds K fd ["self","old","new"] [])(hmg:mg "Rename"=some (.ref C)):bJ P w K mg base 1 "Rename" ["self","old","new"] ["old","new"]:=
 de (k:=0) h1 hM cl na F b hmg kq rfl (by decide +kernel) (by decide) λcdv A outer s H E=>(bz rfl (pv 0) (pv 1) rfl (dm rfl (pv 0) (pv 2) rfl))
theorem yj{C f:Sg}{fd:Te}(h1:clsAt K "Part" C)(hM:Mk K C f)(cl:ik K C)(na:∀g∈(["name","by","quotient","rest"]:ah),dR K C g)(F:kc K "__init__" "Part.__init__" iO f fd)(b:Binds K fd ["self","name","by","quotient","rest"] [])(hmg:mg "Part"=some (.ref C)):bJ P w K mg base 1 "Part" ["self","name","by","quotient","rest"] ["name","by","quotient","rest"]:=
 de (k:=0) h1 hM cl na F b hmg mr rfl (by decide +kernel) (by decide) λcdv A outer s H E=>(bz rfl (pv 0) (pv 1) rfl (bz rfl (pv 0) (pv 2) rfl (bz rfl (pv 0) (pv 3) rfl (dm rfl (pv 0) (pv 4) rfl))))
theorem xN{C f:Sg}{fd:Te}(h1:clsAt K "Fuse" C)(hM:Mk K C f)(cl:ik K C)(na:∀g∈(["quotient","rest","by","name"]:ah),dR K C g)(F:kc K "__init__" "Fuse.__init__" iR f fd)(b:Binds K fd ["self","quotient","rest","by","name"] [])(hmg:mg "Fuse"=some (.ref C)):bJ P w K mg base 1 "Fuse" ["self","quotient","rest","by","name"] ["quotient","rest","by","name"]:=
 de (k:=0) h1 hM cl na F b hmg lY rfl (by decide +kernel) (by decide) λcdv A outer s H E=>(bz rfl (pv 0) (pv 1) rfl (bz rfl (pv 0) (pv 2) rfl (bz rfl (pv 0) (pv 3) rfl (dm rfl (pv 0) (pv 4) rfl))))
theorem zi{C f:Sg}{fd:Te}(h1:clsAt K "Drop" C)(hM:Mk K C f)(cl:ik K C)(na:∀g∈(["name","value"]:ah),dR K C g)(F:kc K "__init__" "Drop.__init__" iV f fd)(b:Binds K fd ["self","name","value"] [])(hmg:mg "Drop"=some (.ref C)):bJ P w K mg base 1 "Drop" ["self","name","value"] ["name","value"]:=
 de (k:=0) h1 hM cl na F b hmg mG rfl (by decide +kernel) (by decide) λcdv A outer s H E=>(bz rfl (pv 0) (pv 1) rfl (dm rfl (pv 0) (pv 2) rfl))
theorem xO{C f:Sg}{fd:Te}(h1:clsAt K "Nest" C)(hM:Mk K C f)(cl:ik K C)(na:∀g∈(["many","name"]:ah),dR K C g)(F:kc K "__init__" "Nest.__init__" iQ f fd)(b:Binds K fd ["self","many","name"] [])(hmg:mg "Nest"=some (.ref C)):bJ P w K mg base 1 "Nest" ["self","many","name"] ["many","name"]:=
 de (k:=0) h1 hM cl na F b hmg lO rfl (by decide +kernel) (by decide) λcdv A outer s H E=>(bz rfl (pv 0) (pv 1) rfl (dm rfl (pv 0) (pv 2) rfl))
theorem ue{C f:Sg}{fd:Te}(h1:clsAt K "Unnest" C)(hM:Mk K C f)(cl:ik K C)(na:∀g∈(["name"]:ah),dR K C g)(F:kc K "__init__" "Unnest.__init__" gJ f fd)(b:Binds K fd ["self","name"] [])(hmg:mg "Unnest"=some (.ref C)):bJ P w K mg base 1 "Unnest" ["self","name"] ["name"]:=
 de (k:=0) h1 hM cl na F b hmg kj rfl (by decide +kernel) (by decide) λcdv A outer s H E=>(dm rfl (pv 0) (pv 1) rfl)
theorem yn{C f:Sg}{fd:Te}(h1:clsAt K "Over" C)(hM:Mk K C f)(cl:ik K C)(na:∀g∈(["glass","step"]:ah),dR K C g)(F:kc K "__init__" "Over.__init__" iN f fd)(b:Binds K fd ["self","glass","step"] [])(hmg:mg "Over"=some (.ref C)):bJ P w K mg base 1 "Over" ["self","glass","step"] ["glass","step"]:=
 de (k:=0) h1 hM cl na F b hmg lP rfl (by decide +kernel) (by decide) λcdv A outer s H E=>(bz rfl (pv 0) (pv 1) rfl (dm rfl (pv 0) (pv 2) rfl))
theorem xI{C f:Sg}{fd:Te}(h1:clsAt K "Both" C)(hM:Mk K C f)(cl:ik K C)(na:∀g∈(["one","other","pair"]:ah),dR K C g)(F:kc K "__init__" "Both.__init__" iW f fd)(b:Binds K fd ["self","one","other","pair"] [])(hmg:mg "Both"=some (.ref C)):bJ P w K mg base 1 "Both" ["self","one","other","pair"] ["one","other","pair"]:=
 de (k:=0) h1 hM cl na F b hmg mq rfl (by decide +kernel) (by decide) λcdv A outer s H E=>(bz rfl (pv 0) (pv 1) rfl (bz rfl (pv 0) (pv 2) rfl (dm rfl (pv 0) (pv 3) rfl)))
theorem xQ{C f:Sg}{fd:Te}(h1:clsAt K "Leaf" C)(hM:Mk K C f)(cl:ik K C)(na:∀g∈(["name"]:ah),dR K C g)(F:kc K "__init__" "Leaf.__init__" iS f fd)(b:Binds K fd ["self","name"] [])(hmg:mg "Leaf"=some (.ref C)):bJ P w K mg base 1 "Leaf" ["self","name"] ["name"]:=
 de (k:=0) h1 hM cl na F b hmg lU rfl (by decide +kernel) (by decide) λcdv A outer s H E=>(dm rfl (pv 0) (pv 1) rfl)
end
theorem all_mk{l:Rt}{w:Sl}{K:QR}{h:Sr}{mg:bg}{fa:Sg}(X:K.In h)(G:h.Ns Su mg)(hfa:mg "law"=some (.ref fa)){f1 f2:Sg}
  (ac0:Ru K Su "Drop"=some (some (.ref Cl0)))
  (ac1:Ru K Su "Gather"=some (some (.ref Cl1)))
  (ac2:Ru K Su "Nest"=some (some (.ref Cl2)))
  (ac3:Ru K Su "Unnest"=some (some (.ref Cl3)))
  (ac4:Ru K Su "Part"=some (some (.ref Cl4)))
  (ac5:Ru K Su "Fuse"=some (some (.ref Cl5)))
  (ac6:Ru K Su "Rename"=some (some (.ref Cl6)))
  (ac7:Ru K Su "Sieve"=some (some (.ref Cl7)))
  (ac8:Ru K Su "Over"=some (some (.ref Cl8)))
  (ac9:Ru K Su "Both"=some (some (.ref Cl9)))
  (ac10:Ru K Su "Leaf"=some (some (.ref Cl10)))
  (ac11:Ru K Su "Step"=some (some (.ref Cl11)))
  (ac12:Ru K Su "Join"=some (some (.ref Cl12)))
  (a0:QV K (.ref Cl11) "words"=some (some (.ref f0)))
  (i0:QY K (.ref f0)=true)
  (l0:Lk K f0 "words" "Step.words" (inClass (top 19) 0) oc0 od0 kV0 dc0 pm0 an0 cd0 ct0 sl0)
  (c0:Rq K cd0 "Step.words"=true)
  (k0:Rm K (.ref f0)=true)
  (a1:QV K (.ref Cl0) "words"=some (some (.ref f1)))
  (i1:QY K (.ref f1)=true)
  (l1:Lk K f1 "words" "Drop.words" (inClass (top 22) 1) oc1 od1 kV1 dc1 pm1 an1 cd1 ct1 sl1)
  (c1:Rq K cd1 "Drop.words"=true)
  (k1:Rm K (.ref f1)=true)
  (a2:QV K (.ref Cl12) "words"=some (some (.ref f2)))
  (i2:QY K (.ref f2)=true)
  (l2:Lk K f2 "words" "Join.words" (inClass (top 25) 0) oc2 od2 kV2 dc2 pm2 an2 cd2 ct2 sl2)
  (c2:Rq K cd2 "Join.words"=true)
  (k2:Rm K (.ref f2)=true)
  (a3:QV K (.ref Cl1) "words"=some (some (.ref f3)))
  (i3:QY K (.ref f3)=true)
  (l3:Lk K f3 "words" "Gather.words" (inClass (top 27) 1) oc3 od3 kV3 dc3 pm3 an3 cd3 ct3 sl3)
  (c3:Rq K cd3 "Gather.words"=true)
  (k3:Rm K (.ref f3)=true)
  (a4:QV K (.ref Cl2) "words"=some (some (.ref f4)))
  (i4:QY K (.ref f4)=true)
  (l4:Lk K f4 "words" "Nest.words" (inClass (top 34) 1) oc4 od4 kV4 dc4 pm4 an4 cd4 ct4 sl4)
  (c4:Rq K cd4 "Nest.words"=true)
  (k4:Rm K (.ref f4)=true)
  (a5:QV K (.ref Cl3) "words"=some (some (.ref f5)))
  (i5:QY K (.ref f5)=true)
  (l5:Lk K f5 "words" "Unnest.words" (inClass (top 35) 1) oc5 od5 kV5 dc5 pm5 an5 cd5 ct5 sl5)
  (c5:Rq K cd5 "Unnest.words"=true)
  (k5:Rm K (.ref f5)=true)
  (a6:QV K (.ref Cl4) "words"=some (some (.ref f6)))
  (i6:QY K (.ref f6)=true)
  (l6:Lk K f6 "words" "Part.words" (inClass (top 37) 1) oc6 od6 kV6 dc6 pm6 an6 cd6 ct6 sl6)
  (c6:Rq K cd6 "Part.words"=true)
  (k6:Rm K (.ref f6)=true)
  (a7:QV K (.ref Cl5) "words"=some (some (.ref f7)))
  (i7:QY K (.ref f7)=true)
  (l7:Lk K f7 "words" "Fuse.words" (inClass (top 38) 1) oc7 od7 kV7 dc7 pm7 an7 cd7 ct7 sl7)
  (c7:Rq K cd7 "Fuse.words"=true)
  (k7:Rm K (.ref f7)=true)
  (a8:QV K (.ref Cl6) "words"=some (some (.ref f8)))
  (i8:QY K (.ref f8)=true)
  (l8:Lk K f8 "words" "Rename.words" (inClass (top 40) 1) oc8 od8 kV8 dc8 pm8 an8 cd8 ct8 sl8)
  (c8:Rq K cd8 "Rename.words"=true)
  (k8:Rm K (.ref f8)=true)
  (a9:QV K (.ref Cl7) "words"=some (some (.ref f9)))
  (i9:QY K (.ref f9)=true)
  (l9:Lk K f9 "words" "Sieve.words" (inClass (top 42) 1) oc9 od9 kV9 dc9 pm9 an9 cd9 ct9 sl9)
  (c9:Rq K cd9 "Sieve.words"=true)
  (k9:Rm K (.ref f9)=true)
  (a10:Ru K Su "law"=some (some (.ref f10)))
  (l10:Lk K f10 "law" "law" (top 75) oc10 od10 kV10 dc10 pm10 an10 cd10 ct10 sl10)
  (c10:Rq K cd10 "law"=true)
  (k10:Rm K (.ref f10)=true)
  (a11:QV K (.ref Cl1) "__init__"=some (some (.ref f11)))
  (i11:QY K (.ref f11)=true)
  (l11:Lk K f11 "__init__" "Gather.__init__" (inClass (top 27) 0) oc11 od11 kV11 dc11 pm11 an11 cd11 ct11 sl11)
  (c11:Rq K cd11 "Gather.__init__"=true)
  (k11:Rm K (.ref f11)=true)
  (a12:QV K (.ref Cl7) "__init__"=some (some (.ref f12)))
  (i12:QY K (.ref f12)=true)
  (l12:Lk K f12 "__init__" "Sieve.__init__" (inClass (top 42) 0) oc12 od12 kV12 dc12 pm12 an12 cd12 ct12 sl12)
  (c12:Rq K cd12 "Sieve.__init__"=true)
  (k12:Rm K (.ref f12)=true)
  (a13:QV K (.ref Cl6) "__init__"=some (some (.ref f13)))
  (i13:QY K (.ref f13)=true)
  (l13:Lk K f13 "__init__" "Rename.__init__" (inClass (top 40) 0) oc13 od13 kV13 dc13 pm13 an13 cd13 ct13 sl13)
  (c13:Rq K cd13 "Rename.__init__"=true)
  (k13:Rm K (.ref f13)=true)
  (a14:QV K (.ref Cl4) "__init__"=some (some (.ref f14)))
  (i14:QY K (.ref f14)=true)
  (l14:Lk K f14 "__init__" "Part.__init__" (inClass (top 37) 0) oc14 od14 kV14 dc14 pm14 an14 cd14 ct14 sl14)
  (c14:Rq K cd14 "Part.__init__"=true)
  (k14:Rm K (.ref f14)=true)
  (a15:QV K (.ref Cl5) "__init__"=some (some (.ref f15)))
  (i15:QY K (.ref f15)=true)
  (l15:Lk K f15 "__init__" "Fuse.__init__" (inClass (top 38) 0) oc15 od15 kV15 dc15 pm15 an15 cd15 ct15 sl15)
  (c15:Rq K cd15 "Fuse.__init__"=true)
  (k15:Rm K (.ref f15)=true)
  (a16:QV K (.ref Cl0) "__init__"=some (some (.ref f16)))
  (i16:QY K (.ref f16)=true)
  (l16:Lk K f16 "__init__" "Drop.__init__" (inClass (top 22) 0) oc16 od16 kV16 dc16 pm16 an16 cd16 ct16 sl16)
  (c16:Rq K cd16 "Drop.__init__"=true)
  (k16:Rm K (.ref f16)=true)
  (a17:QV K (.ref Cl2) "__init__"=some (some (.ref f17)))
  (i17:QY K (.ref f17)=true)
  (l17:Lk K f17 "__init__" "Nest.__init__" (inClass (top 34) 0) oc17 od17 kV17 dc17 pm17 an17 cd17 ct17 sl17)
  (c17:Rq K cd17 "Nest.__init__"=true)
  (k17:Rm K (.ref f17)=true)
  (a18:QV K (.ref Cl3) "__init__"=some (some (.ref f18)))
  (i18:QY K (.ref f18)=true)
  (l18:Lk K f18 "__init__" "Unnest.__init__" (inClass (top 35) 0) oc18 od18 kV18 dc18 pm18 an18 cd18 ct18 sl18)
  (c18:Rq K cd18 "Unnest.__init__"=true)
  (k18:Rm K (.ref f18)=true)
  (a19:QV K (.ref Cl8) "__init__"=some (some (.ref f19)))
  (i19:QY K (.ref f19)=true)
  (l19:Lk K f19 "__init__" "Over.__init__" (inClass (top 31) 0) oc19 od19 kV19 dc19 pm19 an19 cd19 ct19 sl19)
  (c19:Rq K cd19 "Over.__init__"=true)
  (k19:Rm K (.ref f19)=true)
  (a20:QV K (.ref Cl9) "__init__"=some (some (.ref f20)))
  (i20:QY K (.ref f20)=true)
  (l20:Lk K f20 "__init__" "Both.__init__" (inClass (top 32) 0) oc20 od20 kV20 dc20 pm20 an20 cd20 ct20 sl20)
  (c20:Rq K cd20 "Both.__init__"=true)
  (k20:Rm K (.ref f20)=true)
  (a21:QV K (.ref Cl10) "__init__"=some (some (.ref f21)))
  (i21:QY K (.ref f21)=true)
  (l21:Lk K f21 "__init__" "Leaf.__init__" (inClass (top 30) 0) oc21 od21 kV21 dc21 pm21 an21 cd21 ct21 sl21)
  (c21:Rq K cd21 "Leaf.__init__"=true)
  (k21:Rm K (.ref f21)=true)
  (p0:QT K Cl0 Str.empty=true)
  (q0:QU K Cl0=true)
  (r0:QZ K Cl0=true)
  (s0:QV K (.ref Cl0) "__setattr__"=some (some (.builtin "object.__setattr__")))
  (n0_0:QV K (.ref Cl0) "name"=some none)
  (n0_1:QV K (.ref Cl0) "value"=some none)
  (m0:Rc K Cl0=true)
  (kp0:Rm K (.ref Cl0)=true)
  (p1:QT K Cl1 Str.empty=true)
  (q1:QU K Cl1=true)
  (r1:QZ K Cl1=true)
  (s1:QV K (.ref Cl1) "__setattr__"=some (some (.builtin "object.__setattr__")))
  (n1_0:QV K (.ref Cl1) "name"=some none)
  (m1:Rc K Cl1=true)
  (kp1:Rm K (.ref Cl1)=true)
  (p2:QT K Cl2 Str.empty=true)
  (q2:QU K Cl2=true)
  (r2:QZ K Cl2=true)
  (s2:QV K (.ref Cl2) "__setattr__"=some (some (.builtin "object.__setattr__")))
  (n2_0:QV K (.ref Cl2) "many"=some none)
  (n2_1:QV K (.ref Cl2) "name"=some none)
  (m2:Rc K Cl2=true)
  (kp2:Rm K (.ref Cl2)=true)
  (p3:QT K Cl3 Str.empty=true)
  (q3:QU K Cl3=true)
  (r3:QZ K Cl3=true)
  (s3:QV K (.ref Cl3) "__setattr__"=some (some (.builtin "object.__setattr__")))
  (n3_0:QV K (.ref Cl3) "name"=some none)
  (m3:Rc K Cl3=true)
  (kp3:Rm K (.ref Cl3)=true)
  (p4:QT K Cl4 Str.empty=true)
  (q4:QU K Cl4=true)
  (r4:QZ K Cl4=true)
  (s4:QV K (.ref Cl4) "__setattr__"=some (some (.builtin "object.__setattr__")))
  (n4_0:QV K (.ref Cl4) "name"=some none)
  (n4_1:QV K (.ref Cl4) "by"=some none)
  (n4_2:QV K (.ref Cl4) "quotient"=some none)
  (n4_3:QV K (.ref Cl4) "rest"=some none)
  (m4:Rc K Cl4=true)
  (kp4:Rm K (.ref Cl4)=true)
  (p5:QT K Cl5 Str.empty=true)
  (q5:QU K Cl5=true)
  (r5:QZ K Cl5=true)
  (s5:QV K (.ref Cl5) "__setattr__"=some (some (.builtin "object.__setattr__")))
  (n5_0:QV K (.ref Cl5) "quotient"=some none)
  (n5_1:QV K (.ref Cl5) "rest"=some none)
  (n5_2:QV K (.ref Cl5) "by"=some none)
  (n5_3:QV K (.ref Cl5) "name"=some none)
  (m5:Rc K Cl5=true)
  (kp5:Rm K (.ref Cl5)=true)
  (p6:QT K Cl6 Str.empty=true)
  (q6:QU K Cl6=true)
  (r6:QZ K Cl6=true)
  (s6:QV K (.ref Cl6) "__setattr__"=some (some (.builtin "object.__setattr__")))
  (n6_0:QV K (.ref Cl6) "old"=some none)
  (n6_1:QV K (.ref Cl6) "new"=some none)
  (m6:Rc K Cl6=true)
  (kp6:Rm K (.ref Cl6)=true)
  (p7:QT K Cl7 Str.empty=true)
  (q7:QU K Cl7=true)
  (r7:QZ K Cl7=true)
  (s7:QV K (.ref Cl7) "__setattr__"=some (some (.builtin "object.__setattr__")))
  (n7_0:QV K (.ref Cl7) "name"=some none)
  (n7_1:QV K (.ref Cl7) "kind"=some none)
  (m7:Rc K Cl7=true)
  (kp7:Rm K (.ref Cl7)=true)
  (p8:QT K Cl8 Str.empty=true)
  (q8:QU K Cl8=true)
  (r8:QZ K Cl8=true)
  (s8:QV K (.ref Cl8) "__setattr__"=some (some (.builtin "object.__setattr__")))
  (n8_0:QV K (.ref Cl8) "glass"=some none)
  (n8_1:QV K (.ref Cl8) "step"=some none)
  (m8:Rc K Cl8=true)
  (kp8:Rm K (.ref Cl8)=true)
  (p9:QT K Cl9 Str.empty=true)
  (q9:QU K Cl9=true)
  (r9:QZ K Cl9=true)
  (s9:QV K (.ref Cl9) "__setattr__"=some (some (.builtin "object.__setattr__")))
  (n9_0:QV K (.ref Cl9) "one"=some none)
  (n9_1:QV K (.ref Cl9) "other"=some none)
  (n9_2:QV K (.ref Cl9) "pair"=some none)
  (m9:Rc K Cl9=true)
  (kp9:Rm K (.ref Cl9)=true)
  (p10:QT K Cl10 Str.empty=true)
  (q10:QU K Cl10=true)
  (r10:QZ K Cl10=true)
  (s10:QV K (.ref Cl10) "__setattr__"=some (some (.builtin "object.__setattr__")))
  (n10_0:QV K (.ref Cl10) "name"=some none)
  (m10:Rc K Cl10=true)
  (kp10:Rm K (.ref Cl10)=true)
  (p11:QT K Cl11 Str.empty=true)
  (q11:QU K Cl11=true)
  (r11:QZ K Cl11=true)
  (s11:QV K (.ref Cl11) "__setattr__"=some (some (.builtin "object.__setattr__")))
  (o11:QV K (.ref Cl11) "__init__"=some (some (.builtin "object.__init__")))
  (m11:Rc K Cl11=true)
  (kp11:Rm K (.ref Cl11)=true)
  (p12:QT K Cl12 Str.empty=true)
  (q12:QU K Cl12=true)
  (r12:QZ K Cl12=true)
  (s12:QV K (.ref Cl12) "__setattr__"=some (some (.builtin "object.__setattr__")))
  (o12:QV K (.ref Cl12) "__init__"=some (some (.builtin "object.__init__")))
  (m12:Rc K Cl12=true)
  (kp12:Rm K (.ref Cl12)=true)
  (vsg:RB K (.builtin "object.__class__") "__get__"=some (some (.builtin "getset_descriptor.__get__")))
  (vtk:RC K (.builtin "object.__class__")=some true)
  (vf8:QV K (.ref Cl8) "__class__"=some (some (.builtin "object.__class__")))
  (vm8:RD K Cl8 (.type "object")=some true)
  (vf9:QV K (.ref Cl9) "__class__"=some (some (.builtin "object.__class__")))
  (vm9:RD K Cl9 (.type "object")=some true)
  (vf10:QV K (.ref Cl10) "__class__"=some (some (.builtin "object.__class__")))
  (vm10:RD K Cl10 (.type "object")=some true)
  (vt8:Rf K (.ref Cl8)=some (.type "type"))
  (vi8:Rz K (.ref Cl8) (.type "type")=some true)
  (yy8_8:RE K (.ref Cl8) Cl8=true)
  (vs8_10:RA K (.ref Cl10) (.ref Cl8)=some false)
  (vn8_10:Cl10≠Cl8)
  (vs8_9:RA K (.ref Cl9) (.ref Cl8)=some false)
  (vn8_9:Cl9≠Cl8)
  (vt9:Rf K (.ref Cl9)=some (.type "type"))
  (vi9:Rz K (.ref Cl9) (.type "type")=some true)
  (yy9_9:RE K (.ref Cl9) Cl9=true)
  (vs9_10:RA K (.ref Cl10) (.ref Cl9)=some false)
  (vn9_10:Cl10≠Cl9)
  (vs9_8:RA K (.ref Cl8) (.ref Cl9)=some false)
  (vn9_8:Cl8≠Cl9)
  (xa0:Ru K Su "NoText"=some (some (.ref Xl0)))
  (xa1:Ru K Su "GlassError"=some (some (.ref Xl1)))
  (xa2:Ru K Su "NoForm"=some (some (.ref Xl2)))
  (xa3:Ru K Su "NoKind"=some (some (.ref Xl3)))
  (xa4:Ru K Su "Twice"=some (some (.ref Xl4)))
  (xe0:KL K Xl0 none=true)
  (xsg:RB K (.builtin "object.__class__") "__get__"=some (some (.builtin "getset_descriptor.__get__")))
  (xtk:RC K (.builtin "object.__class__")=some true)
  (xg0:QV K (.ref Xl0) "__getattribute__"=some (some (.builtin "BaseException.__getattribute__")))
  (xn0:QV K (.ref Xl0) "__getattr__"=some none)
  (xf0:QV K (.ref Xl0) "__class__"=some (some (.builtin "object.__class__")))
  (xb0:RD K Xl0 (.type "BaseException")=some true)
  (xo0:RD K Xl0 (.type "object")=some true)
  (xt0:Rf K (.ref Xl0)=some (.type "type"))
  (xo1:RD K Xl1 (.type "object")=some true)
  (xt1:Rf K (.ref Xl1)=some (.type "type"))
  (xo2:RD K Xl2 (.type "object")=some true)
  (xt2:Rf K (.ref Xl2)=some (.type "type"))
  (xo3:RD K Xl3 (.type "object")=some true)
  (xt3:Rf K (.ref Xl3)=some (.type "type"))
  (xo4:RD K Xl4 (.type "object")=some true)
  (xt4:Rf K (.ref Xl4)=some (.type "type"))
  (xw1:RA K (.ref Xl1) (.type "BaseException")=some true)
  (xm1_0:RA K (.ref Xl0) (.ref Xl1)=some true)
  (xk0_0:RA K (.ref Xl0) (.ref Xl0)=some true)
  (xk2_0:RA K (.ref Xl0) (.ref Xl2)=some false)
  (vnx2_0:Xl0≠Xl2)
  (xk3_0:RA K (.ref Xl0) (.ref Xl3)=some false)
  (vnx3_0:Xl0≠Xl3)
  (xk4_0:RA K (.ref Xl0) (.ref Xl4)=some false)
  (vnx4_0:Xl0≠Xl4)
  (xv_ValueError_0:RA K (.ref Xl0) (.type "ValueError")=some true)
  (dd0:KDs K [("written",top 20),("shown",top 49),("is_letters",top 12),("is_name",top 13),("read_name",top 62),("read_word",top 64),("read_number",top 63),("read_value",top 61),("read_values",top 60),("read_pair",top 55),("taken",top 52),("taken_until",top 53),("are_words",top 17),("has_parts",top 14),("is_word_kind",top 16),("is_whole",top 11),("is_number_kind",top 15),("made_sieve",top 59),("made_step",top 57),("read_keep",top 58),("read_step",top 56),("read_glass",top 54),("words_of",top 51),("read",top 50),("_law_refused",top 74),("_law_words",top 70),("_law_pick",top 67),("_law_number",top 69),("_law_name",top 68),("_law_step",top 71)])
  (dd1:KDs K [("_law_side",top 72),("_law_more",top 73),("_law_cell_at",top 66)])
  (zz:KZs K ["isinstance","str","tuple","len","all","int","zip","range","bool","list","reversed","ValueError","min","max"])
  (ke0:Ru K Su "MOST_LETTERS"=some (some (.int 8 tk0)))
  (ke1:Ru K Su "LETTERS"=some (some (.str "abcdefghijklmnopqrstuvwxyz" tk1)))
  (ke2:Ru K Su "MOST_FIGURES"=some (some (.int 60 tk2)))
  (ke3:Ru K Su "FIGURES"=some (some (.str "0123456789" tk3)))
  (ke4:Ru K Su "MOST_WORDS"=some (some (.int 12 tk4)))
  (ke5:Ru K Su "BRACKETS"=some (some (.str "()[]" tk5)))
  (da0:Ru K Su "PAIRS"=some (some (.ref dA0)))
  (dl0:K.lookup dA0=some {cls:=.type "dict",data:=.dict dE0 dP0})
  (dsx0:(dA0==sysModules)=false)
  (dex0:dE0.toList=([("join",dk0_0,dv0_0,[]),("gather",dk0_1,dv0_1,["name"])]:List (Str×Tok×Sg×List Str)).map (CC w))
  (dt0_0:K.lookup dv0_0=some ⟨.type "tuple",do0_0,.seq di0_0 dn0_0,dz0_0⟩)
  (dxx0_0:di0_0.toList.map my=([]:ah).map (λx=>some (V.str x)))
  (dt0_1:K.lookup dv0_1=some ⟨.type "tuple",do0_1,.seq di0_1 dn0_1,dz0_1⟩)
  (dxx0_1:di0_1.toList.map my=(["name"]:ah).map (λx=>some (V.str x)))
  (da1:Ru K Su "STEPS"=some (some (.ref dA1)))
  (dl1:K.lookup dA1=some {cls:=.type "dict",data:=.dict dE1 dP1})
  (dsx1:(dA1==sysModules)=false)
  (dex1:dE1.toList=([("rename",dk1_0,dv1_0,["name","name"]),("part",dk1_1,dv1_1,["name","number","name","name"]),("fuse",dk1_2,dv1_2,["name","name","number","name"]),("drop",dk1_3,dv1_3,["name","value"]),("sieve",dk1_4,dv1_4,["name","number","number"]),("nest",dk1_5,dv1_5,["number","name"]),("unnest",dk1_6,dv1_6,["name"])]:List (Str×Tok×Sg×List Str)).map (CC w))
  (dt1_0:K.lookup dv1_0=some ⟨.type "tuple",do1_0,.seq di1_0 dn1_0,dz1_0⟩)
  (dxx1_0:di1_0.toList.map my=(["name","name"]:ah).map (λx=>some (V.str x)))
  (dt1_1:K.lookup dv1_1=some ⟨.type "tuple",do1_1,.seq di1_1 dn1_1,dz1_1⟩)
  (dxx1_1:di1_1.toList.map my=(["name","number","name","name"]:ah).map (λx=>some (V.str x)))
  (dt1_2:K.lookup dv1_2=some ⟨.type "tuple",do1_2,.seq di1_2 dn1_2,dz1_2⟩)
  (dxx1_2:di1_2.toList.map my=(["name","name","number","name"]:ah).map (λx=>some (V.str x)))
  (dt1_3:K.lookup dv1_3=some ⟨.type "tuple",do1_3,.seq di1_3 dn1_3,dz1_3⟩)
  (dxx1_3:di1_3.toList.map my=(["name","value"]:ah).map (λx=>some (V.str x)))
  (dt1_4:K.lookup dv1_4=some ⟨.type "tuple",do1_4,.seq di1_4 dn1_4,dz1_4⟩)
  (dxx1_4:di1_4.toList.map my=(["name","number","number"]:ah).map (λx=>some (V.str x)))
  (dt1_5:K.lookup dv1_5=some ⟨.type "tuple",do1_5,.seq di1_5 dn1_5,dz1_5⟩)
  (dxx1_5:di1_5.toList.map my=(["number","name"]:ah).map (λx=>some (V.str x)))
  (dt1_6:K.lookup dv1_6=some ⟨.type "tuple",do1_6,.seq di1_6 dn1_6,dz1_6⟩)
  (dxx1_6:di1_6.toList.map my=(["name"]:ah).map (λx=>some (V.str x))):
  ∃fd:Te,(∀(s:Sj)(v:Se),Tf s fd ⟨[v],[]⟩ [("_law_script",v)])/\∀base:Sr,K.In base->base.Ns Su mg->fG l.prog w K mg base (gB l.prog w) 24 fa fd ["_law_script"] (yr K 1 (au mL 1 10)):=by
 have e:=hfa.symm.trans (RL X G a10);cases e;have c_MOST_LETTERS:∃t,mg "MOST_LETTERS"=some (.int 8 t):=⟨_,RL X G ke0⟩
 have c_LETTERS:∃t,mg "LETTERS"=some (.str "abcdefghijklmnopqrstuvwxyz" t):=⟨_,RL X G ke1⟩
 have c_MOST_FIGURES:∃t,mg "MOST_FIGURES"=some (.int 60 t):=⟨_,RL X G ke2⟩
 have c_FIGURES:∃t,mg "FIGURES"=some (.str "0123456789" t):=⟨_,RL X G ke3⟩
 have c_MOST_WORDS:∃t,mg "MOST_WORDS"=some (.int 12 t):=⟨_,RL X G ke4⟩
 have c_BRACKETS:∃t,mg "BRACKETS"=some (.str "()[]" t):=⟨_,RL X G ke5⟩
 have KD_PAIRS:zm l.prog w K mg "PAIRS" gd:=zE (L:=([("join",dk0_0,dv0_0,[]),("gather",dk0_1,dv0_1,["name"])]:List (Str×Tok×Sg×List Str))) (RL X G da0) dsx0 dl0 dex0 ⟨gw dt0_0 dxx0_0 rfl,gw dt0_1 dxx0_1 rfl,trivial⟩ (jf rfl);have KD_STEPS:zm l.prog w K mg "STEPS" ib:=zE (L:=([("rename",dk1_0,dv1_0,["name","name"]),("part",dk1_1,dv1_1,["name","number","name","name"]),("fuse",dk1_2,dv1_2,["name","name","number","name"]),("drop",dk1_3,dv1_3,["name","value"]),("sieve",dk1_4,dv1_4,["name","number","number"]),("nest",dk1_5,dv1_5,["number","name"]),("unnest",dk1_6,dv1_6,["name"])]:List (Str×Tok×Sg×List Str))) (RL X G da1) dsx1 dl1 dex1 ⟨gw dt1_0 dxx1_0 rfl,gw dt1_1 dxx1_1 rfl,gw dt1_2 dxx1_2 rfl,gw dt1_3 dxx1_3 rfl,gw dt1_4 dxx1_4 rfl,gw dt1_5 dxx1_5 rfl,gw dt1_6 dxx1_6 rfl,trivial⟩ (jf rfl);have F0:=b8 (st:=(inClass (top 19) 0)) l0 c0 k0;have F1:=b8 (st:=(inClass (top 22) 1)) l1 c1 k1;have F2:=b8 (st:=(inClass (top 25) 0)) l2 c2 k2;have F3:=b8 (st:=(inClass (top 27) 1)) l3 c3 k3;have F4:=b8 (st:=(inClass (top 34) 1)) l4 c4 k4;have F5:=b8 (st:=(inClass (top 35) 1)) l5 c5 k5;have F6:=b8 (st:=(inClass (top 37) 1)) l6 c6 k6;have F7:=b8 (st:=(inClass (top 38) 1)) l7 c7 k7;have F8:=b8 (st:=(inClass (top 40) 1)) l8 c8 k8;have F9:=b8 (st:=(inClass (top 42) 1)) l9 c9 k9;have F10:=b8 (st:=(top 75)) l10 c10 k10;have F11:=b8 (st:=(inClass (top 27) 0)) l11 c11 k11;have b11:=F11.binds (ps:=["self","name"]) λ_ _ _ _ _ _ us hl=>by obtain⟨u0,u1,rfl⟩:=Bv hl;rfl
 have F12:=b8 (st:=(inClass (top 42) 0)) l12 c12 k12;have b12:=F12.binds (ps:=["self","name","kind"]) λ_ _ _ _ _ _ us hl=>by obtain⟨u0,u1,u2,rfl⟩:=vf hl;rfl
 have F13:=b8 (st:=(inClass (top 40) 0)) l13 c13 k13;have b13:=F13.binds (ps:=["self","old","new"]) λ_ _ _ _ _ _ us hl=>by obtain⟨u0,u1,u2,rfl⟩:=vf hl;rfl
 have F14:=b8 (st:=(inClass (top 37) 0)) l14 c14 k14;have b14:=F14.binds (ps:=["self","name","by","quotient","rest"]) λ_ _ _ _ _ _ us hl=>by obtain⟨u0,u1,u2,u3,u4,rfl⟩:=Jy hl;rfl
 have F15:=b8 (st:=(inClass (top 38) 0)) l15 c15 k15;have b15:=F15.binds (ps:=["self","quotient","rest","by","name"]) λ_ _ _ _ _ _ us hl=>by obtain⟨u0,u1,u2,u3,u4,rfl⟩:=Jy hl;rfl
 have F16:=b8 (st:=(inClass (top 22) 0)) l16 c16 k16;have b16:=F16.binds (ps:=["self","name","value"]) λ_ _ _ _ _ _ us hl=>by obtain⟨u0,u1,u2,rfl⟩:=vf hl;rfl
 have F17:=b8 (st:=(inClass (top 34) 0)) l17 c17 k17;have b17:=F17.binds (ps:=["self","many","name"]) λ_ _ _ _ _ _ us hl=>by obtain⟨u0,u1,u2,rfl⟩:=vf hl;rfl
 have F18:=b8 (st:=(inClass (top 35) 0)) l18 c18 k18;have b18:=F18.binds (ps:=["self","name"]) λ_ _ _ _ _ _ us hl=>by obtain⟨u0,u1,rfl⟩:=Bv hl;rfl
 have F19:=b8 (st:=(inClass (top 31) 0)) l19 c19 k19;have b19:=F19.binds (ps:=["self","glass","step"]) λ_ _ _ _ _ _ us hl=>by obtain⟨u0,u1,u2,rfl⟩:=vf hl;rfl
 have F20:=b8 (st:=(inClass (top 32) 0)) l20 c20 k20;have b20:=F20.binds (ps:=["self","one","other","pair"]) λ_ _ _ _ _ _ us hl=>by obtain⟨u0,u1,u2,u3,rfl⟩:=Jb hl;rfl
 have F21:=b8 (st:=(inClass (top 30) 0)) l21 c21 k21;have b21:=F21.binds (ps:=["self","name"]) λ_ _ _ _ _ _ us hl=>by obtain⟨u0,u1,rfl⟩:=Bv hl;rfl
 have cl0:ik K Cl0:=⟨p0,q0,r0,s0⟩
 have cl1:ik K Cl1:=⟨p1,q1,r1,s1⟩
 have cl2:ik K Cl2:=⟨p2,q2,r2,s2⟩
 have cl3:ik K Cl3:=⟨p3,q3,r3,s3⟩
 have cl4:ik K Cl4:=⟨p4,q4,r4,s4⟩
 have cl5:ik K Cl5:=⟨p5,q5,r5,s5⟩
 have cl6:ik K Cl6:=⟨p6,q6,r6,s6⟩
 have cl7:ik K Cl7:=⟨p7,q7,r7,s7⟩
 have cl8:ik K Cl8:=⟨p8,q8,r8,s8⟩
 have cl9:ik K Cl9:=⟨p9,q9,r9,s9⟩
 have cl10:ik K Cl10:=⟨p10,q10,r10,s10⟩
 have cl11:ik K Cl11:=⟨p11,q11,r11,s11⟩
 have cl12:ik K Cl12:=⟨p12,q12,r12,s12⟩
 have pM:aQ K "value" ["Drop"]:=by
  intro c hc C hC;simp only[Qc,QE,or_false]at hc;rcases hc with rfl
  ·cases ao hC ac0;exact⟨cl0,n0_1⟩
 have rN:aQ K "name" ["Drop"]:=by
  intro c hc C hC;simp only[Qc,QE,or_false]at hc;rcases hc with rfl
  ·cases ao hC ac0;exact⟨cl0,n0_0⟩
 have oA:aQ K "name" ["Gather"]:=by
  intro c hc C hC;simp only[Qc,QE,or_false]at hc;rcases hc with rfl
  ·cases ao hC ac1;exact⟨cl1,n1_0⟩
 have rS:aQ K "name" ["Nest"]:=by
  intro c hc C hC;simp only[Qc,QE,or_false]at hc;rcases hc with rfl
  ·cases ao hC ac2;exact⟨cl2,n2_1⟩
 have rE:aQ K "many" ["Nest"]:=by
  intro c hc C hC;simp only[Qc,QE,or_false]at hc;rcases hc with rfl
  ·cases ao hC ac2;exact⟨cl2,n2_0⟩
 have o6:aQ K "name" ["Unnest"]:=by
  intro c hc C hC;simp only[Qc,QE,or_false]at hc;rcases hc with rfl
  ·cases ao hC ac3;exact⟨cl3,n3_0⟩
 have sK:aQ K "rest" ["Part"]:=by
  intro c hc C hC;simp only[Qc,QE,or_false]at hc;rcases hc with rfl
  ·cases ao hC ac4;exact⟨cl4,n4_3⟩
 have mI:aQ K "quotient" ["Part"]:=by
  intro c hc C hC;simp only[Qc,QE,or_false]at hc;rcases hc with rfl
  ·cases ao hC ac4;exact⟨cl4,n4_2⟩
 have vA:aQ K "by" ["Part"]:=by
  intro c hc C hC;simp only[Qc,QE,or_false]at hc;rcases hc with rfl
  ·cases ao hC ac4;exact⟨cl4,n4_1⟩
 have si:aQ K "name" ["Part"]:=by
  intro c hc C hC;simp only[Qc,QE,or_false]at hc;rcases hc with rfl
  ·cases ao hC ac4;exact⟨cl4,n4_0⟩
 have qV:aQ K "name" ["Fuse"]:=by
  intro c hc C hC;simp only[Qc,QE,or_false]at hc;rcases hc with rfl
  ·cases ao hC ac5;exact⟨cl5,n5_3⟩
 have uU:aQ K "by" ["Fuse"]:=by
  intro c hc C hC;simp only[Qc,QE,or_false]at hc;rcases hc with rfl
  ·cases ao hC ac5;exact⟨cl5,n5_2⟩
 have rL:aQ K "rest" ["Fuse"]:=by
  intro c hc C hC;simp only[Qc,QE,or_false]at hc;rcases hc with rfl
  ·cases ao hC ac5;exact⟨cl5,n5_1⟩
 have lW:aQ K "quotient" ["Fuse"]:=by
  intro c hc C hC;simp only[Qc,QE,or_false]at hc;rcases hc with rfl
  ·cases ao hC ac5;exact⟨cl5,n5_0⟩
 have pW:aQ K "new" ["Rename"]:=by
  intro c hc C hC;simp only[Qc,QE,or_false]at hc;rcases hc with rfl
  ·cases ao hC ac6;exact⟨cl6,n6_1⟩
 have pN:aQ K "old" ["Rename"]:=by
  intro c hc C hC;simp only[Qc,QE,or_false]at hc;rcases hc with rfl
  ·cases ao hC ac6;exact⟨cl6,n6_0⟩
 have pG:aQ K "kind" ["Sieve"]:=by
  intro c hc C hC;simp only[Qc,QE,or_false]at hc;rcases hc with rfl
  ·cases ao hC ac7;exact⟨cl7,n7_1⟩
 have pO:aQ K "name" ["Sieve"]:=by
  intro c hc C hC;simp only[Qc,QE,or_false]at hc;rcases hc with rfl
  ·cases ao hC ac7;exact⟨cl7,n7_0⟩
 have sF:aQ K "step" ["Over"]:=by
  intro c hc C hC;simp only[Qc,QE,or_false]at hc;rcases hc with rfl
  ·cases ao hC ac8;exact⟨cl8,n8_1⟩
 have pE:aQ K "glass" ["Over"]:=by
  intro c hc C hC;simp only[Qc,QE,or_false]at hc;rcases hc with rfl
  ·cases ao hC ac8;exact⟨cl8,n8_0⟩
 have rG:aQ K "pair" ["Both"]:=by
  intro c hc C hC;simp only[Qc,QE,or_false]at hc;rcases hc with rfl
  ·cases ao hC ac9;exact⟨cl9,n9_2⟩
 have pK:aQ K "other" ["Both"]:=by
  intro c hc C hC;simp only[Qc,QE,or_false]at hc;rcases hc with rfl
  ·cases ao hC ac9;exact⟨cl9,n9_1⟩
 have sP:aQ K "one" ["Both"]:=by
  intro c hc C hC;simp only[Qc,QE,or_false]at hc;rcases hc with rfl
  ·cases ao hC ac9;exact⟨cl9,n9_0⟩
 have bR:aQ K "name" ["Drop","Gather","Leaf","Nest","Unnest","Part","Fuse","Sieve"]:=by
  intro c hc C hC;simp only[Qc,QE,or_false]at hc;rcases hc with rfl|rfl|rfl|rfl|rfl|rfl|rfl|rfl
  ·cases ao hC ac0;exact⟨cl0,n0_0⟩
  ·cases ao hC ac1;exact⟨cl1,n1_0⟩
  ·cases ao hC ac10;exact⟨cl10,n10_0⟩
  ·cases ao hC ac2;exact⟨cl2,n2_1⟩
  ·cases ao hC ac3;exact⟨cl3,n3_0⟩
  ·cases ao hC ac4;exact⟨cl4,n4_0⟩
  ·cases ao hC ac5;exact⟨cl5,n5_3⟩
  ·cases ao hC ac7;exact⟨cl7,n7_0⟩
 refine⟨Rp "law" "law" (il (top 75)) (cH (top 75)) (aj (top 75)) .none kV10 dc10 pm10 an10 cd10 ct10,λs v=>.of_eq rfl,λbase _ _=>?_⟩;have Y_Over:sY K mg "Over" ["Over"] ["Leaf","Both"]:=by
  refine⟨_,RL X G ac8,λc hc D hD=>?_,λc hc D hD=>?_⟩<;>simp only[Qc,QE,or_false]at hc
  ·rcases hc with rfl;cases ao hD ac8;exact yy8_8
  ·rcases hc with rfl|rfl
   ·cases ao hD ac10;exact⟨cl10,⟨vn8_10,(by obtain⟨cd,hc,_⟩:=Rb cl8.hd;rw[hc];rfl),vt8,vi8,vs8_10,vf10,vsg,vtk,vm10⟩⟩
   ·cases ao hD ac9;exact⟨cl9,⟨vn8_9,(by obtain⟨cd,hc,_⟩:=Rb cl8.hd;rw[hc];rfl),vt8,vi8,vs8_9,vf9,vsg,vtk,vm9⟩⟩
 have Y_Both:sY K mg "Both" ["Both"] ["Leaf","Over"]:=by
  refine⟨_,RL X G ac9,λc hc D hD=>?_,λc hc D hD=>?_⟩<;>simp only[Qc,QE,or_false]at hc
  ·rcases hc with rfl;cases ao hD ac9;exact yy9_9
  ·rcases hc with rfl|rfl
   ·cases ao hD ac10;exact⟨cl10,⟨vn9_10,(by obtain⟨cd,hc,_⟩:=Rb cl9.hd;rw[hc];rfl),vt9,vi9,vs9_10,vf10,vsg,vtk,vm10⟩⟩
   ·cases ao hD ac8;exact⟨cl8,⟨vn9_8,(by obtain⟨cd,hc,_⟩:=Rb cl9.hd;rw[hc];rfl),vt9,vi9,vs9_8,vf8,vsg,vtk,vm8⟩⟩
 have E_NoText:ExcAt K mg "NoText":=⟨_,xa0,RL X G xa0,xe0⟩
 have xK0:ya K Xl0:=⟨xg0,xn0,xf0,xsg,xtk,xo0,xb0⟩
 have T_GlassError:ul K mg "GlassError" ["NoText"]:=Bk (RL X G xa1) (by
  intro c hc;simp only[Qc,QE,or_false]at hc;rcases hc with rfl
  ·exact⟨_,xa0,EV xw1 xm1_0 xo1 xt1⟩)
 have zr:lu K mg "NoText" [("NoText",true)]:=⟨_,RL X G xa0,hW xa0 xK0 (ny xk0_0 xo0 xt0 (.inl rfl)) jc⟩
 have AZ:lu K mg "NoForm" [("NoText",false)]:=⟨_,RL X G xa2,hW xa0 xK0 (ny xk2_0 xo2 xt2 (.inr vnx2_0)) jc⟩
 have zZ:lu K mg "NoKind" [("NoText",false)]:=⟨_,RL X G xa3,hW xa0 xK0 (ny xk3_0 xo3 xt3 (.inr vnx3_0)) jc⟩
 have DM:lu K mg "Twice" [("NoText",false)]:=⟨_,RL X G xa4,hW xa0 xK0 (ny xk4_0 xo4 xt4 (.inr vnx4_0)) jc⟩
 have V_ValueError:uA K (.type "ValueError") [("NoText",true)]:=hW xa0 xK0 (Hh xv_ValueError_0) (jc);have N_Join:tW K mg "Join":=⟨_,ac12,⟨m12,o12,kp12⟩,RL X G ac12⟩
 have N_Step:tW K mg "Step":=⟨_,ac11,⟨m11,o11,kp11⟩,RL X G ac11⟩
 have BL:=uf (P:=l.prog) (w:=w) (base:=base) ac1 ⟨m1,a11,i11,kp1⟩ cl1 (by intro g hg;simp only[Qc,QE,or_false]at hg;rcases hg with rfl;exact n1_0) F11 b11 (RL X G ac1);have Eg:=vc (P:=l.prog) (w:=w) (base:=base) ac7 ⟨m7,a12,i12,kp7⟩ cl7 (by intro g hg;simp only[Qc,QE,or_false]at hg;rcases hg with rfl|rfl<;>first|exact n7_0|exact n7_1) F12 b12 (RL X G ac7);have CD:=uk (P:=l.prog) (w:=w) (base:=base) ac6 ⟨m6,a13,i13,kp6⟩ cl6 (by intro g hg;simp only[Qc,QE,or_false]at hg;rcases hg with rfl|rfl<;>first|exact n6_0|exact n6_1) F13 b13 (RL X G ac6);have Ie:=yj (P:=l.prog) (w:=w) (base:=base) ac4 ⟨m4,a14,i14,kp4⟩ cl4 (by intro g hg;simp only[Qc,QE,or_false]at hg;rcases hg with rfl|rfl|rfl|rfl<;>first|exact n4_0|exact n4_1|exact n4_2|exact n4_3) F14 b14 (RL X G ac4);have HE:=xN (P:=l.prog) (w:=w) (base:=base) ac5 ⟨m5,a15,i15,kp5⟩ cl5 (by intro g hg;simp only[Qc,QE,or_false]at hg;rcases hg with rfl|rfl|rfl|rfl<;>first|exact n5_0|exact n5_1|exact n5_2|exact n5_3) F15 b15 (RL X G ac5);have GW:=zi (P:=l.prog) (w:=w) (base:=base) ac0 ⟨m0,a16,i16,kp0⟩ cl0 (by intro g hg;simp only[Qc,QE,or_false]at hg;rcases hg with rfl|rfl<;>first|exact n0_0|exact n0_1) F16 b16 (RL X G ac0);have IH:=xO (P:=l.prog) (w:=w) (base:=base) ac2 ⟨m2,a17,i17,kp2⟩ cl2 (by intro g hg;simp only[Qc,QE,or_false]at hg;rcases hg with rfl|rfl<;>first|exact n2_0|exact n2_1) F17 b17 (RL X G ac2);have Cg:=ue (P:=l.prog) (w:=w) (base:=base) ac3 ⟨m3,a18,i18,kp3⟩ cl3 (by intro g hg;simp only[Qc,QE,or_false]at hg;rcases hg with rfl;exact n3_0) F18 b18 (RL X G ac3);have HL:=yn (P:=l.prog) (w:=w) (base:=base) ac8 ⟨m8,a19,i19,kp8⟩ cl8 (by intro g hg;simp only[Qc,QE,or_false]at hg;rcases hg with rfl|rfl<;>first|exact n8_0|exact n8_1) F19 b19 (RL X G ac8);have HC:=xI (P:=l.prog) (w:=w) (base:=base) ac9 ⟨m9,a20,i20,kp9⟩ cl9 (by intro g hg;simp only[Qc,QE,or_false]at hg;rcases hg with rfl|rfl|rfl<;>first|exact n9_0|exact n9_1|exact n9_2) F20 b20 (RL X G ac9);have GJ:=xQ (P:=l.prog) (w:=w) (base:=base) ac10 ⟨m10,a21,i21,kp10⟩ cl10 (by intro g hg;simp only[Qc,QE,or_false]at hg;rcases hg with rfl;exact n10_0) F21 b21 (RL X G ac10)
 let u:U:=⟨l.prog,w,K,mg,base,(0:Nat),(0:Nat)⟩
 have q0:Q0 u:=⟨⟨⟨⟨⟨⟨⟨⟨⟨⟨⟨⟨⟨⟨⟨⟨⟨⟨⟨⟨⟨⟨⟨⟨⟨⟨⟨⟨⟨⟨⟨⟨⟨⟨⟨⟨⟨⟨⟨⟨⟨⟨⟨⟨⟨⟨⟨⟨⟨⟨⟨⟨⟨⟨⟨⟨⟨⟨⟨⟨⟨⟨⟨⟨(Ku.of X G (Ku.of X G (Zs.of X G zz) dd0) dd1),c_MOST_LETTERS⟩,c_LETTERS⟩,c_MOST_FIGURES⟩,c_FIGURES⟩,c_MOST_WORDS⟩,c_BRACKETS⟩,KD_PAIRS⟩,KD_STEPS⟩,pM⟩,rN⟩,oA⟩,rS⟩,rE⟩,o6⟩,sK⟩,mI⟩,vA⟩,si⟩,qV⟩,uU⟩,rL⟩,lW⟩,pW⟩,pN⟩,pG⟩,pO⟩,sF⟩,pE⟩,rG⟩,pK⟩,sP⟩,bR⟩,BL⟩,Eg⟩,CD⟩,Ie⟩,HE⟩,GW⟩,IH⟩,Cg⟩,HL⟩,HC⟩,GJ⟩,N_Join⟩,N_Step⟩,Y_Over⟩,Y_Both⟩,E_NoText⟩,T_GlassError⟩,zr⟩,AZ⟩,zZ⟩,DM⟩,V_ValueError⟩,⟨_,_,_,ac11,cl11,⟨a0,i0,k0⟩,F0⟩⟩,⟨_,_,_,ac0,cl0,⟨a1,i1,k1⟩,F1⟩⟩,⟨_,_,_,ac12,cl12,⟨a2,i2,k2⟩,F2⟩⟩,⟨_,_,_,ac1,cl1,⟨a3,i3,k3⟩,F3⟩⟩,⟨_,_,_,ac2,cl2,⟨a4,i4,k4⟩,F4⟩⟩,⟨_,_,_,ac3,cl3,⟨a5,i5,k5⟩,F5⟩⟩,⟨_,_,_,ac4,cl4,⟨a6,i6,k6⟩,F6⟩⟩,⟨_,_,_,ac5,cl5,⟨a7,i7,k7⟩,F7⟩⟩,⟨_,_,_,ac6,cl6,⟨a8,i8,k8⟩,F8⟩⟩,⟨_,_,_,ac7,cl7,⟨a9,i9,k9⟩,F9⟩⟩
 exact JR (u:=u) F10 (ND (OD (N0 (OC (Nk (N1 (Od (N7 (Og (OB (Nq (NY (N4 (NU (NT (Ow (Nm (Oh (Nv (N8 (NQ (N5 (NB (Oq (e20 (Ox (NE (Nt (N9 (NP (NI (OA (N3 (Lf (e10 (e9 (e8 (e7 (e6 (e5 (e4 (e3 (e2 (e1 q0))))))))))))))))))))))))))))))))))))))))))))
theorem walk{l:Rt}{q:Sn}{loose:ah}{XP:(bg)->Sr->Prop}{YP:Sl->Sr->Prop}{d:DefRec}{K:Params->QR}(hn:l.most=some 63)(hdf:d.params.defaults=[])
  (hY:∀(w:Sl)(h:Sr),YP w h->(K w.params).In h)
  (F:∀ (w:Sl) (mg:bg) (fa:Sg) (h:Sr),(K w.params).In h->h.Ns Su mg->mg d.name=some (.ref fa) ->
   ∃fd:Te,(∀(s:Sj)(u:Se),Tf s fd ⟨[u],[]⟩ [("_law_script",u)])/\∀base:Sr,(K w.params).In base->base.Ns Su mg->fG l.prog w (K w.params) mg base (gB l.prog w) 24 fa fd ["_law_script"] (yr (K w.params) 1 (au mL 1 10)))
  (math:∀ns:List Int,ns.length<=63->au mL 1 10 [.lst (ns.map .int)]=.ok (.bl true)):PySem.W.WalkO q loose XP YP l.row.toRowW d [] (λf vs=>PySem.call f vs):=
 L2.KP (n:=63) (k:=24) (x:="_law_script") (CX:=λw=>gB l.prog w) (sp:=λw=>yr (K w.params) 1 (au mL 1 10)) hn (by decide) hdf ⟨rfl,by decide,by decide⟩ hY F
  (λw H a ns hl _ hS=>⟨[],[.lst (ns.map .int)],rfl,⟨trivial,λa h=>nomatch h⟩,by rw[ED];exact bh.mpr ⟨.ref a,[],rfl,cw.mpr ⟨a,_,rfl,hS,qy ns⟩,cC.mpr rfl⟩,by rw[math ns hl];exact λv H' _ d=>iz.mp d⟩) λ_ _ _ _ _ z=>by obtain⟨_,_,_,_,_,_,_,_,_,_,_,_,_,_,z⟩:=z;exact z
end Tk90
namespace Tk90
open PySem PySem.Spec L2 TG TD
local macro_rules|`(‹$x›)=>do if x.raw.isOfKind `num then Lean.Macro.throwUnsupported else `(some (S.val $x))
local macro_rules
 |`(tactic| simp! only[$xs,*])=>`(tactic| simp only[kB,wu,fJ,wA,pZ,jR,ge_0,EX,qT,DA,sJ,nz,sN,rW,CT,Dq,EY,EH,Fj,rF,rA,wg,ly,mY,qN,ng,wo,qQ,rl,ni,su,lM,rR,lD,lC,jC,jW,sB,mX,jB,nU,kM,nD,nF,cY,kH,kL,jw,jG,lj,jP,nN,nW,EW,wG,CW,Ek,C0,sv,nB,rK,nI,nQ,DK,Ep,QB,QC,O5,Py,PD,P0,K0,env0,List.replicate,Qn,Pa,Qy,Nat.reduceAdd,Nat.reduceSub,O3,Qp,rH,rn,xh,qS,sM,qU,jM,sj,xf,wr,wD,rY,kU,lw,kP,kZ,jk,lq,ow,wX,xc,v6,wF,wc,kK,li,iK,iy,qR,jE,iB,iG,iw,sy,rQ,iI,iE,kA,kS,nR,nJ,kR,nn,ra,sA,nX,nh,gN,if_true,if_false,Qr,QD,PC,$xs,*])
noncomputable abbrev ay(x:Str):bx:=x.cps.toList
noncomputable def mk(l:bx):Str:=⟨l.toArray⟩
theorem og(x:Str):mk (ay x)=x:=by cases x;rfl
theorem gU(l:bx):ay (mk l)=l:=by unfold ay mk;simp
theorem gL{x y:Str}(h:ay x=ay y):x=y:=by rw[<-og x,<-og y,h]
theorem aN(x y:Str):ay (x++y)=ay x++ay y:=by
 show(x.cps++y.cps).toList=_;rw[Array.toList_append]
theorem aH(x:Str):x.length=(ay x).length:=by unfold ay Str.length;simp
noncomputable def rp(c:Nat)(z:bx)(l:bx):bx:=l.flatMap λk=>if k=c then z else[k]
theorem lR(c:Nat)(z a b:bx):rp c z (a++b)=rp c z a++rp c z b:=by unfold rp;rw[QF]
theorem rX(c:Nat)(z:bx):∀l:bx,c∉l->rp c z l=l
 |[],_=>rfl
 |k::r,h=>by
  have h1:¬k=c:=λe=>h (e ▸ OS ..);have h2:c∉r:=λm=>h (OT _ m);have ih:=rX c z r h2;unfold rp at ih ⊢;rw[QG,if_neg h1,ih];rfl
theorem wL(c:Nat)(z:Str):∀parts:ah,(∀p∈parts,c∉ay p)->rp c (ay z) (ay (Str.join ⟨#[c]⟩ parts))=ay (Str.join z parts)
 |[],_=>rfl
 |[p],h=>rX c _ _ (h p (List.mem_singleton.mpr rfl))
 |p::q::r,h=>by
  have ih:=wL c z (q::r) λa ha=>h a (OT _ ha);show rp c (ay z) (ay (p++⟨#[c]⟩++Str.join ⟨#[c]⟩ (q::r)))=ay (p++z++Str.join z (q::r));rw[aN,aN,aN,aN,lR,lR,ih,rX c _ _ (h p (OS ..))];have e:rp c (ay z) (ay ⟨#[c]⟩)=ay z:=by
   show rp c (ay z) [c]=_;unfold rp;simp
  rw[e]
theorem uX(x z:Str)(c:Nat):ay (Txt.replace x ⟨#[c]⟩ z)=rp c (ay z) (ay x):=by
 rw[StrLaws.replace_one,<-wL c z _ (StrLaws.split_free x c),StrLaws.join_split]
noncomputable def sp(B:bx)(l:bx):bx:=l.flatMap λk=>if B.contains k then[32,k,32]else[k]
theorem qq(B a b:bx):sp B (a++b)=sp B a++sp B b:=by unfold sp;rw[QF]
theorem GI(l:bx):sp [] l=l:=by
 unfold sp
 induction l with
 |nil=>rfl
 |cons k r ih=>rw[QG,ih];rfl
theorem AF(B:bx)(l:bx):(sp B l).length<=3*l.length:=by
 unfold sp
 induction l with
 |nil=>exact OZ _
 |cons k r ih=>
  rw[QG,Pp,O3];split
  ·show 3+_<=_;omega
  ·show 1+_<=_;omega
theorem JX{B:bx}{c:Nat}(hc:B.contains c=false)(h32:c≠32)(l:bx):rp c [32,c,32] (sp B l)=sp (c::B) l:=by
 induction l with
 |nil=>rfl
 |cons k r ih=>
  have e1:sp B (k::r)=(if B.contains k then[32,k,32]else[k])++sp B r:=rfl;have e2:sp (c::B) (k::r)=(if(c::B).contains k then[32,k,32]else[k])++sp (c::B) r:=rfl;rw[e1,e2,lR,ih];congr 1;by_cases hk:k=c
  ·subst hk;rw[hc,if_neg OX,if_pos (by simp)];unfold rp;simp
  ·have hz:(c::B).contains k=B.contains k:=by
    rw[Qj]
    have:(k==c)=false:=(by simpa using hk);rw[this,Bool.false_or]
   rw[hz];split
   ·unfold rp;simp[hk,Ne.symm h32]
   ·unfold rp;simp[hk]
noncomputable abbrev BR:bx:=[93,91,41,40]
theorem Fg(c:Nat):ay (rm ⟨#[c]⟩)=[32,c,32]:=by
 unfold rm;rw[aN,aN];have e:ay (" ":Str)=[32]:=by decide
 rw[e];rfl
theorem jO{B:bx}{c:Nat}{cs:bx}{y:Str}(hc:B.contains c=false)(h32:c≠32)(h:y.length<=30000):iT (c::cs) (mk (sp B (ay y)))=iT cs (mk (sp (c::B) (ay y))):=by
 have hl:(mk (sp B (ay y))).length<=100000:=by
  rw[aH,gU]
  have:=AF B (ay y)
  rw[<-aH]at this;omega
 have e:Txt.replace (mk (sp B (ay y))) ⟨#[c]⟩ (rm ⟨#[c]⟩)=mk (sp (c::B) (ay y)):=gL (by rw[uX,Fg,gU,JX hc h32,gU]);show(if(mk (sp B (ay y))).length<=100000 then iT cs (Txt.replace (mk (sp B (ay y))) ⟨#[c]⟩ (rm ⟨#[c]⟩))else none)=_;rw[if_pos hl,e]
theorem Nj:("()[]":Str).cps.toList=[40,41,91,93]:=by decide
theorem Dy{y:Str}(h:y.length<=30000):iT ("()[]":Str).cps.toList y=some (mk (sp BR (ay y))):=by
 rw[Nj];have e:y=mk (sp [] (ay y)):=by rw[GI,og]
 conv=>lhs;rw[e]
 rw[jO (by decide) (by decide) h,jO (by decide) (by decide) h,jO (by decide) (by decide) h,jO (by decide) (by decide) h];rfl
noncomputable abbrev Sc:=List Str×Str
noncomputable def flush(st:Sc):ah:=if st.2.length=0 then st.1 else st.1++[st.2]
noncomputable def sc(st:Sc)(l:bx):Sc:=l.foldl KWd.step st
theorem qo(st:Sc)(a b:bx):sc st (a++b)=sc (sc st a) b:=List.foldl_append
theorem Jc:Unicode.isSpace 32=true:=by decide
theorem BA(st:Sc)(l:bx):sc st (32::l)=sc (flush st,Str.empty) l\/(st.2.length=0/\sc st (32::l)=sc st l):=by
 show sc (KWd.step st 32) l=_\/_;unfold KWd.step;rw[if_pos Jc];by_cases h:st.2.length=0
 ·right;refine⟨h,?_⟩;show sc (KWd.step st 32) l=_;unfold KWd.step;rw[if_pos Jc,if_pos h]
 ·left;rw[if_neg h];unfold flush;rw[if_neg h]
theorem vC{x:Str}(h:x.length=0):x=Str.empty:=gL (by
 rw[aH]at h;rw[List.length_eq_zero_iff.mp h];rfl)
theorem zR(st:Sc)(l:bx):sc st (32::l)=sc (flush st,Str.empty) l:=by
 rcases BA st l with h|⟨h,e⟩
 ·exact h
 ·rw[e]
  have:(flush st,Str.empty)=st:=by
   obtain⟨a,b⟩:=st;have hb:=vC h;subst hb;unfold flush;rw[if_pos h]
  rw[this]
structure CL(x:Str):Prop where
 ne:ay x≠[]
 sg:∀c∈ay x,Unicode.isSpace c=false/\BR.contains c=false
theorem C4{x:bx}(h:∀c∈x,BR.contains c=false):sp BR x=x:=by
 induction x with
 |nil=>rfl
 |cons c r ih=>
  have e:sp BR (c::r)=(if BR.contains c then[32,c,32]else[c])++sp BR r:=rfl;rw[e,h c OS,if_neg OX,ih λd hd=>h d (OT _ hd)];rfl
theorem wR:∀{x:bx}{ws:ah}{r:Str},(∀c∈x,Unicode.isSpace c=false)->sc (ws,r) x=(ws,r++mk x)
 |[],ws,r,_=>by
  show(ws,r)=_
  have:r++mk []=r:=gL (by rw[aN,gU,Pa])
  rw[this]
 |c::x,ws,r,h=>by
  show sc (KWd.step (ws,r) c) x=_;unfold KWd.step;rw[h c OS,if_neg OX,wR λd hd=>h d (OT _ hd)]
  have:r++⟨#[c]⟩++mk x=r++mk (c::x):=gL (by rw[aN,aN,aN,gU,gU,Qa];rfl)
  rw[this]
noncomputable def Pc(l:bx)(ws:ah):Prop:=∀us:ah,flush (sc (us,Str.empty) (sp BR l))=us++ws
theorem ri{x:Str}(h:CL x):Pc (ay x) [x]:=λus=>by
 rw[C4 λc hc=>(h.sg c hc).2,wR λc hc=>(h.sg c hc).1];have e:Str.empty++mk (ay x)=x:=by rw[og];exact gL (by rw[aN];rfl)
 rw[e];unfold flush;rw[if_neg];rw[aH];intro z;exact h.ne (List.length_eq_zero_iff.mp z)
theorem qM{a b:bx}{ws vs:ah}(h:Pc a ws)(k:Pc b vs):Pc (a++32::b) (ws++vs):=λus=>by
 rw[qq];have e:sp BR (32::b)=32::sp BR b:=rfl;rw[e,qo,zR,h us,k,Qa]
theorem Gc{c d:Nat}{a:bx}{ws:ah}(hc:BR.contains c=true)(hd:BR.contains d=true)(nc:Unicode.isSpace c=false)(nd:Unicode.isSpace d=false)(h:Pc a ws):Pc (c::(a++[d])) (⟨#[c]⟩::(ws++[⟨#[d]⟩])):=λus=>by
 have e1:sp BR (c::(a++[d]))=[32,c,32]++(sp BR a++[32,d,32]):=by
  have z:sp BR (c::(a++[d]))=(if BR.contains c then[32,c,32]else[c])++sp BR (a++[d]):=rfl;rw[z,hc,if_pos rfl,qq];have z2:sp BR [d]=(if BR.contains d then[32,d,32]else[d])++[]:=rfl;rw[z2,hd,if_pos rfl];rfl
 have one:∀{u:Nat}{st:Sc}{l:bx},Unicode.isSpace u=false->sc st (32::u::32::l)=sc (flush st++[⟨#[u]⟩],Str.empty) l:=λ{u st l} hu=>by
  rw[zR];show sc (KWd.step (flush st,Str.empty) u) (32::l)=_;unfold KWd.step;rw[hu,if_neg OX,zR];have e:Str.empty++⟨#[u]⟩=(⟨#[u]⟩:Str):=gL (by rw[aN];rfl);rw[e];rfl
 rw[e1];show flush (sc (us,Str.empty) (32::c::32::(sp BR a++[32,d,32])))=_;rw[one nc,qo,one nd];have f0:flush (us,Str.empty)=us:=rfl;rw[f0,h];show flush (us++[⟨#[c]⟩]++ws++[⟨#[d]⟩],Str.empty)=_;show us++[⟨#[c]⟩]++ws++[⟨#[d]⟩]=_;simp
theorem Bc{y:Str}{ws:ah}(h:Pc (ay y) ws):Txt.words (mk (sp BR (ay y)))=ws:=by
 have e:KWd.scan (mk (sp BR (ay y)))=sc ([],Str.empty) (sp BR (ay y)):=by
  unfold KWd.scan sc
  have:(mk (sp BR (ay y))).cps.toList=sp BR (ay y):=gU _
  rw[this]
 have w:=KWd.words_of (x:=mk (sp BR (ay y))) (ws:=(sc ([],Str.empty) (sp BR (ay y))).1) (r:=(sc ([],Str.empty) (sp BR (ay y))).2) e;rw[w]
 have:=h []
 unfold flush at this;rw[P0]at this;exact this
theorem tZ{y:Str}{ws:ah}(hl:y.length<=30000)(h:Pc (ay y) ws):au fN 1 2 [.str y]=.ok (.lst (ws.map .str)):=by
 have e:(mk (sp BR (ay y))).length<=100000:=by
  rw[aH,gU]
  have:=AF BR (ay y)
  rw[<-aH]at this;omega
 show(match iT ("()[]":Str).cps.toList y with|some z=>_|none=>un)=_;rw[Dy hl];show km (rO (if(mk (sp BR (ay y))).length<=100000 then some (D.lst ((Txt.words (mk (sp BR (ay y)))).map .str))else none)) K0 _ .ok=_;rw[if_pos e,Bc h];rfl
section
variable{k:Ks}{ρ:ak}{i j:Nat}{F:sO}{f:FX}{d:D}{xs ys:List D}{A B:aS}{c:aX}{b:Bool}
theorem zX(h:F ρ=.ok (d,ys)):gr i j F k ρ=k.nx (setV i d (ρ.set j (some (.own (.lst ys))))):=by unfold gr;rw[h]
theorem zy(h:F ρ=.ok (d,ys))(e:ρ[j]?=some (some (.own (.lst xs)))):kO j F k ρ=.ok (.tup [d,.lst ys]):=by
 unfold kO;rw[h];exact gD e
theorem Aq(h:f ρ=.ok d)(e:ρ[j]?=some (some (.own (.lst xs)))):mJ j f k ρ=.ok (.tup [d,.lst xs]):=by
 unfold mJ;rw[h,fJ];exact gD e
theorem KY{u:List D->List D->Option (List D)}{fs:aC}{ds:List D}(e:ρ[i]?=some (some (.own (.lst xs))))(h:fs ρ=.ok ds)(hu:u xs ds=some ys):zn i u fs k ρ=k.nx (ρ.set i (some (.own (.lst ys)))):=by
 unfold zn;rw[e];show km (fs ρ) k ρ _=_;rw[h,fJ,hu];rfl
theorem yu(e:c ρ=.ok b):aq (fm c A aU) B k ρ=if b then A {k with nx:=B k} ρ else B k ρ:=by
 rw[cY,jw,e,fJ];rfl
theorem JT(e:ρ[j]?=some (some (.own (.lst xs)))):j4 i j A k ρ=A k (frz i ρ):=by unfold j4;rw[gD e]
end
theorem Bw(xs:List D)(x:D):zI (xs++[x])=.ok (x,xs):=by
 unfold zI;rw[List.getLast?_concat,List.dropLast_concat]
theorem Cu(xs:List D)(x:D):oy eX 1 1 [.lst (xs++[x])]=.ok (.tup [x,.lst xs]):=by
 have e:(xs++[x]).isEmpty=false:=by cases xs<;>rfl
 have e1:oH [0] (gk (bj (ae 0))) [some (.own (.lst (xs++[x])))]=.ok false:=by
  show Dt ((rO (some (!(xs++[x]).isEmpty))).bind λb=>.ok (!b))=_;rw[e];rfl
 show eX K0 [some (.own (.lst (xs++[x])))]=_;unfold eX;rw[yu e1,if_neg OX];exact zy (xs:=xs++[x]) ((gD rfl).trans (Bw xs x)) rfl
theorem fU{ρ:ak}{xs:List D}{x:D}(h:ρ[0]?=some (some (.own (.lst (xs++[x]))))):dP 0 (oy eX 1 1) af ρ=.ok (x,xs):=by
 unfold dP;rw[gD h];show dec (oy eX 1 1 [.lst (xs++[x])])=_;rw[Cu];rfl
noncomputable abbrev uW:aX:=fB (f2 xJ (ae 3) (ae 1))
noncomputable abbrev uB:aS:=aq (zn 2 tM (aa (ae 3) af)) (gr 3 0 (dP 0 (oy eX 1 1) af))
noncomputable def uE(l:List D)(e:Str)(acc:List D)(w:Str):ak:=[some (.own (.lst l)),‹.str e›,some (.own (.lst acc)),‹.str w›]
theorem Gy(l:List D)(e:Str)(acc:List D)(w:Str):uW (uE l e acc w)=.ok (!(w==e)):=by
 show(rO (xJ (.str w) (.str e))).bind (λd=>rO (KJ d))=_;rw[jk];rfl
theorem oQ(e:Str)(k:Ks):∀(ws:ah)(n:Nat)(rest acc:List D),ws.length<n->(∀w∈ws,w≠e)->acc.length+ws.length<=1000->∀(w0:Str)(ws0:ah),w0::ws0=ws++[e]->
  eW uW uB k n (uE (rest++(ws0.map D.str).reverse) e acc w0)=k.nx (uE rest e (acc++ws.map D.str) e)
 |[],n,rest,acc,hn,hw,hl,w0,ws0,h=>by
  obtain⟨rfl,rfl⟩:=List.cons.inj h;cases n with
  |zero=>exact absurd hn (Nat.not_lt_zero _)
  |succ n=>
   show km (uW _) k _ _=_;rw[Gy,beq_self_eq_true,fJ];show k.nx _=_;simp
 |w::ws,n,rest,acc,hn,hw,hl,w0,ws0,h=>by
  obtain⟨rfl,h2⟩:=List.cons.inj h;cases n with
  |zero=>exact absurd hn (Nat.not_lt_zero _)
  |succ n=>
   obtain⟨w1,ws1,h3⟩:∃w1 ws1,w1::ws1=ws++[e]:=by
    cases ws with
    |nil=>exact⟨e,[],rfl⟩
    |cons a b=>exact⟨a,b++[e],rfl⟩
   rw[O3]at hn hl;have ne:(w0==e)=false:=(by simpa using hw w0 OS);show km (uW _) k _ _=_;rw[Gy,ne,fJ];show uB _ _=_;have ha:tM acc [.str w0]=some (acc++[.str w0]):=by
    show(if small (acc.length+1)then some (acc++[D.str w0])else none)=_;rw[cB ‹0›];rfl
   unfold uB;rw[cY,KY (xs:=acc) (ds:=[.str w0]) rfl rfl ha];have h2:ws0=ws++[e]:=h2;have hx:rest++(ws0.map D.str).reverse=(rest++(ws1.map D.str).reverse)++[.str w1]:=by
    rw[h2,<-h3,O5,Pw,Qa]
   show gr 3 0 (dP 0 (oy eX 1 1) af) _ [some (.own (.lst (rest++(ws0.map D.str).reverse))),‹.str e›,some (.own (.lst (acc++[.str w0]))),‹.str w0›]=_;rw[hx,zX (fU rfl)];have ih:=oQ e k ws n rest (acc++[.str w0]) ‹0› (λx hx=>hw x (OT _ hx)) (by rw[Pp];show acc.length+1+_<=_;omega) w1 ws1 h3;rw[O5,<-List.append_cons]at *;exact ih
theorem sR(e:Str)(ws:ah)(rest:List D)(hw:∀w∈ws,w≠e)(hl:ws.length<=100):oy cQ 2 4 [.lst (rest++((ws++[e]).map D.str).reverse),.str e]=.ok (.tup [.lst (ws.map D.str),.lst rest]):=by
 obtain⟨w0,ws0,h⟩:∃w0 ws0,w0::ws0=ws++[e]:=by
  cases ws with
  |nil=>exact⟨e,[],rfl⟩
  |cons a b=>exact⟨a,b++[e],rfl⟩
 have hx:rest++((ws++[e]).map D.str).reverse=(rest++(ws0.map D.str).reverse)++[.str w0]:=by
  rw[<-h,O5,Pw,Qa]
 rw[hx];show cQ K0 [some (.own (.lst ((rest++(ws0.map D.str).reverse)++[.str w0]))),‹.str e›,none,none]=_;unfold cQ;have nw:∀(B:aS)(ρ:ak),aq (mS 2 (gH af)) B K0 ρ=B K0 (ρ.set 2 (some (.own (.lst [])))):=λ_ _=>rfl;rw[nw,cY,zX (fU (xs:=rest++(ws0.map D.str).reverse) (x:=.str w0) rfl)];show aq (kn 200 uW uB) _ K0 (uE (rest++(ws0.map D.str).reverse) e [] w0)=_;rw[cY];show eW uW uB _ 200 _=_;rw[oQ e _ ws 200 rest [] ‹0› hw (by simp;omega) w0 ws0 h];show j4 2 0 (mJ 0 (ae 2)) K0 (uE rest e ([]++ws.map D.str) e)=_;rw[JT (xs:=rest) rfl,P0];exact Aq (xs:=rest) rfl rfl
noncomputable def LS:Str:="abcdefghijklmnopqrstuvwxyz"
noncomputable def LT:bx:=LS.cps.toList
theorem vI:LT.length=26:=by decide +kernel
theorem HU:LS.length=26:=by decide +kernel
noncomputable def lt(i:Int):Nat:=LT.getD i.toNat 0
noncomputable def Et(n:Nat):Str:=⟨#[n]⟩
theorem Jx(i:Int)(h0:0<=i)(h1:i<26):aR (.str LS) (.int i)=some (.str (Et (lt i))):=by
 have hl:=HU;have e:aR (.str LS) (.int i)=if small LS.length then(kF LS.cps.toList i).bind λc=>some (D.str ⟨#[c]⟩)else none:=rfl
 rw[e,cB ‹0›,if_pos rfl,DV h0 (by show i<(LT.length:Int);rw[vI];omega)];show some _=some _;congr 1;show D.str ⟨#[_]⟩=D.str ⟨#[LT.getD i.toNat 0]⟩;rw[Qz,PP (by rw[vI];omega)];rfl
theorem Ly(i:Int):vR "int" (.int i)=some (.bl true):=nr rfl
theorem M2(i:Int):vR "bool" (.int i)=some (.bl false):=nr rfl
theorem G0(w:Str):vR "str" (.str w)=some (.bl true):=nr rfl
theorem J2(xs:List D):vR "tuple" (.tup xs)=some (.bl true):=nr rfl
theorem parts(xs:List D)(m:Int):au cI 2 2 [.tup xs,.int m]=.ok (.bl ((xs.length:Int)==m)):=by
 rw[dQ];unfold cI;simp! only[J2,Bool.true_and]
theorem whole(i:Int):au fO 1 1 [.int i]=.ok (.bl true):=by
 rw[aE];unfold fO;simp! only[Ly,M2,QH]
theorem Oo(a b c:D):au cI 2 2 [.tup [a,b,c],.int 3]=.ok (.bl true):=parts _ _
theorem Nu(a b:D):au cI 2 2 [.tup [a,b],.int 3]=.ok (.bl false):=parts _ _
theorem Nw(a b:D):au cI 2 2 [.tup [a,b],.int 2]=.ok (.bl true):=parts _ _
theorem Ec{lo hi:Int}(h:lo<=hi):au bC 1 1 [.tup [.str "number",.int lo,.int hi]]=.ok (.bl true):=by
 have e:decide (lo<=hi)=true:=by simp[h]
 rw[aE];unfold bC;simp! only[Oo,whole,BEq.rfl,e,QH]
theorem Aw(x:D):au bC 1 1 [.tup [.str "word",x]]=.ok (.bl false):=by
 rw[aE];unfold bC;simp! only[Nu]
theorem Dz:(LT.all λn=>AA LS ⟨#[n]⟩)=true:=by decide +kernel
theorem wf:∀bs:List Bool,allB (bs.map .bl)=some (bs.all id)
 |[]=>rfl
 |b::bs=>by
  show(allB (bs.map .bl)).bind (λc=>some (b&&c))=_;rw[wf bs];rfl
theorem kW{α:Type}(xs:List α):qZ [.lst (xs.map λ_=>.bl true)]=some (.bl true):=by
 have e:qZ [.lst ((xs.map λ_=>true).map .bl)]=(allB ((xs.map λ_=>true).map .bl)).bind λb=>some (D.bl b):=rfl;rw[Qx]at e;refine e.trans ?_;have e2:((xs.map λ_=>true).all id)=true:=by rw[List.all_eq_true];intro x hx;obtain⟨_,_,rfl⟩:=List.mem_map.mp hx;rfl
 have e3:=wf (xs.map λ_=>true);rw[Qx,e2]at e3;rw[e3];rfl
theorem iD(x:Str)(few:Int)(h1:few<=x.length)(h2:x.length<=8)(hx:∀n∈x.cps.toList,n∈LT):au cM 2 2 [.str x,.int few]=.ok (.bl true):=by
 have e1:decide (few<=(x.length:Int))=true:=by simp[h1]
 have e2:decide ((x.length:Int)<=8)=true:=by simp;omega
 have el:ic [.str x]=some (.int x.length):=by show(if small x.length then _ else _)=_;rw[cB ‹0›];rfl
 have f0:ja [none] (gu (ae 0)) (gN 0) eK (f2 rM (ae 0) (fC (.str LS))) [‹.str x›,‹.int few›]=.ok (.lst (x.cps.toList.map λ_=>.bl true)):=by
  refine gb (ds:=xm x) rfl (by unfold xm;rw[O6];show x.cps.toList.length<=_;rw[Array.length_toList];have:x.cps.size=x.length:=rfl;omega) ?_;unfold xm;refine fY (λn=>D.str ⟨#[n]⟩) _ _ λn hn=>⟨_,rfl,rfl,?_⟩
  have:=List.all_eq_true.mp Dz n (hx n hn)
  have e:rM (.str ⟨#[n]⟩) (.str LS)=some (.bl true):=by show some (D.bl (AA LS ⟨#[n]⟩))=_;rw[this]
  simp! only[e]
 rw[dQ];unfold cM;simp! only[show("abcdefghijklmnopqrstuvwxyz":Str)=LS from rfl,G0,el,e1,e2,QH,f0,kW]
theorem Ik(i:Int)(h0:0<=i)(h1:i<26):lt i∈LT:=by
 unfold lt;rw[Qz,PP (by rw[vI];omega)];exact List.getElem_mem _
noncomputable def Lw(x:Str):Prop:=x.length<=8/\∀n∈x.cps.toList,n∈LT
noncomputable def Up(ws:ah):Prop:=ws.Pairwise λx y=>x.cps.toList<y.cps.toList
noncomputable def tU(ws:ah):D:=.tup [.str "word",.tup (ws.map .str)]
theorem vk{ws:ah}(h1:ws≠[])(h2:ws.length<=12)(h3:Up ws)(h4:∀w∈ws,Lw w):au eV 1 1 [tU ws]=.ok (.bl true):=by
 have hl:0<ws.length:=List.length_pos_iff.mpr h1;have e1:decide ((1:Int)<=(ws.length:Int))=true:=by simp;omega
 have e2:decide ((ws.length:Int)<=12)=true:=by simp;omega
 have f0:ja [none] (fS (ae 0)) (gN 0) eK (fR (au cM 2 2) (aa (ae 0) (aa (fC (.int 0)) af))) [‹.tup (ws.map .str)›]=.ok (.lst (ws.map λ_=>.bl true)):=by
  refine gb (ds:=ws.map .str) (by simp! only[]) (by rw[O6];omega) ?_;refine fY D.str _ ws λw hw=>⟨_,rfl,rfl,?_⟩
  have l:=iD w 0 ‹0› (h4 w hw).1 (h4 w hw).2;simp! only[l]
 have rg:kQ [.int ((ws.length:Int)-1)]=some (fk 0 (ws.length-1)):=by
  rw[show(ws.length:Int)-1=((ws.length-1:Nat):Int)by omega];exact jT _ ‹0›
 have f1:ja [none,some 0] (fW (aa (f2 uY (fL ic (aa (ae 0) af)) (fC (.int 1))) af)) (gN 0) eK (f2 pF (f2 aR (ae 1) (ae 0)) (f2 aR (ae 1) (f2 aD (ae 0) (fC (.int 1))))) [‹.tup (ws.map .str)›]=.ok (.lst ((List.range (ws.length-1)).map λ_=>.bl true)):=by
  refine gb (ds:=fk 0 (ws.length-1)) (by simp! only[O6,rg]) (by rw[fV];omega) ?_;rw[mj];refine fY (λ(k:Nat)=>D.int (0+(k:Int))) _ _ λk hk=>⟨_,rfl,rfl,?_⟩
  have hk:=List.mem_range.mp hk;have i1:aR (.tup (ws.map .str)) (.int (k:Int))=some (.str (ws[k]'‹0›)):=by rw[IK,kX,jy ‹0›];rfl
  have i2:aR (.tup (ws.map .str)) (.int ((k:Int)+1))=some (.str (ws[k+1]'‹0›)):=by
   rw[show(k:Int)+1=((k+1:Nat):Int)by omega,IK,kX,jy ‹0›];rfl
  have lt:=List.pairwise_iff_getElem.mp h3 k (k+1) ‹0› ‹0› ‹0›;have e:decide ((ws[k]'‹0›).cps.toList<(ws[k+1]'‹0›).cps.toList)=true:=decide_eq_true lt;rw[Int.zero_add];simp! only[i1,i2,e]
 have aw:au gg 1 1 [.tup (ws.map .str)]=.ok (.bl true):=by
  rw[aE];unfold gg;simp! only[J2,O6,e1,e2,QH,f0,f1,kW]
 rw[aE];unfold eV tU;simp! only[Nw,BEq.rfl,aw,QH]
theorem xE(c:Str)(f:aC)(k:Ks)(ρ:ak):eF c f k ρ=km (f ρ) k ρ λds=>if small ds.length then k.ex ⟨c,[],[]⟩ ρ else un:=nr rfl
theorem Of:small 1=true:=rfl
structure me(x:Str):Prop where
 one:1<=x.length
 eig:x.length<=8
 lts:∀n∈x.cps.toList,n∈LT
theorem Gb{n:Nat}(h:n∈LT):Unicode.isSpace n=false/\BR.contains n=false:=by
 have z:(LT.all λn=>!Unicode.isSpace n&&!BR.contains n)=true:=by decide +kernel
 have:=List.all_eq_true.mp z n h
 rw[Pt]at this
 simpa using this
theorem me.w{x:Str}(h:me x):CL x:=⟨λz=>by
  have:=h.one
  rw[aH,z]at this;exact absurd this (by decide),λc hc=>Gb (h.lts c hc)⟩
theorem lT{x:Str}(h:me x):au eR 1 1 [.str x]=.ok (.str x):=by
 have l:=iD x 1 (by have:=h.one;omega) h.eig h.lts;have n:au g6 1 1 [.str x]=.ok (.bl true):=by
  rw[aE];unfold g6;simp! only[l]
 rw[aE];unfold eR;simp! only[n]
noncomputable abbrev dot(w:Str):Str:=(".":Str)++w
theorem lL(w:Str):ay (dot w)=46::ay w:=by
 rw[aN]
 have:ay (".":Str)=[46]:=by decide
 rw[this];rfl
theorem sC(w:Str):(dot w).length=w.length+1:=by rw[aH,lL,O3,<-aH]
theorem yE(x:Str)(c:Nat):Txt.startswith x ⟨#[c]⟩=decide ((ay x)[0]?=some c):=by
 have h:=StrLaws.subAt_one x c 0;unfold Txt.startswith
 by_cases z:(ay x)[0]?=some c
 ·obtain⟨h1,h2⟩:=h.mpr z;rw[h2,decide_eq_true h1,decide_eq_true z];rfl
 ·rw[decide_eq_false z,Bool.and_eq_false_iff];by_cases w:0+(⟨#[c]⟩:Str).length<=x.length
  ·right;cases q:Builtin.Str.subAt x ⟨#[c]⟩ 0 with
   |false=>rfl
   |true=>exact absurd (h.mp ⟨w,q⟩) z
  ·left;exact decide_eq_false w
theorem vW:(".":Str)=⟨#[46]⟩:=by decide
theorem wB:("-":Str)=⟨#[45]⟩:=by decide
theorem jD(x:Str)(c:Nat):gM x [.str ⟨#[c]⟩]=some (.bl (decide ((ay x)[0]?=some c))):=by
 show some (D.bl (Txt.startswith x ⟨#[c]⟩))=_;rw[yE]
theorem zP{α:Type}(xs:List α):cutD xs (some 1) none=xs.drop 1:=by
 unfold cutD;have e:HT.sIx xs.length 0 (some 1)=min 1 xs.length:=HT.Kw _ _ 1;have e2:HT.sIx xs.length xs.length none=xs.length:=rfl;rw[e,e2];cases xs with
 |nil=>rfl
 |cons a r=>
  have:min 1 (a::r).length=1:=by rw[O3];omega
  rw[this];show r.take (r.length+1-1)=r;exact QA ‹0›
theorem wv{x:Str}(h:x.length<=1000):gm (.str x) (some 1) none=some (.str (mk ((ay x).drop 1))):=by
 show(if small x.length then some (D.str ⟨(cutD x.cps.toList (some 1) none).toArray⟩)else none)=_;rw[cB ‹0›,zP];rfl
structure Im(w:Str):Prop where
 eig:w.length<=8
 lts:∀n∈w.cps.toList,n∈LT
theorem Im.w{x:Str}(h:Im x):CL (dot x):=⟨λz=>(by rw[lL]at z;cases z),λc hc=>by
 rw[lL]at hc;rcases List.mem_cons.mp hc with z|z
 ·rw[z];decide
 ·exact Gb (h.lts c z)⟩
theorem BC{w:Str}(h:w.length<=8):gm (.str (dot w)) (some 1) none=some (.str w):=by
 rw[wv (by rw[sC];omega),lL];show some (D.str (mk (ay w)))=_;rw[og]
theorem pq(w:Str):gM (dot w) [.str ⟨#[46]⟩]=some (.bl true):=by rw[jD,lL];rfl
theorem hJ(f:FX)(g:aC)(ρ:ak):iC f g ρ=(f ρ).bind λa=>(rO (Gf a)).bind λz=>(g ρ).bind λds=>rO (gM z ds):=nr rfl
theorem qd{w:Str}(h:Im w):au du 1 1 [.str (dot w)]=.ok (.str w):=by
 have l:=iD w 0 ‹0› h.eig h.lts;have t:=BC h.eig;have s:=pq w;rw[aE];unfold du;generalize dot w=x at *;simp! only[vW,hJ,s,t,l]
theorem sW:∀(k m:Nat),m<10^(k+1)->(Nat.toDigits 10 m).length<=k+1
 |0,m,h=>by rw[QI ‹0›];exact OZ _
 |k+1,m,h=>by
  by_cases z:m<10
  ·rw[QI z];show 1<=_;omega
  ·have hm:m%10<10:=Nat.mod_lt m (by decide);have t:Nat.toDigits 10 (m/10)++Nat.toDigits 10 (m%10)=Nat.toDigits 10 (10*(m/10)+m%10):=Nat.toDigits_append_toDigits (by decide) ‹0› hm;rw[Nat.div_add_mod]at t;rw[<-t,Pp,QI hm];have ih:=sW k (m/10) (by rw[Nat.div_lt_iff_lt_mul (by decide)];rw[Nat.pow_succ]at h;exact h);show _+1<=_;omega
noncomputable abbrev nst(n:Int):Str:=Str.ofString (toString n)
noncomputable abbrev dg(m:Nat):bx:=(Nat.toDigits 10 m).map Char.toNat
theorem oa{m c:Nat}(h:c∈dg m):48<=c/\c<=57:=by
 obtain⟨ch,hch,e⟩:=List.mem_map.mp h;have r:=PyProof.Rows.digit_range (Nat.isDigit_of_mem_toDigits (by decide) (by decide) hch);rw[<-e];exact r
theorem Bg(m:Nat):dg m≠[]:=λe=>by
 have h:=PySem.toDigits_len_ge 10 m;rw[List.map_eq_nil_iff.mp e]at h;exact absurd h (by decide)
theorem Eo(m:Nat):ay (nst (m:Int))=dg m:=PySem.W.KIN.signs_num m
theorem EK(m:Nat):ay (nst (-((m+1:Nat):Int)))=45::dg (m+1):=by
 show(Str.ofString (toString (Int.negSucc m))).cps.toList=_;rw[PyProof.Rows.signs_ofString];show(("-"++Nat.repr (m+1)):String).toList.map Char.toNat=_;rw[String.toList_append,P4,Nat.toList_repr];rfl
theorem jH(n:Int)(h:n.natAbs<10^60):∃m:Nat,dg m≠[]/\(dg m).length<=60/\((ay (nst n)=dg m/\n=(m:Int))\/(ay (nst n)=45::dg m/\n=-(m:Int))):=by
 have hl:∀m:Nat,m<10^60->(dg m).length<=60:=λm hm=>by rw[O6];exact sW 59 m hm
 cases n with
 |ofNat m=>exact⟨m,Bg m,hl m h,.inl ⟨Eo m,rfl⟩⟩
 |negSucc m=>exact⟨m+1,Bg _,hl _ h,.inr ⟨EK m,rfl⟩⟩
theorem MZ{x:Str}{m:Nat}(h:ay x=dg m\/ay x=45::dg m):CL x:=by
 have sg:∀c∈dg m,Unicode.isSpace c=false/\BR.contains c=false:=λc hc=>by
  have z:((List.range' 48 10).all λn=>!Unicode.isSpace n&&!BR.contains n)=true:=by decide +kernel
  have r:=oa hc
  have:=List.all_eq_true.mp z c (List.mem_range'.mpr ⟨c-48,by omega,by omega⟩)
  rw[Pt]at this
  simpa using this
 rcases h with h|h
 ·exact⟨by rw[h];exact Bg m,by rw[h];exact sg⟩
 ·refine⟨(by rw[h];exact λz=>nomatch z),λc hc=>?_⟩;rw[h]at hc;rcases List.mem_cons.mp hc with z|z
  ·rw[z];decide
  ·exact sg c z
noncomputable def IV:Str:="0123456789"
theorem D7:((List.range' 48 10).all λn=>AA IV ⟨#[n]⟩)=true:=by decide +kernel
theorem AB{x:Str}(h:x.length<=1000):ic [.str x]=some (.int x.length):=by show(if small x.length then _ else _)=_;rw[cB ‹0›];rfl
theorem mR(n:Int)(h:n.natAbs<10^60):au eB 1 2 [.str (nst n)]=.ok (.int n):=by
 obtain⟨m,h0,h1,hc⟩:=jH n h;have figs:∀y:Str,ay y=dg m->∀ρ0:Option S,ja [none] (gu (ae 1)) (gN 0) eK (f2 rM (ae 0) (fC (.str IV))) [ρ0,‹.str y›]=.ok (.lst ((dg m).map λ_=>.bl true)):=λy hy ρ0=>by
  refine gb (ds:=xm y) rfl (by unfold xm;rw[O6];show(ay y).length<=_;rw[hy];omega) ?_;unfold xm;rw[show y.cps.toList=dg m from hy];refine fY (λn=>D.str ⟨#[n]⟩) _ _ λc hc=>⟨_,rfl,rfl,?_⟩
  have r:=oa hc
  have:=List.all_eq_true.mp D7 c (List.mem_range'.mpr ⟨c-48,by omega,by omega⟩)
  have e:rM (.str ⟨#[c]⟩) (.str IV)=some (.bl true):=by show some (D.bl (AA IV ⟨#[c]⟩))=_;rw[this]
  simp! only[e]
 have lens:∀y:Str,ay y=dg m->ic [.str y]=some (.int y.length)/\decide ((1:Int)<=(y.length:Int))=true/\decide ((y.length:Int)<=60)=true:=λy hy=>by
  have e:y.length=(dg m).length:=by rw[aH,hy]
  have:0<(dg m).length:=List.length_pos_iff.mpr h0
  exact⟨AB ‹0›,by simp;omega,by simp;omega⟩
 have ad:NumText.AllDigits (dg m):=λc hc=>oa hc;rcases hc with⟨hx,hn⟩|⟨hx,hn⟩
 ·have hx':(nst n).cps.toList=dg m:=hx;have it:qa [.str (nst n)]=some (.int n):=by
   have e:=intText_digits (x:=nst n) (by rw[hx'];exact ad) (by rw[hx'];exact h0) (by rw[aH,hx];omega);have l:(nst n).length<=640:=(by rw[aH,hx];omega);show u9 (nst n)=_;unfold u9;rw[if_pos l,e,hx',PySem.W.KIN.val_back];show some (D.int _)=_;rw[hn]
  have st:gM (nst n) [.str ⟨#[45]⟩]=some (.bl false):=by
   rw[jD,hx]
   have:¬(dg m)[0]?=some 45:=λz=>by have:=oa (Pn z);omega
   rw[decide_eq_false this]
  obtain⟨l1,l2,l3⟩:=lens (nst n) hx;have fg:=figs (nst n) hx (‹.str (nst n)›);rw[aE];unfold eB;generalize nst n=x at *;simp! only[wB,show("0123456789":Str)=IV from rfl,hJ,st,l1,l2,l3,QH,fg,kW,it]
 ·have it:qa [.str (nst n)]=some (.int n):=by
   have e:=intText_neg (x:=nst n) hx ad h0 (by rw[aH,hx,O3];omega);have l:(nst n).length<=640:=(by rw[aH,hx,O3];omega);show u9 (nst n)=_;unfold u9;rw[if_pos l,e,PySem.W.KIN.val_back];show some (D.int _)=_;rw[hn]
  have st:gM (nst n) [.str ⟨#[45]⟩]=some (.bl true):=by
   rw[jD,hx];rfl
  have tl:gm (.str (nst n)) (some 1) none=some (.str (mk (dg m))):=by
   rw[wv (by rw[aH,hx,O3];omega),hx];rfl
  obtain⟨l1,l2,l3⟩:=lens (mk (dg m)) (gU _);have fg:=figs (mk (dg m)) (gU _) (‹.str (nst n)›);rw[aE];unfold eB;generalize nst n=x at *;generalize mk (dg m)=y at *;simp! only[wB,show("0123456789":Str)=IV from rfl,hJ,st,tl,l1,l2,l3,QH,fg,kW,it]
theorem cp:(("rename":Str)==("part":Str))=false:=by decide
theorem cq:(("rename":Str)==("fuse":Str))=false:=by decide
theorem bZ:(("rename":Str)==("drop":Str))=false:=by decide
theorem bM:(("rename":Str)==("sieve":Str))=false:=by decide
theorem ck:(("rename":Str)==("nest":Str))=false:=by decide
theorem b6:(("rename":Str)==("keep":Str))=false:=by decide
theorem cm:(("part":Str)==("rename":Str))=false:=by decide
theorem dL:(("part":Str)==("fuse":Str))=false:=by decide
theorem dX:(("part":Str)==("drop":Str))=false:=by decide
theorem cV:(("part":Str)==("sieve":Str))=false:=by decide
theorem dU:(("part":Str)==("nest":Str))=false:=by decide
theorem dI:(("part":Str)==("keep":Str))=false:=by decide
theorem cu:(("fuse":Str)==("rename":Str))=false:=by decide
theorem dH:(("fuse":Str)==("part":Str))=false:=by decide
theorem dS:(("fuse":Str)==("drop":Str))=false:=by decide
theorem cR:(("fuse":Str)==("sieve":Str))=false:=by decide
theorem dJ:(("fuse":Str)==("nest":Str))=false:=by decide
theorem dN:(("fuse":Str)==("keep":Str))=false:=by decide
theorem cj:(("drop":Str)==("rename":Str))=false:=by decide
theorem dM:(("drop":Str)==("part":Str))=false:=by decide
theorem dG:(("drop":Str)==("fuse":Str))=false:=by decide
theorem cW:(("drop":Str)==("sieve":Str))=false:=by decide
theorem dB:(("drop":Str)==("nest":Str))=false:=by decide
theorem dD:(("drop":Str)==("keep":Str))=false:=by decide
theorem bw:(("sieve":Str)==("rename":Str))=false:=by decide
theorem bW:(("sieve":Str)==("part":Str))=false:=by decide
theorem bV:(("sieve":Str)==("fuse":Str))=false:=by decide
theorem bX:(("sieve":Str)==("drop":Str))=false:=by decide
theorem cP:(("sieve":Str)==("nest":Str))=false:=by decide
theorem cT:(("sieve":Str)==("keep":Str))=false:=by decide
theorem b7:(("nest":Str)==("rename":Str))=false:=by decide
theorem dz:(("nest":Str)==("part":Str))=false:=by decide
theorem dy:(("nest":Str)==("fuse":Str))=false:=by decide
theorem dE:(("nest":Str)==("drop":Str))=false:=by decide
theorem cU:(("nest":Str)==("sieve":Str))=false:=by decide
theorem dY:(("nest":Str)==("keep":Str))=false:=by decide
theorem bA:(("unnest":Str)==("rename":Str))=false:=by decide
theorem cg:(("unnest":Str)==("part":Str))=false:=by decide
theorem cc:(("unnest":Str)==("fuse":Str))=false:=by decide
theorem cf:(("unnest":Str)==("drop":Str))=false:=by decide
theorem bN:(("unnest":Str)==("sieve":Str))=false:=by decide
theorem ce:(("unnest":Str)==("nest":Str))=false:=by decide
theorem cn:(("unnest":Str)==("keep":Str))=false:=by decide
theorem b9:(("keep":Str)==("rename":Str))=false:=by decide
theorem dF:(("keep":Str)==("part":Str))=false:=by decide
theorem ef:(("keep":Str)==("fuse":Str))=false:=by decide
theorem ej:(("keep":Str)==("drop":Str))=false:=by decide
theorem cX:(("keep":Str)==("sieve":Str))=false:=by decide
theorem dW:(("keep":Str)==("nest":Str))=false:=by decide
theorem EL:(("number":Str)==("name":Str))=false:=by decide
theorem vY:(("value":Str)==("name":Str))=false:=by decide
theorem vZ:(("value":Str)==("number":Str))=false:=by decide
theorem v_name{x:Str}(h:me x):au aV 2 2 [.str "name",.str x]=.ok (.str x):=by
 have e:=lT h;rw[dQ];unfold aV;simp! only[BEq.rfl,e]
theorem sU(n:Int)(h:n.natAbs<10^60):au aV 2 2 [.str "number",.str (nst n)]=.ok (.int n):=by
 have e:=mR n h;rw[dQ];unfold aV;generalize nst n=x at *;simp! only[BEq.rfl,EL,e]
theorem C7(n:Int)(h:n.natAbs<10^60):gM (nst n) [.str ⟨#[46]⟩]=some (.bl false):=by
 obtain⟨m,h0,h1,hc⟩:=jH n h;rw[jD]
 have:¬(ay (nst n))[0]?=some 46:=λz=>by
  rcases hc with⟨hx,_⟩|⟨hx,_⟩<;>rw[hx]at z
  ·have:=oa (Pn z);omega
  ·cases z
 rw[decide_eq_false this]
theorem Hx(n:Int)(h:n.natAbs<10^60):au aV 2 2 [.str "value",.str (nst n)]=.ok (.int n):=by
 have e:=mR n h;have s:=C7 n h;rw[dQ];unfold aV;generalize nst n=x at *;simp! only[vW,hJ,vY,vZ,s,e]
theorem Dg{w:Str}(h:Im w):au aV 2 2 [.str "value",.str (dot w)]=.ok (.str w):=by
 have e:=qd h;have s:=pq w;rw[dQ];unfold aV;generalize dot w=x at *;simp! only[vW,hJ,vY,vZ,s,e]
noncomputable def LZ(p:Str×Str×D):Prop:=au aV 2 2 [.str p.1,.str p.2.1]=.ok p.2.2
theorem zip_map:∀L:List (Str×Str×D),ku ((L.map (·.1)).map D.str) ((L.map (·.2.1)).map D.str)=L.map λp=>.tup [.str p.1,.str p.2.1]
 |[]=>rfl
 |p::L=>by
  show _::ku _ _=_;rw[zip_map L];rfl
theorem yO(L:List (Str×Str×D))(h:∀p∈L,LZ p)(hl:L.length<=100):au bU 2 2 [.kt (L.map (·.1)),.lst ((L.map (·.2.1)).map .str)]=.ok (.lst (L.map (·.2.2))):=by
 have e1:ic [.kt (L.map (·.1))]=some (.int (L.length:Int)):=by show some (D.int ((L.map (·.1)).length:Int))=_;rw[O6]
 have e2:ic [.lst ((L.map (·.2.1)).map .str)]=some (.int (L.length:Int)):=by show some (D.int (((L.map (·.2.1)).map D.str).length:Int))=_;rw[O6,O6]
 have f0:ja [none,none] (BI (aa (ae 0) (aa (ae 1) af))) (gT 2 (uG [0,1])) eK (fR (au aV 2 2) (aa (ae 0) (aa (ae 1) af))) [‹.kt (L.map (·.1))›,‹.lst ((L.map (·.2.1)).map .str)›]=.ok (.lst (L.map (·.2.2))):=by
  refine gb (ds:=L.map λp=>.tup [.str p.1,.str p.2.1]) ?_ (by rw[O6];omega) ?_
  ·show(rO (some (ku ((L.map (·.1)).map D.str) ((L.map (·.2.1)).map D.str))))=_;rw[zip_map];rfl
  ·refine fY (λp:Str×Str×D=>D.tup [.str p.1,.str p.2.1]) _ _ λp hp=>⟨_,rfl,rfl,?_⟩
   have:=h p hp
   unfold LZ at this;simp! only[this]
 rw[dQ];unfold bU;generalize D.kt (L.map (·.1))=a at *;generalize D.lst ((L.map (·.2.1)).map .str)=b at *;simp! only[e1,e2,BEq.rfl,f0]
theorem eD{ss ws:ah}{vs:List D}(L:List (Str×Str×D))(h:∀p∈L,LZ p)(hl:L.length<=100)(e1:ss=L.map (·.1))(e2:ws=L.map (·.2.1))(e3:vs=L.map (·.2.2)):au bU 2 2 [.kt ss,.lst (ws.map .str)]=.ok (.lst vs):=by
 subst e1 e2 e3;exact yO L h hl
noncomputable abbrev WT:List (Str×(cy)):=[("Step",(au cF 1 1)),("Drop",(au bQ 1 1)),("Join",(au cJ 1 1)),("Gather",(au bG 1 1)),("Nest",(au cD 1 1)),("Unnest",(au bI 1 1)),("Part",(au cA 1 1)),("Fuse",(au cE 1 1)),("Rename",(au bF 1 1)),("Sieve",(au bD 1 1))]
structure mB(s:D)(w:ah):Prop where
 rd:au eN 1 1 [.lst (w.map .str)]=.ok s
 wd:∀(fo:FX)(ρ:ak),fo ρ=.ok s->gX "words" WT fo af ρ=.ok (.tup (w.map .str))
 ok:∀x∈w,CL x
 ne:w≠[]
 ln:w.length<=14
 sm:(w.map (·.length)).sum<=200
theorem fi{s:D}{c:Str}{fs:ah}{vs:List D}{g:cy}{r:R D}(e:s=.obj c fs vs)(h:List.lookup c WT=some g)(hf:fs.contains "words"=false)(hr:g [s]=r)(fo:FX)(ρ:ak)(ho:fo ρ=.ok s):gX "words" WT fo af ρ=r:=by
 subst e;unfold gX;rw[ho];show(match List.lookup c WT with|some g=>if fs.contains "words"then un else(af ρ).bind λas=>g (.obj c fs vs::as)|none=>un)=_;rw[h];show(if fs.contains "words"then un else(af ρ).bind λas=>g (.obj c fs vs::as))=_;rw[hf,if_neg OX];exact hr
theorem mw(n:Int)(h:n.natAbs<10^60):au bL 1 1 [.int n]=.ok (.str (nst n)):=by
 have e:mU [.int n]=some (.str (nst n)):=by
  show(if decide (n.natAbs.log2<1920)then some (D.str (toString n))else none)=_
  have:n.natAbs.log2<1920:=by
   by_cases z:n.natAbs=0
   ·rw[z];decide
   ·rw[PY z];exact PZ h (OI (show 10^60<2^200 by decide) (QJ (by decide) (by decide)))
  rw[decide_eq_true this];rfl
 have ti:vR "str" (.int n)=some (.bl false):=rfl;rw[aE];unfold bL;simp! only[ti,e]
theorem wH{w:Str}(h:w.length<=8):au bL 1 1 [.str w]=.ok (.str (dot w)):=by
 have e:aD (.str "." ) (.str w)=some (.str (dot w)):=jv _ _ (by decide) ‹0›;rw[aE];unfold bL;simp! only[G0,e]
noncomputable abbrev oR(a b:Str):D:=.obj "Rename" ["old","new"] [.str a,.str b]
noncomputable abbrev oD(a:Str)(v:D):D:=.obj "Drop" ["name","value"] [.str a,v]
noncomputable abbrev oS(a:Str)(k:D):D:=.obj "Sieve" ["name","kind"] [.str a,k]
noncomputable abbrev oP(a:Str)(n:Int)(q r:Str):D:=.obj "Part" ["name","by","quotient","rest"] [.str a,.int n,.str q,.str r]
noncomputable abbrev oF(q r:Str)(n:Int)(a:Str):D:=.obj "Fuse" ["quotient","rest","by","name"] [.str q,.str r,.int n,.str a]
noncomputable abbrev oN(n:Int)(a:Str):D:=.obj "Nest" ["many","name"] [.int n,.str a]
noncomputable abbrev oU(a:Str):D:=.obj "Unnest" ["name"] [.str a]
theorem gI{f:Str}{ws:ah}{ss:ah}{vs:List D}{s:D}(hk:(f==("keep":Str))=false)(hn:zj ib (.str f)=some (.bl false))(hd:Gh ib (.str f)=some (.kt ss))(hv:au bU 2 2 [.kt ss,.lst (ws.map .str)]=.ok (.lst vs))(hm:au bu 2 2 [.str f,.lst vs]=.ok s):au eN 1 1 [.lst ((f::ws).map .str)]=.ok s:=by
 rw[aE];unfold eN;rw[O5];generalize ws.map D.str=l at *;simp! only[QK,hk,hn,hd,zP,PK,PJ,hv,hm]
theorem jV{n:Int}(h:n.natAbs<10^60):(nst n).length<=61:=by
 obtain⟨m,_,h1,hc⟩:=jH n h;rw[aH];rcases hc with⟨hx,_⟩|⟨hx,_⟩<;>rw[hx]
 ·omega
 ·rw[O3];omega
theorem qC{n:Int}(h:n.natAbs<10^60):CL (nst n):=by
 obtain⟨m,_,_,hc⟩:=jH n h;exact MZ (hc.imp And.left And.left)
theorem fA{x:Str}(h:(!(ay x).isEmpty&&(ay x).all λc=>!Unicode.isSpace c&&!BR.contains c)=true):CL x:=by
 rw[Pt]at h;refine⟨λz=>(by rw[z]at h;exact absurd h.1 (by decide)),λc hc=>?_⟩
 have:=List.all_eq_true.mp h.2 c hc
 rw[Pt]at this
 simpa using this
theorem bb(c:Str)(fs:ah)(f:aC)(ρ:ak):fNew c fs f ρ=(f ρ).bind λas=>if as.length=fs.length then .ok (.obj c fs as)else un:=nr rfl
theorem Dd(a b c:D):j7 [a,b,c]=some (.tup [a,b,c]):=rfl
theorem oE(a b c d:D):aR (.lst [a,b,c,d]) (.int 3)=some d:=by rfl
theorem yJ(a b:D):j7 [a,b]=some (.tup [a,b]):=rfl
theorem Nn(a b c d:D):j7 [a,b,c,d]=some (.tup [a,b,c,d]):=rfl
theorem Nh(a b c d e:D):j7 [a,b,c,d,e]=some (.tup [a,b,c,d,e]):=rfl
theorem yS{a b:Str}(ha:me a)(hb:me b):mB (oR a b) ["rename",a,b]where
 rd:=gI (ws:=[a,b]) (ss:=["name","name"]) (vs:=[.str a,.str b]) (by decide) rfl rfl
  (eD [("name",a,.str a),("name",b,.str b)] (by
   intro p hp;simp only[Qc,Qd,or_false]at hp;rcases hp with rfl|rfl
   ·exact v_name ha
   ·exact v_name hb) (QL rfl) rfl rfl rfl) (by
  rw[dQ];unfold bu;simp! only[BEq.rfl,bb,oE,cp,cq,bZ,bM,ck,b6,cm,dL,dX,cV,dU,dI,cu,dH,dS,cR,dJ,dN,cj,dM,dG,cW,dB,dD,bw,bW,bV,bX,cP,cT,b7,dz,dy,dE,cU,dY,bA,cg,cc,cf,bN,ce,cn,b9,dF,ef,ej,cX,dW])
 wd:=fi rfl rfl (by decide) (by
  rw[aE];unfold bF;have g0:aW "old" ["Rename"] (oR a b)=some (.str a):=rfl;have g1:aW "new" ["Rename"] (oR a b)=some (.str b):=rfl;simp! only[g0,g1,Dd])
 ok:=by
  intro x hx;simp only[Qc,Qd,or_false]at hx;rcases hx with rfl|rfl|rfl
  ·exact fA (by decide +kernel)
  ·exact ha.w
  ·exact hb.w
 ne:=λz=>nomatch z
 ln:=QL rfl
 sm:=by
  have:=ha.eig
  have:=hb.eig
  have l:("rename":Str).length=6:=by decide
  simp only[O5,Py,QM,QN,l];omega
theorem z9{a:Str}{n:Int}(ha:me a)(hn:n.natAbs<10^60):mB (oD a (.int n)) ["drop",a,nst n]where
 rd:=gI (ws:=[a,nst n]) (ss:=["name","value"]) (vs:=[.str a,.int n]) (by decide) rfl rfl
  (eD [("name",a,.str a),("value",nst n,.int n)] (by
   intro p hp;simp only[Qc,Qd,or_false]at hp;rcases hp with rfl|rfl
   ·exact v_name ha
   ·exact Hx n hn) (QL rfl) rfl rfl rfl) (by
  rw[dQ];unfold bu;simp! only[BEq.rfl,bb,oE,cp,cq,bZ,bM,ck,b6,cm,dL,dX,cV,dU,dI,cu,dH,dS,cR,dJ,dN,cj,dM,dG,cW,dB,dD,bw,bW,bV,bX,cP,cT,b7,dz,dy,dE,cU,dY,bA,cg,cc,cf,bN,ce,cn,b9,dF,ef,ej,cX,dW])
 wd:=fi rfl rfl (by decide) (by
  rw[aE];unfold bQ;have g0:aW "name" ["Drop"] (oD a (.int n))=some (.str a):=rfl;have g1:aW "value" ["Drop"] (oD a (.int n))=some (.int n):=rfl;have w1:=mw n hn;simp! only[g0,g1,w1,Dd])
 ok:=by
  intro x hx;simp only[Qc,Qd,or_false]at hx;rcases hx with rfl|rfl|rfl
  ·exact fA (by decide +kernel)
  ·exact ha.w
  ·exact qC hn
 ne:=λz=>nomatch z
 ln:=QL rfl
 sm:=by
  have:=ha.eig
  have:=jV hn
  have l:("drop":Str).length=4:=by decide
  simp only[O5,Py,QM,QN,l];omega
theorem Bn{a w:Str}(ha:me a)(hw:Im w):mB (oD a (.str w)) ["drop",a,dot w]where
 rd:=gI (ws:=[a,dot w]) (ss:=["name","value"]) (vs:=[.str a,.str w]) (by decide) rfl rfl
  (eD [("name",a,.str a),("value",dot w,.str w)] (by
   intro p hp;simp only[Qc,Qd,or_false]at hp;rcases hp with rfl|rfl
   ·exact v_name ha
   ·exact Dg hw) (QL rfl) rfl rfl rfl) (by
  rw[dQ];unfold bu;simp! only[BEq.rfl,bb,oE,cp,cq,bZ,bM,ck,b6,cm,dL,dX,cV,dU,dI,cu,dH,dS,cR,dJ,dN,cj,dM,dG,cW,dB,dD,bw,bW,bV,bX,cP,cT,b7,dz,dy,dE,cU,dY,bA,cg,cc,cf,bN,ce,cn,b9,dF,ef,ej,cX,dW])
 wd:=fi rfl rfl (by decide) (by
  rw[aE];unfold bQ;have g0:aW "name" ["Drop"] (oD a (.str w))=some (.str a):=rfl;have g1:aW "value" ["Drop"] (oD a (.str w))=some (.str w):=rfl;have w1:=wH hw.eig;simp! only[g0,g1,w1,Dd])
 ok:=by
  intro x hx;simp only[Qc,Qd,or_false]at hx;rcases hx with rfl|rfl|rfl
  ·exact fA (by decide +kernel)
  ·exact ha.w
  ·exact hw.w
 ne:=λz=>nomatch z
 ln:=QL rfl
 sm:=by
  have:=ha.eig
  have:=(show(dot w).length<=9 by rw[sC];have:=hw.eig;omega)
  have l:("drop":Str).length=4:=by decide
  simp only[O5,Py,QM,QN,l];omega
theorem Dv{a q r:Str}{n:Int}(ha:me a)(hn:n.natAbs<10^60)(hq:me q)(hr:me r):mB (oP a n q r) ["part",a,nst n,q,r]where
 rd:=gI (ws:=[a,nst n,q,r]) (ss:=["name","number","name","name"]) (vs:=[.str a,.int n,.str q,.str r]) (by decide) rfl rfl
  (eD [("name",a,.str a),("number",nst n,.int n),("name",q,.str q),("name",r,.str r)] (by
   intro p hp;simp only[Qc,Qd,or_false]at hp;rcases hp with rfl|rfl|rfl|rfl
   ·exact v_name ha
   ·exact sU n hn
   ·exact v_name hq
   ·exact v_name hr) (QL rfl) rfl rfl rfl) (by
  rw[dQ];unfold bu;simp! only[BEq.rfl,bb,oE,cp,cq,bZ,bM,ck,b6,cm,dL,dX,cV,dU,dI,cu,dH,dS,cR,dJ,dN,cj,dM,dG,cW,dB,dD,bw,bW,bV,bX,cP,cT,b7,dz,dy,dE,cU,dY,bA,cg,cc,cf,bN,ce,cn,b9,dF,ef,ej,cX,dW])
 wd:=fi rfl rfl (by decide) (by
  rw[aE];unfold cA;have g0:aW "name" ["Part"] (oP a n q r)=some (.str a):=rfl;have g1:aW "by" ["Part"] (oP a n q r)=some (.int n):=rfl;have w1:=mw n hn;have g2:aW "quotient" ["Part"] (oP a n q r)=some (.str q):=rfl;have g3:aW "rest" ["Part"] (oP a n q r)=some (.str r):=rfl;simp! only[g0,g1,w1,g2,g3,Nh])
 ok:=by
  intro x hx;simp only[Qc,Qd,or_false]at hx;rcases hx with rfl|rfl|rfl|rfl|rfl
  ·exact fA (by decide +kernel)
  ·exact ha.w
  ·exact qC hn
  ·exact hq.w
  ·exact hr.w
 ne:=λz=>nomatch z
 ln:=QL rfl
 sm:=by
  have:=ha.eig
  have:=jV hn
  have:=hq.eig
  have:=hr.eig
  have l:("part":Str).length=4:=by decide
  simp only[O5,Py,QM,QN,l];omega
theorem Dn{q r a:Str}{n:Int}(hq:me q)(hr:me r)(hn:n.natAbs<10^60)(ha:me a):mB (oF q r n a) ["fuse",q,r,nst n,a]where
 rd:=gI (ws:=[q,r,nst n,a]) (ss:=["name","name","number","name"]) (vs:=[.str q,.str r,.int n,.str a]) (by decide) rfl rfl
  (eD [("name",q,.str q),("name",r,.str r),("number",nst n,.int n),("name",a,.str a)] (by
   intro p hp;simp only[Qc,Qd,or_false]at hp;rcases hp with rfl|rfl|rfl|rfl
   ·exact v_name hq
   ·exact v_name hr
   ·exact sU n hn
   ·exact v_name ha) (QL rfl) rfl rfl rfl) (by
  rw[dQ];unfold bu;simp! only[BEq.rfl,bb,oE,cp,cq,bZ,bM,ck,b6,cm,dL,dX,cV,dU,dI,cu,dH,dS,cR,dJ,dN,cj,dM,dG,cW,dB,dD,bw,bW,bV,bX,cP,cT,b7,dz,dy,dE,cU,dY,bA,cg,cc,cf,bN,ce,cn,b9,dF,ef,ej,cX,dW])
 wd:=fi rfl rfl (by decide) (by
  rw[aE];unfold cE;have g0:aW "quotient" ["Fuse"] (oF q r n a)=some (.str q):=rfl;have g1:aW "rest" ["Fuse"] (oF q r n a)=some (.str r):=rfl;have g2:aW "by" ["Fuse"] (oF q r n a)=some (.int n):=rfl;have w2:=mw n hn;have g3:aW "name" ["Fuse"] (oF q r n a)=some (.str a):=rfl;simp! only[g0,g1,g2,w2,g3,Nh])
 ok:=by
  intro x hx;simp only[Qc,Qd,or_false]at hx;rcases hx with rfl|rfl|rfl|rfl|rfl
  ·exact fA (by decide +kernel)
  ·exact hq.w
  ·exact hr.w
  ·exact qC hn
  ·exact ha.w
 ne:=λz=>nomatch z
 ln:=QL rfl
 sm:=by
  have:=hq.eig
  have:=hr.eig
  have:=jV hn
  have:=ha.eig
  have l:("fuse":Str).length=4:=by decide
  simp only[O5,Py,QM,QN,l];omega
theorem DH{a:Str}{n:Int}(hn:n.natAbs<10^60)(ha:me a):mB (oN n a) ["nest",nst n,a]where
 rd:=gI (ws:=[nst n,a]) (ss:=["number","name"]) (vs:=[.int n,.str a]) (by decide) rfl rfl
  (eD [("number",nst n,.int n),("name",a,.str a)] (by
   intro p hp;simp only[Qc,Qd,or_false]at hp;rcases hp with rfl|rfl
   ·exact sU n hn
   ·exact v_name ha) (QL rfl) rfl rfl rfl) (by
  rw[dQ];unfold bu;simp! only[BEq.rfl,bb,oE,cp,cq,bZ,bM,ck,b6,cm,dL,dX,cV,dU,dI,cu,dH,dS,cR,dJ,dN,cj,dM,dG,cW,dB,dD,bw,bW,bV,bX,cP,cT,b7,dz,dy,dE,cU,dY,bA,cg,cc,cf,bN,ce,cn,b9,dF,ef,ej,cX,dW])
 wd:=fi rfl rfl (by decide) (by
  rw[aE];unfold cD;have g0:aW "many" ["Nest"] (oN n a)=some (.int n):=rfl;have w0:=mw n hn;have g1:aW "name" ["Nest"] (oN n a)=some (.str a):=rfl;simp! only[g0,w0,g1,Dd])
 ok:=by
  intro x hx;simp only[Qc,Qd,or_false]at hx;rcases hx with rfl|rfl|rfl
  ·exact fA (by decide +kernel)
  ·exact qC hn
  ·exact ha.w
 ne:=λz=>nomatch z
 ln:=QL rfl
 sm:=by
  have:=jV hn
  have:=ha.eig
  have l:("nest":Str).length=4:=by decide
  simp only[O5,Py,QM,QN,l];omega
theorem x3{a:Str}(ha:me a):mB (oU a) ["unnest",a]where
 rd:=gI (ws:=[a]) (ss:=["name"]) (vs:=[.str a]) (by decide) rfl rfl
  (eD [("name",a,.str a)] (by
   intro p hp;simp only[Qc,Qd,or_false]at hp;subst hp;exact v_name ha) (QL rfl) rfl rfl rfl) (by
  rw[dQ];unfold bu;simp! only[BEq.rfl,bb,oE,cp,cq,bZ,bM,ck,b6,cm,dL,dX,cV,dU,dI,cu,dH,dS,cR,dJ,dN,cj,dM,dG,cW,dB,dD,bw,bW,bV,bX,cP,cT,b7,dz,dy,dE,cU,dY,bA,cg,cc,cf,bN,ce,cn,b9,dF,ef,ej,cX,dW])
 wd:=fi rfl rfl (by decide) (by
  rw[aE];unfold bI;have g0:aW "name" ["Unnest"] (oU a)=some (.str a):=rfl;simp! only[g0,yJ])
 ok:=by
  intro x hx;simp only[Qc,Qd,or_false]at hx;rcases hx with rfl|rfl
  ·exact fA (by decide +kernel)
  ·exact ha.w
 ne:=λz=>nomatch z
 ln:=QL rfl
 sm:=by
  have:=ha.eig
  have l:("unnest":Str).length=6:=by decide
  simp only[O5,Py,QM,QN,l];omega
noncomputable abbrev kN(lo hi:Int):D:=.tup [.str "number",.int lo,.int hi]
theorem Hj{a:Str}{lo hi:Int}(h:lo<=hi):au cK 2 2 [.str a,kN lo hi]=.ok (oS a (kN lo hi)):=by
 have e:=Ec h;rw[dQ];unfold cK;simp! only[e,bb]
theorem CY{a:Str}{ws:ah}(h1:ws≠[])(h2:ws.length<=12)(h3:Up ws)(h4:∀w∈ws,Lw w):au cK 2 2 [.str a,tU ws]=.ok (oS a (tU ws)):=by
 have e:=vk h1 h2 h3 h4;have f:=Aw (.tup (ws.map .str));rw[dQ];unfold cK;unfold tU at *;generalize D.tup (ws.map .str)=x at *;simp! only[e,f,bb]
theorem A0{a:Str}{lo hi:Int}(ha:me a)(hl:lo.natAbs<10^60)(hh:hi.natAbs<10^60)(h:lo<=hi):mB (oS a (kN lo hi)) ["sieve",a,nst lo,nst hi]where
 rd:=gI (ws:=[a,nst lo,nst hi]) (ss:=["name","number","number"]) (vs:=[.str a,.int lo,.int hi]) (by decide) rfl rfl
  (eD [("name",a,.str a),("number",nst lo,.int lo),("number",nst hi,.int hi)] (by
   intro p hp;simp only[Qc,Qd,or_false]at hp;rcases hp with rfl|rfl|rfl
   ·exact v_name ha
   ·exact sU lo hl
   ·exact sU hi hh) (QL rfl) rfl rfl rfl) (by
  have m:=Hj (a:=a) h;rw[dQ];unfold bu;simp! only[BEq.rfl,bw,bW,bV,bX,Dd,m])
 wd:=fi rfl rfl (by decide) (by
  rw[aE];unfold bD;have g0:aW "name" ["Sieve"] (oS a (kN lo hi))=some (.str a):=rfl;have g1:aW "kind" ["Sieve"] (oS a (kN lo hi))=some (kN lo hi):=rfl;have w0:=mw lo hl;have w1:=mw hi hh;simp! only[g0,g1,w0,w1,BEq.rfl,Nn])
 ok:=by
  intro x hx;simp only[Qc,Qd,or_false]at hx;rcases hx with rfl|rfl|rfl|rfl
  ·exact fA (by decide +kernel)
  ·exact ha.w
  ·exact qC hl
  ·exact qC hh
 ne:=λz=>nomatch z
 ln:=QL rfl
 sm:=by
  have:=ha.eig
  have:=jV hl
  have:=jV hh
  have l:("sieve":Str).length=5:=by decide
  simp only[O5,Py,QM,QN,l];omega
theorem ud:∀(ws:ah),(∀w∈ws,Im w)->((ws.map dot).map (·.length)).sum<=9*ws.length
 |[],_=>OZ _
 |w::ws,h=>by
  have ih:=ud ws λx hx=>h x (OT _ hx)
  have:=(h w OS).eig
  have:=sC w
  simp only[O5,QM,O3];omega
theorem ou(xs ys:List D)(h:xs.length+ys.length<=1000):aD (.tup xs) (.tup ys)=some (.tup (xs++ys)):=by
 show(if small (xs.length+ys.length)then some (D.tup (xs++ys))else none)=_;rw[cB ‹0›];rfl
theorem DX{a:Str}{ws:ah}(ha:me a)(h1:ws≠[])(h2:ws.length<=12)(h3:Up ws)(h4:∀w∈ws,Im w):mB (oS a (tU ws)) ("keep"::a::ws.map dot)where
 rd:=by
  have n:=lT ha;have m:=CY (a:=a) h1 h2 h3 λw hw=>⟨(h4 w hw).eig,(h4 w hw).lts⟩
  have f0:ja [none] (fS (cz (ae 0) (eI (fC (.int 1))) bK)) (gN 0) eK (fR (au du 1 1) (aa (ae 0) af)) [‹.lst (.str a::(ws.map dot).map .str)›]=.ok (.lst (ws.map .str)):=by
   refine gb (ds:=(ws.map dot).map .str) (by simp! only[zP,PK,PJ]) (by rw[O6,O6];omega) ?_;rw[Qx];refine fY (D.str∘dot) D.str ws λw hw=>⟨_,rfl,rfl,?_⟩
   have e:=qd (h4 w hw);show(fR (au du 1 1) (aa (ae 0) af)) [‹.str (dot w)›]=_;generalize dot w=x at *;simp! only[e]
  have k:au gi 1 1 [.lst (.str a::(ws.map dot).map .str)]=.ok (oS a (tU ws)):=by
   rw[aE];unfold gi;unfold tU at m ⊢;simp! only[QK,n,f0,yJ,m]
  rw[aE];unfold eN;rw[O5,O5];generalize (ws.map dot).map D.str=l at *;simp! only[QK,BEq.rfl,zP,PK,PJ,k]
 wd:=fi rfl rfl (by decide) (by
  have g0:aW "name" ["Sieve"] (oS a (tU ws))=some (.str a):=rfl;have g1:aW "kind" ["Sieve"] (oS a (tU ws))=some (tU ws):=rfl;have f0:ja [none] (fS (f2 aR (f1 (aW "kind" ["Sieve"]) (ae 0)) (fC (.int 1)))) (gN 0) eK (fR (au bL 1 1) (aa (ae 0) af)) [‹oS a (tU ws)›]=.ok (.lst (ws.map λw=>.str (dot w))):=by
   refine gb (ds:=ws.map .str) (by unfold tU at g1;unfold tU;simp! only[g1]) (by rw[O6];omega) ?_;refine fY D.str _ ws λw hw=>⟨_,rfl,rfl,?_⟩
   have e:=wH (h4 w hw).eig;simp! only[e]
  have bq:(("word":Str)==("number":Str))=false:=by decide
  have ad:=ou [.str "keep",.str a] (ws.map λw=>.str (dot w)) (by rw[O6];show 2+_<=_;omega);rw[aE];unfold bD;have i0:aR (tU ws) (.int 0)=some (.str "word"):=rfl;simp! only[g0,g1,i0,bq,f0,yJ,ad];rw[Qx];rfl)
 ok:=by
  intro x hx;rcases List.mem_cons.mp hx with rfl|hx
  ·exact fA (by decide +kernel)
  rcases List.mem_cons.mp hx with rfl|hx
  ·exact ha.w
  obtain⟨w,hw,rfl⟩:=List.mem_map.mp hx;exact(h4 w hw).w
 ne:=λz=>nomatch z
 ln:=by rw[O3,O3,O6];omega
 sm:=by
  have:=ha.eig
  have:=ud ws h4
  have l:("keep":Str).length=4:=by decide
  simp only[O5,QM,l];simp only[Qx]at this ⊢;omega
structure ve(p:D)(f:Str)(w:ah):Prop where
 rd:au fu 2 3 [.str f,.lst (w.map .str)]=.ok p
 wd:∀(fo:FX)(ρ:ak),fo ρ=.ok p->gX "words" WT fo af ρ=.ok (.tup ((f::w).map .str))
 ok:∀x∈f::w,CL x
 ln:w.length<=2
 sm:((f::w).map (·.length)).sum<=40
theorem rJ:ve (.obj "Join" [] []) "join" []where
 rd:=by
  have v:=eD (ss:=[]) (ws:=[]) (vs:=[]) [] (λp hp=>nomatch hp) (QL rfl) rfl rfl rfl;have hn:zj gd (.str "join")=some (.bl false):=rfl;have hd:Gh gd (.str "join")=some (.kt []):=rfl;rw[Py]at v;rw[dQ];unfold fu;simp! only[hn,hd,v,BEq.rfl]
 wd:=fi rfl rfl (by decide) (by
  rw[aE];unfold cJ
  rfl)
 ok:=by
  intro x hx;rw[List.mem_singleton.mp hx];exact fA (by decide +kernel)
 ln:=QL rfl
 sm:=by decide
theorem mx{a:Str}(ha:me a):ve (.obj "Gather" ["name"] [.str a]) "gather" [a]where
 rd:=by
  have v:=eD (ss:=["name"]) (ws:=[a]) (vs:=[.str a]) [("name",a,.str a)] (λp hp=>by rw[List.mem_singleton.mp hp];exact v_name ha) (QL rfl) rfl rfl rfl;have hn:zj gd (.str "gather")=some (.bl false):=rfl;have hd:Gh gd (.str "gather")=some (.kt ["name"]):=rfl;have bq:(("gather":Str)==("join":Str))=false:=by decide
  rw[dQ];unfold fu;rw[O5,Py]at *;simp! only[hn,hd,v,bq,bb]
 wd:=fi rfl rfl (by decide) (by
  rw[aE];unfold bG;have g0:aW "name" ["Gather"] (.obj "Gather" ["name"] [.str a])=some (.str a):=rfl;simp! only[g0,yJ])
 ok:=by
  intro x hx;simp only[Qc,Qd,or_false]at hx;rcases hx with rfl|rfl
  ·exact fA (by decide +kernel)
  ·exact ha.w
 ln:=QL rfl
 sm:=by
  have:=ha.eig
  have l:("gather":Str).length=6:=by decide
  simp only[O5,Py,QM,QN,l];omega
noncomputable abbrev oL(n:Str):D:=.obj "Leaf" ["name"] [.str n]
noncomputable abbrev oO(g s:D):D:=.obj "Over" ["glass","step"] [g,s]
noncomputable abbrev oB(g h p:D):D:=.obj "Both" ["one","other","pair"] [g,h,p]
noncomputable abbrev tO(t:Str)(sw:ah):Str:=("(":Str)++Txt.join " " (t::sw)++(")":Str)
noncomputable abbrev tB(f t u:Str)(pw:ah):Str:=("[":Str)++Txt.join " " (f::t::u::pw)++("]":Str)
inductive pU:D->Str->ah->Nat->Prop
 |lf {n:Str}:me n->pU (oL n) n [n] 0
 |ov {g s:D} {t:Str} {w sw:ah} {m:Nat}:pU g t w m->mB s sw->pU (oO g s) (tO t sw) (⟨#[40]⟩::((w++sw)++[⟨#[41]⟩])) (m+1)
 |bo {g h p:D} {t u f:Str} {w v pw:ah} {m n:Nat}:pU g t w m->pU h u v n->ve p f pw->pU (oB g h p) (tB f t u pw) (⟨#[91]⟩::((f::(w++(v++pw)))++[⟨#[93]⟩])) (m+n+1)
theorem wQ(x:Str):Txt.join " " [x]=x:=rfl
theorem fE(x y:Str)(ys:ah):ay (Txt.join " " (x::y::ys))=ay x++32::ay (Txt.join " " (y::ys)):=by
 have e:∀zs:ah,Txt.join " " zs=Str.join " " zs:=StrLaws.glued_eq_join " ";rw[e,e];show ay (x++" "++Str.join " " (y::ys))=_;rw[aN,aN,Qa];rfl
theorem jI:∀ys:ah,(Txt.join " " ys).length<=(ys.map (·.length)).sum+ys.length
 |[]=>O9 _
 |[x]=>by rw[wQ,O5,QM];omega
 |x::y::ys=>by
  have ih:=jI (y::ys);rw[aH]at ih ⊢;rw[fE,Pp,O3,O5,QM,O3,<-aH x];omega
theorem sI:∀(ws:ah)(t:Str)(w:ah),Pc (ay t) w->(∀x∈ws,CL x)->Pc (ay (Txt.join " " (t::ws))) (w++ws)
 |[],t,w,h,_=>by rw[wQ,Pa];exact h
 |x::xs,t,w,h,k=>by
  rw[fE];exact qM h (sI xs x [x] (ri (k x OS)) λy hy=>k y (OT _ hy))
theorem Bb(a b:Nat)(t:Str):ay (((⟨#[a]⟩:Str)++t)++(⟨#[b]⟩:Str))=a::(ay t++[b]):=by
 rw[aN,aN];rfl
theorem Gs:("(":Str)=⟨#[40]⟩:=by decide
theorem AC:(")":Str)=⟨#[41]⟩:=by decide
theorem Gj:("[":Str)=⟨#[91]⟩:=by decide
theorem Ai:("]":Str)=⟨#[93]⟩:=by decide
theorem AQ(t:Str)(sw:ah):ay (tO t sw)=40::(ay (Txt.join " " (t::sw))++[41]):=by
 unfold tO;rw[Gs,AC,Bb]
theorem rk(f t u:Str)(pw:ah):ay (tB f t u pw)=91::(ay (Txt.join " " (f::t::u::pw))++[93]):=by
 unfold tB;rw[Gj,Ai,Bb]
theorem pU.pc{g:D}{t:Str}{w:ah}{m:Nat}(h:pU g t w m):Pc (ay t) w:=by
 induction h with
 |lf h=>exact ri h.w
 |ov _ s ih=>
  rw[AQ];exact Gc (by decide) (by decide) (by decide) (by decide) (sI _ _ _ ih s.ok)
 |bo _ _ p ih jh=>
  rw[rk,fE,fE];exact Gc (by decide) (by decide) (by decide) (by decide) (qM (ri (p.ok _ OS)) (qM ih (sI _ _ _ jh λx hx=>p.ok x (OT _ hx))))
theorem pU.len{g:D}{t:Str}{w:ah}{m:Nat}(h:pU g t w m):t.length<=300*m+100:=by
 induction h with
 |lf h=>have:=h.eig;omega
 |@ov g s t w sw m _ s ih=>
  have j:=jI (t::sw);rw[O5,QM,O3,aH]at j
  have:=s.sm
  have:=s.ln
  rw[aH,AQ,O3,Pp,Px];omega
 |@bo g h p t u f w v pw m n _ _ p ih jh=>
  have j:=jI (f::t::u::pw);rw[O5,QM,O3,O5,QM,O3,O5,QM,O3,aH (Txt.join _ _)]at j;have q:=p.sm;rw[O5,QM]at q
  have:=p.ln
  rw[aH,rk,O3,Pp,Px];omega
theorem sQ:∀ws:ah,uF (ws.map .str)=true
 |[]=>rfl
 |w::ws=>by
  have:=sQ ws
  rw[O5];show(pl (.str w)&&uF (ws.map .str))=true;rw[this];rfl
theorem zp{ws:ah}(h:ws≠[]):gQ (.tup (ws.map .str)) (.tup [])=some (.bl false):=by
 have e:pl (.tup (ws.map D.str))=true:=by rw[eS,sQ]
 cases ws with
 |nil=>exact absurd rfl h
 |cons w ws=>
  show(if(pl _&&pl _)&&(gG 8 _||gG 8 (.tup []))then _ else _)=_;rw[e,show gG 8 (.tup [])=true from rfl,Bool.or_true];rfl
theorem ub(ys:ah)(h:(ys.map (·.length)).sum+ys.length<=90000):oI " " [.tup (ys.map .str)]=some (.str (Txt.join " " ys)):=by
 show(iP (ys.map .str)).bind (λys=>if small ((ys.map (λy=>y.length)).sum+ys.length*(" ":Str).length)then some (D.str (Txt.join " " ys))else none)=_;have e:(" ":Str).length=1:=by decide
 have h2:(ys.map (λy=>y.length)).sum+ys.length*(" ":Str).length<=100000:=by rw[e];omega
 rw[kz];show(if small _ then _ else _)=_;rw[cB h2];rfl
theorem j5(x y:Str)(h:x.length+y.length<=90000):aD (.str x) (.str y)=some (.str (x++y)):=by
 show(if small (x.length+y.length)then _ else _)=_;rw[cB ‹0›];rfl
theorem Mi{x:D}{xs:List D}:gm (.tup (x::xs)) (some 1) none=some (.tup xs):=by
 show some (D.tup (cutD (x::xs) (some 1) none))=_;rw[zP];rfl
theorem pU.shown{g:D}{t:Str}{w:ah}{m:Nat}(h:pU g t w m):m<=12->∀n,m<n->bE n [g]=.ok (.str t):=by
 induction h with
 |@lf x h=>
  intro _ n hn;cases n with
  |zero=>omega
  |succ n=>
   rw[bT,aE];unfold fZ;have j1:jZ ["Over"] ["Leaf","Both"] (oL x)=some (.bl false):=rfl;have j3:jZ ["Both"] ["Leaf","Over"] (oL x)=some (.bl false):=rfl;have g0:aW "name" ["Drop","Gather","Leaf","Nest","Unnest","Part","Fuse","Sieve"] (oL x)=some (.str x):=rfl;simp! only[j1,j3,g0]
 |@ov g st t w sw m h s ih=>
  intro hm n hn;cases n with
  |zero=>omega
  |succ n=>
   have e:=ih ‹0› n ‹0›;have hl:=h.len;have s1:=s.sm;have s2:=s.ln;have jl:=jI (t::sw);have hs:((t::sw).map (·.length)).sum+(t::sw).length<=5000:=by
    rw[O5,QM,O3];omega
   have a0:aD (.tup [.str t]) (.tup (sw.map .str))=some (.tup ((t::sw).map .str)):=ou _ _ (by rw[O6,Px];omega);have jn:=ub (t::sw) ‹0›;have a1:=j5 "(" (Txt.join " " (t::sw)) (by rw[show("(":Str).length=1 from by decide];omega);have a2:=j5 ("("++Txt.join " " (t::sw)) ")" (by
    rw[show(")":Str).length=1 from by decide,aH,aN,Pp,<-aH,<-aH,show("(":Str).length=1 from by decide];omega)
   have wd:=s.wd (f1 (aW "step" ["Over"]) (ae 0)) [‹oO g st›,none] rfl;have ne:=zp s.ne;have g0:aW "glass" ["Over"] (oO g st)=some g:=rfl;rw[bT,aE];unfold fZ;have j1:jZ ["Over"] ["Leaf","Both"] (oO g st)=some (.bl true):=rfl;rw[O5]at a0 jn;have tp1:j7 ([]:List D)=some (.tup []):=rfl;have tpx:∀a:D,j7 [a]=some (.tup [a]):=λ_=>rfl;simp! only[j1,wd,ne,g0,e,jx,a0,jn,a1,a2,tp1,tpx]
 |@bo g h pr t u f w v pw m n hg hh p ih jh=>
  intro hm k hn;cases k with
  |zero=>omega
  |succ k=>
   have e1:=ih ‹0› k ‹0›;have e2:=jh ‹0› k ‹0›;have l1:=hg.len;have l2:=hh.len;have s1:=p.sm;have s2:=p.ln;rw[O5,QM]at s1;have jl:=jI (f::t::u::pw);have hs:((f::t::u::pw).map (·.length)).sum+(f::t::u::pw).length<=9000:=by
    simp only[O5,QM,O3];omega
   have a0:aD (.tup [.str f,.str t,.str u]) (.tup (pw.map .str))=some (.tup ((f::t::u::pw).map .str)):=ou _ _ (by rw[O6];show 3+_<=_;omega);have jn:=ub (f::t::u::pw) ‹0›;have a1:=j5 "[" (Txt.join " " (f::t::u::pw)) (by rw[show("[":Str).length=1 from by decide];omega);have a2:=j5 ("["++Txt.join " " (f::t::u::pw)) "]" (by
    rw[show("]":Str).length=1 from by decide,aH,aN,Pp,<-aH,<-aH,show("[":Str).length=1 from by decide];omega)
   have wd:=p.wd (f1 (aW "pair" ["Both"]) (ae 0)) [‹oB g h pr›,none] rfl;have g0:aW "one" ["Both"] (oB g h pr)=some g:=rfl;have g1:aW "other" ["Both"] (oB g h pr)=some h:=rfl;have i0:aR (.tup (.str f::pw.map .str)) (.int 0)=some (.str f):=ow _ _;have sl:gm (.tup (.str f::pw.map .str)) (some 1) none=some (.tup (pw.map .str)):=Mi;rw[bT,aE];unfold fZ;have j1:jZ ["Over"] ["Leaf","Both"] (oB g h pr)=some (.bl false):=rfl;have j2:jZ ["Both"] ["Leaf","Over"] (oB g h pr)=some (.bl true):=rfl;rw[O5]at wd;simp only[O5]at a0 jn;simp! only[j1,j2,wd,i0,sl,g0,g1,e1,e2,jx,a0,jn,a1,a2,Dd]
theorem o5{ρ:ak}{xs ys:List D}{d:D}{g:cy}{h:aC}{ds:List D}(e:ρ[0]?=some (some (.own (.lst xs))))(eh:h ρ=.ok ds)(eg:g (.lst xs::ds)=.ok (.tup [d,.lst ys])):dP 0 g h ρ=.ok (d,ys):=by
 unfold dP;rw[gD e,eh];show dec (g (.lst xs::ds))=_;rw[eg];rfl
theorem ko{k:Ks}{ρ ρ':ak}{i j:Nat}{F:sO}{d:D}{ys:List D}{B:aS}(h:F ρ=.ok (d,ys))(e:setV i d (ρ.set j (some (.own (.lst ys))))=ρ'):aq (gr i j F) B k ρ=B k ρ':=by
 rw[cY,zX h,e]
theorem Ia(rest:List D)(w:Str)(ws:ah):rest++(((w::ws).map D.str)).reverse=(rest++(ws.map D.str).reverse)++[.str w]:=by
 rw[O5,Pw,Qa]
theorem GX(rest:List D)(us ws:ah):rest++((us++ws).map D.str).reverse=(rest++(ws.map D.str).reverse)++(us.map D.str).reverse:=by
 rw[P4,List.reverse_append,Qa]
theorem EB{x:Str}(h:CL x){c:Nat}(hc:BR.contains c=true):x≠⟨#[c]⟩:=λe=>by
 have:=(h.sg c (by rw[e];exact List.mem_singleton.mpr rfl)).2
 rw[hc]at this;cases this
theorem pU.read{g:D}{t:Str}{w:ah}{m:Nat}(h:pU g t w m):∀(n:Nat)(rest:List D),m<n->aA n [.lst (rest++(w.map D.str).reverse)]=.ok (.tup [g,.lst rest]):=by
 induction h with
 |@lf x h=>
  intro n rest hn;cases n with
  |zero=>omega
  |succ n=>
   rw[cN];show bS _ K0 [some (.own (.lst (rest++[.str x]))),none,none,none,none,none]=_;unfold bS;rw[ko (ρ':=[some (.own (.lst rest)),‹.str x›,none,none,none,none]) (fU rfl) rfl];have b1:(x==("(":Str))=false:=(by rw[Gs];simpa using EB h.w (c:=40) (by decide));have b2:(x==("[":Str))=false:=(by rw[Gj];simpa using EB h.w (c:=91) (by decide));rw[yu (b:=false) (by simp! only[b1]),if_neg OX,yu (b:=false) (by simp! only[b2]),if_neg OX];exact Aq (xs:=rest) (by simp! only[lT h,bb]) rfl
 |@ov g st t w sw m h s ih=>
  intro n rest hn;cases n with
  |zero=>omega
  |succ n=>
   have u:=sR ")" sw rest (λx hx=>by rw[AC];exact EB (s.ok x hx) (by decide)) (by have:=s.ln;omega);have e:=ih n (rest++((sw++[(⟨#[41]⟩:Str)]).map D.str).reverse) ‹0›;rw[Ia,Qa w,GX,cN];show bS _ K0 [some (.own (.lst (rest++((sw++[(⟨#[41]⟩:Str)]).map D.str).reverse++(w.map D.str).reverse++[.str ⟨#[40]⟩]))),none,none,none,none,none]=_;unfold bS;rw[ko (ρ':=[some (.own (.lst (rest++((sw++[(⟨#[41]⟩:Str)]).map D.str).reverse++(w.map D.str).reverse))),‹.str ⟨#[40]⟩›,none,none,none,none]) (fU rfl) rfl];have b1:((⟨#[40]⟩:Str)==("(":Str))=true:=(by decide);rw[yu (b:=true) (by simp! only[b1]),if_pos rfl,ko (ρ':=[some (.own (.lst (rest++((sw++[(⟨#[41]⟩:Str)]).map D.str).reverse))),‹.str ⟨#[40]⟩›,‹g›,none,none,none]) (o5 (ds:=[]) rfl rfl e) rfl];refine zy (xs:=rest++((sw++[(⟨#[41]⟩:Str)]).map D.str).reverse) (ys:=rest) ?_ rfl;have c:=o5 (ρ:=[some (.own (.lst (rest++((sw++[(⟨#[41]⟩:Str)]).map D.str).reverse))),‹.str ⟨#[40]⟩›,‹g›,none,none,none]) (h:=aa (fC (.str ")")) af) (ds:=[.str ")"]) rfl (by simp! only[]) (by rw[<-AC];exact u);show lK _ _ _ [some (.own (.lst (rest++((sw++[(⟨#[41]⟩:Str)]).map D.str).reverse))),‹.str ⟨#[40]⟩›,‹g›,none,none,none]=_;simp! only[lK,iA,iu,II,c,s.rd]
 |@bo g h pr t u f w v pw m n hg hh p ih jh=>
  intro k rest hn;cases k with
  |zero=>omega
  |succ k=>
   have un:=sR "]" pw rest (λx hx=>by rw[Ai];exact EB (p.ok x (OT _ hx)) (by decide)) (by have:=p.ln;omega);have e1:=ih k (rest++((pw++[(⟨#[93]⟩:Str)]).map D.str).reverse++(v.map D.str).reverse) ‹0›;have e2:=jh k (rest++((pw++[(⟨#[93]⟩:Str)]).map D.str).reverse) ‹0›;rw[Ia,PD,Ia,Qa w,Qa v,GX,GX,cN];show bS _ K0 [some (.own (.lst (rest++((pw++[(⟨#[93]⟩:Str)]).map D.str).reverse++(v.map D.str).reverse++(w.map D.str).reverse++[.str f]++[.str ⟨#[91]⟩]))),none,none,none,none,none]=_;unfold bS;rw[ko (ρ':=[some (.own (.lst (rest++((pw++[(⟨#[93]⟩:Str)]).map D.str).reverse++(v.map D.str).reverse++(w.map D.str).reverse++[.str f]))),‹.str ⟨#[91]⟩›,none,none,none,none]) (fU rfl) rfl];have b1:((⟨#[91]⟩:Str)==("(":Str))=false:=(by decide);have b2:((⟨#[91]⟩:Str)==("[":Str))=true:=(by decide);rw[yu (b:=false) (by simp! only[b1]),if_neg OX,yu (b:=true) (by simp! only[b2]),if_pos rfl,
    ko (ρ':=[some (.own (.lst (rest++((pw++[(⟨#[93]⟩:Str)]).map D.str).reverse++(v.map D.str).reverse++(w.map D.str).reverse))),‹.str ⟨#[91]⟩›,none,‹.str f›,none,none]) (fU rfl) rfl,
    ko (ρ':=[some (.own (.lst (rest++((pw++[(⟨#[93]⟩:Str)]).map D.str).reverse++(v.map D.str).reverse))),‹.str ⟨#[91]⟩›,none,‹.str f›,‹g›,none]) (o5 (ds:=[]) rfl rfl e1) rfl,
    ko (ρ':=[some (.own (.lst (rest++((pw++[(⟨#[93]⟩:Str)]).map D.str).reverse))),‹.str ⟨#[91]⟩›,none,‹.str f›,‹g›,‹h›]) (o5 (ds:=[]) rfl rfl e2) rfl]
   refine zy (xs:=rest++((pw++[(⟨#[93]⟩:Str)]).map D.str).reverse) (ys:=rest) ?_ rfl;have c:=o5 (ρ:=[some (.own (.lst (rest++((pw++[(⟨#[93]⟩:Str)]).map D.str).reverse))),‹.str ⟨#[91]⟩›,none,‹.str f›,‹g›,‹h›]) (h:=aa (fC (.str "]")) af) (ds:=[.str "]"]) rfl (by simp! only[]) (by rw[<-Ai];exact un);show lK _ _ _ [some (.own (.lst (rest++((pw++[(⟨#[93]⟩:Str)]).map D.str).reverse))),‹.str ⟨#[91]⟩›,none,‹.str f›,‹g›,‹h›]=_;simp! only[lK,iA,iu,II,c,p.rd]
noncomputable abbrev oX:D:=.obj "Step" [] []
inductive kD:D->Nat->Prop
 |pl {g:D} {t:Str} {w:ah} {m:Nat}:pU g t w m->kD (oO g oX) (m+1)
 |ov {g s:D} {sw:ah} {m:Nat}:kD g m->mB s sw->kD (oO g s) (m+1)
 |bl {g h p:D} {u f:Str} {v pw:ah} {m n:Nat}:kD g m->pU h u v n->ve p f pw->kD (oB g h p) (m+n+1)
 |br {g h p:D} {u f:Str} {v pw:ah} {m n:Nat}:pU g u v n->kD h m->ve p f pw->kD (oB g h p) (m+n+1)
noncomputable abbrev nT:R D:=.error (some ⟨"NoText",[],[]⟩)
theorem kD.shown{g:D}{m:Nat}(h:kD g m):m<=13->∀n,m<n->bE n [g]=nT:=by
 induction h with
 |@pl g t w m h=>
  intro hm n hn;cases n with
  |zero=>omega
  |succ n=>
   have wd:gX "words" WT (f1 (aW "step" ["Over"]) (ae 0)) af [‹oO g oX›,none]=.ok (.tup []):=fi (c:="Step") (fs:=[]) (vs:=[]) rfl rfl (by decide) (by
    rw[aE];unfold cF;rfl) _ _ rfl
   have ne:gQ (.tup []) (.tup [])=some (.bl true):=rfl;rw[bT,aE];unfold fZ;have j1:jZ ["Over"] ["Leaf","Both"] (oO g oX)=some (.bl true):=rfl;have tp1:j7 ([]:List D)=some (.tup []):=rfl;simp! only[j1,wd,ne,tp1,xE,Of]
 |@ov g st sw m h s ih=>
  intro hm n hn;cases n with
  |zero=>omega
  |succ n=>
   have e:=ih ‹0› n ‹0›;have wd:=s.wd (f1 (aW "step" ["Over"]) (ae 0)) [‹oO g st›,none] rfl;have ne:=zp s.ne;have g0:aW "glass" ["Over"] (oO g st)=some g:=rfl;rw[bT,aE];unfold fZ;have j1:jZ ["Over"] ["Leaf","Both"] (oO g st)=some (.bl true):=rfl;have tp1:j7 ([]:List D)=some (.tup []):=rfl;simp! only[j1,wd,ne,g0,e,jx,tp1]
 |@bl g h pr u f v pw m n hg hh p ih=>
  intro hm k hn;cases k with
  |zero=>omega
  |succ k=>
   have e1:=ih ‹0› k ‹0›;have wd:=p.wd (f1 (aW "pair" ["Both"]) (ae 0)) [‹oB g h pr›,none] rfl;have g0:aW "one" ["Both"] (oB g h pr)=some g:=rfl;have i0:aR (.tup (.str f::pw.map .str)) (.int 0)=some (.str f):=ow _ _;rw[bT,aE];unfold fZ;have j1:jZ ["Over"] ["Leaf","Both"] (oB g h pr)=some (.bl false):=rfl;have j2:jZ ["Both"] ["Leaf","Over"] (oB g h pr)=some (.bl true):=rfl;rw[O5]at wd;simp! only[j1,j2,wd,i0,g0,e1,jx]
 |@br g h pr u f v pw m n hg hh p ih=>
  intro hm k hn;cases k with
  |zero=>omega
  |succ k=>
   have e1:=hg.shown ‹0› k ‹0›;have e2:=ih ‹0› k ‹0›;have wd:=p.wd (f1 (aW "pair" ["Both"]) (ae 0)) [‹oB g h pr›,none] rfl;have g0:aW "one" ["Both"] (oB g h pr)=some g:=rfl;have g1:aW "other" ["Both"] (oB g h pr)=some h:=rfl;have i0:aR (.tup (.str f::pw.map .str)) (.int 0)=some (.str f):=ow _ _;rw[bT,aE];unfold fZ;have j1:jZ ["Over"] ["Leaf","Both"] (oB g h pr)=some (.bl false):=rfl;have j2:jZ ["Both"] ["Leaf","Over"] (oB g h pr)=some (.bl true):=rfl;rw[O5]at wd;simp! only[j1,j2,wd,i0,g0,g1,e1,e2,jx]
theorem DL(cs:ah)(i:Nat)(F Fh:aS)(k:Ks)(ρ:ak):Bl cs i F Fh k ρ=F {k with ex:=λx ρ1=>if cs.contains x.c=true then Fh (J5 i k) (setV i (.exc x.c x.fs x.vs) ρ1)else un} ρ:=nr rfl
theorem zT(f:FX)(k:Ks)(ρ:ak):wN f k ρ=km (f ρ) k ρ λ_=>k.nx ρ:=nr rfl
theorem C8{g:D}{t:Str}{w:ah}{m:Nat}(h:pU g t w m)(hm:m<=12):au oC 1 2 [.str t]=.ok g:=by
 have l:=h.len;have ws:=tZ ‹0› h.pc;have rd:=h.read 16 [] ‹0›;rw[P0]at rd;have sh:=h.shown hm 16 ‹0›;have c:lX (aA 16) (f1 qu (fR (au fN 1 2) (aa (ae 0) af))) [‹.str t›,none]=.ok g:=by
  have e:f1 qu (fR (au fN 1 2) (aa (ae 0) af)) [‹.str t›,none]=.ok (.lst (w.map D.str).reverse):=by
   simp! only[ws];rfl
  unfold lX;rw[e];show(dec (aA 16 [.lst (w.map D.str).reverse])).bind _=_;rw[rd];rfl
 rw[aE];unfold oC;simp! only[c,sh,BEq.rfl]
theorem ky{g:D}{m:Nat}(h:kD g m)(hm:m<=13):au cv 1 3 [g]=.ok (.bl true):=by
 have e:=h.shown hm 16 ‹0›;have c:(["NoText"]:ah).contains "NoText"=true:=by decide
 have i1:gO [("NoText",true)] (.exc "NoText" [] [])=some (.bl true):=by rfl
 have i2:gO [("NoText",false)] (.exc "NoText" [] [])=some (.bl false):=by rfl
 rw[aE];unfold cv;simp! only[DL,zT,e,c,J5,i1,i2,QH]
theorem Ou(a b c d e f:D):kT [a,b,c,d,e,f]=some (.lst [a,b,c,d,e,f]):=nr rfl
theorem nG(c:Int)(k:Nat)(hk:k<4)(many:Int)(hm:0<many):∃r:Int,0<=r/\r<many/\au aZ 3 5 [.int c,.int (k:Int),.int many]=.ok (.int r):=by
 obtain⟨st,pr,i1,i2,b1,b2,b3⟩:∃st pr:Int,aR (.lst [.int 1234567891,.int 1876543217,.int 987654323,.int 1597463007,.int 1357924681,.int 1112131419]) (.int (k:Int))=some (.int st)/\aR (.lst [.int 2147483647,.int 2147483629,.int 2147483587,.int 2147483579,.int 2147483563,.int 2147483549]) (.int (k:Int))=some (.int pr)/\0<st/\st<2^62/\0<pr:=by
  match k,hk with
  |0,_=>exact⟨_,_,rfl,rfl,by decide,by decide,by decide⟩
  |1,_=>exact⟨_,_,rfl,rfl,by decide,by decide,by decide⟩
  |2,_=>exact⟨_,_,rfl,rfl,by decide,by decide,by decide⟩
  |3,_=>exact⟨_,_,rfl,rfl,by decide,by decide,by decide⟩
 have m1:=λi=>eQ (i:=i) (show(0:Int)<1000000007 by decide);have m2:=λi=>eQ (i:=i) b3;have m3:=λi=>eQ (i:=i) hm;have mu:=λi=>EA (i:=i) (j:=st) ‹0› ‹0›;refine⟨(c%1000000007+11)*st%pr%many,Int.emod_nonneg _ ‹0›,QO _ hm,?_⟩;rw[B3];unfold aZ;simp! only[Ou,i1,i2,m1,mu,m2,m3]
theorem jJ{x:Str}(h:(decide (1<=x.length)&&decide (x.length<=8)&&(x.cps.toList.all λn=>LT.contains n))=true):me x:=by
 rw[Pt,Pt]at h;exact⟨of_decide_eq_true h.1.1,of_decide_eq_true h.1.2,λn hn=>by simpa using List.all_eq_true.mp h.2 n hn⟩
noncomputable def NM:ah:=["join","gather","rename","drop","keep","in","nest","unnest","sieve"]
theorem IQ:(NM.all λx=>decide (1<=x.length)&&decide (x.length<=8)&&(x.cps.toList.all λn=>LT.contains n))=true:=by decide +kernel
theorem Oz(a b c d e f g h i:D):kT [a,b,c,d,e,f,g,h,i]=some (.lst [a,b,c,d,e,f,g,h,i]):=nr rfl
theorem A5:rP (.int 26) (.int 8)=some (.int 208827064576):=BW 26 8 (by decide) (by decide)
theorem kC(c:Int):∃x:Str,me x/\au bY 1 6 [.int c]=.ok (.str x):=by
 have g5:=λi=>eQ (i:=i) (show(0:Int)<5 by decide);have g9:=λi=>eQ (i:=i) (show(0:Int)<9 by decide);have g8:=λi=>eQ (i:=i) (show(0:Int)<8 by decide);have g26:=λi=>eQ (i:=i) (show(0:Int)<26 by decide);have gN':=λi=>eQ (i:=i) (show(0:Int)<8*208827064576 by decide);have d5:=λi=>fq (i:=i) (show(0:Int)<5 by decide) (show(5:Int)<10^200 by decide);have d8:=λi=>fq (i:=i) (show(0:Int)<8 by decide) (show(8:Int)<10^200 by decide);have d26:=λi=>fq (i:=i) (show(0:Int)<26 by decide) (show(26:Int)<10^200 by decide);have mu:=qP (i:=8) (j:=208827064576) (by decide) (by decide);by_cases h:c%5=1
 ·have e:(c%5==1)=true:=by simp[h]
  obtain⟨a,ha,ea⟩:∃a:Nat,a<9/\c/5%9=(a:Int):=⟨(c/5%9).toNat,by omega,by omega⟩
  have ix:aR (.lst (NM.map .str)) (.int (a:Int))=some (.str (NM[a]'(by show a<9;omega))):=by
   show(kF (NM.map D.str) (a:Int))=_;rw[kX,jy (by show a<9;omega)];rfl
  refine⟨_,jJ (List.all_eq_true.mp IQ _ (List.getElem_mem (by show a<9;omega))),?_⟩;have em:(.lst [.str "join",.str "gather",.str "rename",.str "drop",.str "keep",.str "in",.str "nest",.str "unnest",.str "sieve"]:D)=.lst (NM.map .str):=rfl;rw[aE];unfold bY;simp! only[g5,e,d5,g9,ea,Oz];rw[em,ix];rfl
 ·have e:(c%5==1)=false:=by simp[h]
  obtain⟨n,hn,hn',en⟩:∃n:Nat,1<=n/\n<=8/\1+c/5%(8*208827064576)%8=(n:Int):=⟨(1+c/5%(8*208827064576)%8).toNat,by omega,by omega,by omega⟩
  rw[aE];unfold bY;simp! only[show("abcdefghijklmnopqrstuvwxyz":Str)=LS from rfl,g5,e,d5,A5,mu,gN',d8,g8,en,jT n ‹0›];generalize c/5%(8*208827064576)=z;refine rh (Q:=λr=>∃x:Str,me x/\r=.ok (.str x)) (λi ρ=>∃(x:Str)(r:Int),x.length=i/\(∀n∈x.cps.toList,n∈LT)/\ρ=[none,‹.str LS›,‹.int z›,‹.str x›,‹.int r›,none]) ?_ ⟨"",_,rfl,λn hn=>(by cases hn),rfl⟩ ?_
  ·intro i d ρ k' hd;rintro⟨x,r,hx,hl,rfl⟩;have hi:=qj hd;rw[fV]at hi;have ix:=Jx (r%26) ‹0› ‹0›;have ad:=jv x (Et (lt (r%26))) ‹0› (by show 1<=_;omega);refine⟨_,[none,‹.str LS›,‹.int z›,‹.str (x++Et (lt (r%26)))›,‹.int (r/26)›,none],rfl,⟨_,_,?_,?_,rfl⟩,?_⟩
   ·rw[aH,aN,Pp,<-aH,hx];rfl
   ·intro n hn;have hn:n∈ay (x++Et (lt (r%26))):=hn;rw[aN]at hn;rcases List.mem_append.mp hn with q|q
    ·exact hl n q
    ·rw[List.mem_singleton.mp q];exact Ik _ ‹0› ‹0›
   ·simp! only[g26,ix,ad,d26]
  ·rintro ρ' ⟨x,r,hx,hl,rfl⟩;rw[fV]at hx;exact⟨x,⟨by omega,by omega,hl⟩,by simp! only[]⟩
theorem qg(c:Int):∃n:Int,n.natAbs<10^60/\au cO 1 1 [.int c]=.ok (.int n):=by
 have g2:=λi=>eQ (i:=i) (show(0:Int)<2 by decide);have g5:=λi=>eQ (i:=i) (show(0:Int)<5 by decide);have d2:=λi=>fq (i:=i) (show(0:Int)<2 by decide) (show(2:Int)<10^200 by decide);have mu:=qP (i:=2) (j:=CN) (by decide) (by decide);have pb:=Jg;have gP:=λi=>eQ (i:=i) (show(0:Int)<2*CN-1 by omega);have pe:(10^60:Nat)=CN.natAbs:=by decide +kernel
 by_cases h:c%2=0
 ·have e:(c%2==0)=true:=by simp[h]
  refine⟨c/2%5-2,by rw[pe];omega,?_⟩;rw[aE];unfold cO;simp! only[g2,e,d2,g5]
 ·have e:(c%2==0)=false:=by simp[h]
  refine⟨c/2%(2*CN-1)-CN+1,?_,?_⟩
  ·rw[pe]
   have:=Int.emod_nonneg (c/2) (show 2*CN-1≠0 by omega)
   have:=QO (c/2) (show 0<2*CN-1 by omega)
   omega
  ·rw[aE];unfold cO;simp! only[g2,e,d2,Ip,mu,gP]
structure JU(ws:ah):Prop where
 ne:ws≠[]
 ln:ws.length<=12
 up:Up ws
 dk:∀w∈ws,Im w
noncomputable def Kl(ws:ah):Bool:=decide (ws≠[])&&decide (ws.length<=12)&&decide (ws.Pairwise λx y=>x.cps.toList<y.cps.toList)&&ws.all λw=>decide (w.length<=8)&&w.cps.toList.all λn=>LT.contains n
theorem uS{ws:ah}(h:Kl ws=true):JU ws:=by
 unfold Kl at h;rw[Pt,Pt,Pt]at h;have z:=of_decide_eq_true h.1.2;refine⟨of_decide_eq_true h.1.1.1,of_decide_eq_true h.1.1.2,z,λw hw=>?_⟩
 have:=List.all_eq_true.mp h.2 w hw
 rw[Pt]at this;exact⟨of_decide_eq_true this.1,λn hn=>by simpa using List.all_eq_true.mp this.2 n hn⟩
noncomputable def tk(x:Str)(k:Nat):Str:=⟨(x.cps.toList.take k).toArray⟩
noncomputable def dr(x:Str)(k:Nat):Str:=⟨(x.cps.toList.drop k).toArray⟩
theorem FJ(x:Str)(h:x.length<=1000)(k:Nat):gm (.str x) none (some (k:Int))=some (.str (tk x k)):=by
 show(if small x.length then some (D.str ⟨(cutD x.cps.toList none (some (k:Int))).toArray⟩)else none)=_;rw[cB ‹0›,Hi];rfl
theorem we(x:Str)(h:x.length<=1000)(k:Nat):gm (.str x) (some (k:Int)) none=some (.str (dr x k)):=by
 show(if small x.length then some (D.str ⟨(cutD x.cps.toList (some (k:Int)) none).toArray⟩)else none)=_;rw[cB ‹0›,B6];rfl
theorem B7(x:Str)(k:Nat):(dr x k).length<=x.length:=by
 rw[aH,aH];unfold dr ay;simp
noncomputable def A8:Str:="abcdefgh"
noncomputable def AO:Str:="abcdefghijklmno"
noncomputable def w1(a b n:Nat):ah:=(List.range n).map λk=>tk (dr A8 a) (k+b)
noncomputable def w2(a j:Nat):ah:=(tk (dr AO a) j).cps.toList.map λn=>("x":Str)++⟨#[n]⟩
theorem JY:∀a,a<3->∀b,b<2->∀n,n<5->Kl (w1 a b (n+1))=true:=by decide +kernel
theorem FQ:∀a,a<4->∀j,j<12->Kl (w2 a (j+1))=true:=by decide +kernel
theorem BM(c:Int):∃ws:ah,JU ws/\au dA 1 2 [.int c]=.ok (.tup (ws.map .str)):=by
 obtain⟨a,ha,ea⟩:∃a:Nat,a<3/\c%3=(a:Int):=⟨(c%3).toNat,by omega,by omega⟩
 have g2:=λi=>eQ (i:=i) (show(0:Int)<2 by decide);have g3:=λi=>eQ (i:=i) (show(0:Int)<3 by decide);have g4:=λi=>eQ (i:=i) (show(0:Int)<4 by decide);have g5:=λi=>eQ (i:=i) (show(0:Int)<5 by decide);have g12:=λi=>eQ (i:=i) (show(0:Int)<12 by decide);have d3:=λi=>fq (i:=i) (show(0:Int)<3 by decide) (show(3:Int)<10^200 by decide);have d6:=λi=>fq (i:=i) (show(0:Int)<6 by decide) (show(6:Int)<10^200 by decide);have d12:=λi=>fq (i:=i) (show(0:Int)<12 by decide) (show(12:Int)<10^200 by decide);have d24:=λi=>fq (i:=i) (show(0:Int)<24 by decide) (show(24:Int)<10^200 by decide);have L8:A8.length=8:=by decide +kernel
 have LO:AO.length=15:=by decide +kernel
 have s1:=we A8 ‹0› a;have l1:=B7 A8 a;by_cases h:c/3%2=0
 ·have e:(c/3%2==0)=true:=by simp[h]
  obtain⟨b,hb,eb⟩:∃b:Nat,b<2/\c/6%2=(b:Int):=⟨(c/6%2).toNat,by omega,by omega⟩
  obtain⟨n,hn,en⟩:∃n:Nat,n<5/\1+c/12%5=((n+1:Nat):Int):=⟨(c/12%5).toNat,by omega,by omega⟩
  refine⟨w1 a b (n+1),uS (JY a ha b hb n hn),?_⟩;have f0:ja [none,some 1,some 0] (fW (aa (f2 aD (fC (.int 1)) (f2 fQ (f2 fD (ae 0) (fC (.int 12))) (fC (.int 5)))) af)) (gN 0) eK (cz (ae 1) bK (eI (f2 aD (ae 0) (f2 fQ (f2 fD (ae 2) (fC (.int 6))) (fC (.int 2)))))) [‹.int c›,‹.str (dr A8 a)›]=.ok (.lst ((List.range (n+1)).map λk=>.str (tk (dr A8 a) (k+b)))):=by
   refine gb (ds:=fk 0 (n+1)) (by simp! only[d12,g5,en,jT (n+1) ‹0›]) (by rw[fV];omega) ?_;rw[mj];refine fY (λ(k:Nat)=>D.int (0+(k:Int))) _ (List.range (n+1)) λk hk=>⟨_,rfl,rfl,?_⟩
   have e:=FJ (dr A8 a) ‹0› (k+b);have ek:(0:Int)+(k:Int)+(b:Int)=((k+b:Nat):Int):=(by omega);simp! only[d6,g2,eb,ek,e]
  rw[aE];unfold dA;simp! only[show("abcdefgh":Str)=A8 from rfl,g3,ea,s1,d3,g2,e,f0];unfold w1;rw[Qx];rfl
 ·have e:(c/3%2==0)=false:=by simp[h]
  obtain⟨b,hb,eb⟩:∃b:Nat,b<4/\c/6%4=(b:Int):=⟨(c/6%4).toNat,by omega,by omega⟩
  obtain⟨n,hn,en⟩:∃n:Nat,n<12/\1+c/24%12=((n+1:Nat):Int):=⟨(c/24%12).toNat,by omega,by omega⟩
  have s2:=we AO ‹0› b;have l2:=B7 AO b;have s3:=FJ (dr AO b) ‹0› (n+1);refine⟨w2 b (n+1),uS (FQ b hb n hn),?_⟩;have f0:ja [none] (gu (cz (cz (fC (.str AO)) (eI (f2 fQ (f2 fD (ae 0) (fC (.int 6))) (fC (.int 4)))) bK) bK (eI (f2 aD (fC (.int 1)) (f2 fQ (f2 fD (ae 0) (fC (.int 24))) (fC (.int 12))))))) (gN 0) eK (f2 aD (fC (.str "x")) (ae 0)) [‹.int c›,‹.str (dr A8 a)›]=.ok (.lst ((tk (dr AO b) (n+1)).cps.toList.map λn=>.str (("x":Str)++⟨#[n]⟩))):=by
   refine gb (ds:=xm (tk (dr AO b) (n+1))) ?_ ?_ ?_
   ·have z:(cz (cz (fC (.str AO)) (eI (f2 fQ (f2 fD (ae 0) (fC (.int 6))) (fC (.int 4)))) bK) bK (eI (f2 aD (fC (.int 1)) (f2 fQ (f2 fD (ae 0) (fC (.int 24))) (fC (.int 12)))))) [‹.int c›,‹.str (dr A8 a)›]=.ok (.str (tk (dr AO b) (n+1))):=by
     simp! only[d6,g4,eb,s2,d24,g12,en,s3]
    unfold gu;rw[z];rfl
   ·have:=(uS (FQ b hb n hn)).ln
    unfold w2 at this;unfold xm;rw[O6]at this ⊢;omega
   ·unfold xm;refine fY (λn=>D.str ⟨#[n]⟩) _ _ λk hk=>⟨_,rfl,rfl,?_⟩
    have ad:aD (.str "x") (.str ⟨#[k]⟩)=some (.str (("x":Str)++⟨#[k]⟩)):=jv _ _ (by decide) (by show 1<=_;omega);simp! only[ad]
  rw[aE];unfold dA;simp! only[show("abcdefgh":Str)=A8 from rfl,show("abcdefghijklmno":Str)=AO from rfl,g3,ea,s1,d3,g2,e,f0];unfold w2;rw[Qx];rfl
section
variable{Q:R D->Prop}{k:Ks}{ρ ρ':ak}{i:Nat}{f:FX}{d:D}{A B:aS}{c:aX}{b:Bool}{g:GF}
theorem eJ(e:f ρ=.ok d)(z:setV i d ρ=ρ')(h:Q (B k ρ')):Q (aq (bB i f) B k ρ):=by rw[cY,jG,e,fJ,z];exact h
theorem Io(e:f ρ=.ok d)(z:setV i d ρ=ρ')(h:Q (k.nx ρ')):Q (bB i f k ρ):=by rw[jG,e,fJ,z];exact h
theorem pI(e:c ρ=.ok b)(ht:Q (A {k with nx:=B k} ρ))(hf:Q (B k ρ)):Q (aq (fm c A aU) B k ρ):=by
 rw[cY,jw,e,fJ];cases b with
 |true=>exact ht
 |false=>exact hf
theorem lE(e:c ρ=.ok false)(hf:Q (B k ρ)):Q (aq (fm c A aU) B k ρ):=by
 rw[cY,jw,e,fJ];exact hf
theorem fI(e:f ρ=.ok d)(h:Q (.ok d)):Q (aK f k ρ):=by rw[kH,e,fJ];exact h
theorem E7(f:FX)(g:GF)(k:Ks)(ρ:ak):rT f g k ρ=km (f ρ) k ρ λd=>(rO (g d ρ)).bind k.nx:=nr rfl
theorem tX(e:f ρ=.ok d)(hg:g d ρ=some ρ')(h:Q (B k ρ')):Q (aq (rT f g) B k ρ):=by rw[cY,E7,e,fJ,hg];exact h
end
theorem Ny(a:D):kT [a]=some (.lst [a]):=nr rfl
theorem M9(a b:D):kT [a,b]=some (.lst [a,b]):=nr rfl
theorem Kq(a b c:D):kT [a,b,c]=some (.lst [a,b,c]):=nr rfl
theorem Np(a b c d:D):kT [a,b,c,d]=some (.lst [a,b,c,d]):=nr rfl
theorem Nc(a b c d e:D):kT [a,b,c,d,e]=some (.lst [a,b,c,d,e]):=nr rfl
theorem sd{n:Int}(h:n.natAbs<10^60):mU [.int n]=some (.str (nst n)):=by
 show(if decide (n.natAbs.log2<1920)then some (D.str (toString n))else none)=_
 have:n.natAbs.log2<1920:=by
  by_cases z:n.natAbs=0
  ·rw[z];decide
  ·rw[PY z];exact PZ h (OI (show 10^60<2^200 by decide) (QJ (by decide) (by decide)))
 rw[decide_eq_true this];rfl
theorem Fo{ws:ah}(h:ws≠[]):aR (.tup (ws.map .str)) (.int (-1))=some (.str (ws.getLast h)):=by
 have e:=BV ws.dropLast (ws.getLast h);rw[List.dropLast_concat_getLast]at e;rw[IK,kX,e];rfl
noncomputable def SQ(r:R D):Prop:=∃s sw,mB s sw/\r=.ok (.tup [s,.lst (sw.map .str)])
theorem Lp:me "r":=jJ (by decide +kernel)
theorem Ln:me "n":=jJ (by decide +kernel)
theorem vX(c:Int):SQ (au fv 1 10 [.int c]):=by
 obtain⟨x,hx,ex⟩:=kC (c/9);obtain⟨y,hy,ey⟩:=kC (c/11+3);obtain⟨n,hn,en⟩:=qg (c/13);obtain⟨m,hm,em⟩:=qg (c/7+1);obtain⟨r,r0,r1,er⟩:=nG c 0 (by decide) 9 (by decide);obtain⟨ws,hw,ew⟩:=BM (c/9);have er:au aZ 3 5 [.int c,.int 0,.int 9]=.ok (.int r):=er;have d9:=fq (i:=c) (show(0:Int)<9 by decide) (show(9:Int)<10^200 by decide);have d11:=fq (i:=c) (show(0:Int)<11 by decide) (show(11:Int)<10^200 by decide);have d13:=fq (i:=c) (show(0:Int)<13 by decide) (show(13:Int)<10^200 by decide);have d7:=fq (i:=c) (show(0:Int)<7 by decide) (show(7:Int)<10^200 by decide);have sn:=sd hn;rw[aE];unfold fv;refine eJ (d:=.str x) (ρ':=[‹.int c›,‹.str x›,none,none,none,none,none,none,none,none]) (by simp! only[d9,ex]) rfl ?_;refine eJ (d:=.str y) (ρ':=[‹.int c›,‹.str x›,‹.str y›,none,none,none,none,none,none,none]) (by simp! only[d11,ey]) rfl ?_;refine eJ (d:=.int n) (ρ':=[‹.int c›,‹.str x›,‹.str y›,‹.int n›,none,none,none,none,none,none]) (by simp! only[d13,en]) rfl ?_;refine eJ (d:=.int m) (ρ':=[‹.int c›,‹.str x›,‹.str y›,‹.int n›,‹.int m›,none,none,none,none,none]) (by simp! only[d7,em]) rfl ?_;refine eJ (d:=.int r) (ρ':=[‹.int c›,‹.str x›,‹.str y›,‹.int n›,‹.int m›,‹.int r›,none,none,none,none]) (by simp! only[er]) rfl ?_;clear er en em ex ey d11 d13 d7 r0 r1;refine pI (b:=r==0) (by simp! only[]) ?_ ?_
 ·exact fI (d:=.tup [oR x y,.lst [.str "rename",.str x,.str y]]) (by simp! only[bb,Kq,yJ]) ⟨_,["rename",x,y],yS hx hy,rfl⟩
 refine pI (b:=r==1) (by simp! only[]) ?_ ?_
 ·exact fI (d:=.tup [oD x (.int n),.lst [.str "drop",.str x,.str (nst n)]]) (by simp! only[bb,sn,Kq,yJ]) ⟨_,["drop",x,nst n],z9 hx hn,rfl⟩
 refine pI (b:=r==2) (by simp! only[]) ?_ ?_
 ·have hd:=hw.dk _ (List.getLast_mem hw.ne);have lx:=Fo hw.ne;generalize ws.getLast hw.ne=w at hd lx;refine eJ (d:=.str w) (ρ':=[‹.int c›,‹.str x›,‹.str y›,‹.int n›,‹.int m›,‹.int r›,‹.str w›,none,none,none]) (by simp! only[d9,ew,lx]) rfl ?_;have ad:aD (.str ".") (.str w)=some (.str (dot w)):=jv _ _ (by decide) (by have:=hd.eig;omega);exact fI (d:=.tup [oD x (.str w),.lst [.str "drop",.str x,.str (dot w)]]) (by simp! only[bb,ad,Kq,yJ]) ⟨_,["drop",x,dot w],Bn hx hd,rfl⟩
 refine pI (b:=r==3) (by simp! only[]) ?_ ?_
 ·obtain⟨lo,elo⟩:∃lo:Int,(if m<n then m else n)=lo:=⟨_,rfl⟩
  obtain⟨hi,ehi⟩:∃hi:Int,(if m>n then m else n)=hi:=⟨_,rfl⟩
  have hl:lo.natAbs<10^60:=by subst elo;split<;>assumption
  have hh:hi.natAbs<10^60:=by subst ehi;split<;>assumption
  have hlh:lo<=hi:=by subst elo ehi;split<;>split<;>omega
  have s1:=sd hl;have s2:=sd hh;refine eJ (d:=.int lo) (ρ':=[‹.int c›,‹.str x›,‹.str y›,‹.int n›,‹.int m›,‹.int r›,none,‹.int lo›,none,none]) (by simp! only[elo]) rfl ?_;refine eJ (d:=.int hi) (ρ':=[‹.int c›,‹.str x›,‹.str y›,‹.int n›,‹.int m›,‹.int r›,none,‹.int lo›,‹.int hi›,none]) (by simp! only[ehi]) rfl ?_;exact fI (d:=.tup [oS x (kN lo hi),.lst [.str "sieve",.str x,.str (nst lo),.str (nst hi)]]) (by simp! only[bb,s1,s2,Dd,Np,yJ]) ⟨_,["sieve",x,nst lo,nst hi],A0 hx hl hh hlh,rfl⟩
 refine pI (b:=r==4) (by simp! only[]) ?_ ?_
 ·refine eJ (d:=.tup (ws.map .str)) (ρ':=[‹.int c›,‹.str x›,‹.str y›,‹.int n›,‹.int m›,‹.int r›,none,none,none,‹.tup (ws.map .str)›]) (by simp! only[d9,ew]) rfl ?_;have hl:=hw.ln;have f0:ja [none] (fS (ae 9)) (gN 0) eK (f2 aD (fC (.str ".")) (ae 0)) [‹.int c›,‹.str x›,‹.str y›,‹.int n›,‹.int m›,‹.int r›,none,none,none,‹.tup (ws.map .str)›]=.ok (.lst (ws.map λw=>.str (dot w))):=by
   refine gb (ds:=ws.map .str) (by simp! only[]) (by rw[O6];omega) ?_;refine fY D.str _ ws λw hw'=>⟨_,rfl,rfl,?_⟩
   have ad:aD (.str ".") (.str w)=some (.str (dot w)):=jv _ _ (by decide) (by have:=(hw.dk w hw').eig;omega);simp! only[ad]
  have ad:=tN [.str "keep",.str x] (ws.map λw=>.str (dot w)) (by rw[O6];show 2+_<=_;omega);refine fI (d:=.tup [oS x (tU ws),.lst (.str "keep"::.str x::ws.map λw=>.str (dot w))]) (by unfold tU;simp! only[bb,yJ,M9,f0,ad]) ⟨_,"keep"::x::ws.map dot,DX hx hw.ne hw.ln hw.up hw.dk,?_⟩;rw[O5,O5,Qx];rfl
 refine pI (b:=r==5) (by simp! only[]) ?_ ?_
 ·exact fI (d:=.tup [oP x n y "r",.lst [.str "part",.str x,.str (nst n),.str y,.str "r"]]) (by simp! only[bb,sn,Nc,yJ]) ⟨_,["part",x,nst n,y,"r"],Dv hx hn hy Lp,rfl⟩
 refine pI (b:=r==6) (by simp! only[]) ?_ ?_
 ·exact fI (d:=.tup [oF x y n "n",.lst [.str "fuse",.str x,.str y,.str (nst n),.str "n"]]) (by simp! only[bb,sn,Nc,yJ]) ⟨_,["fuse",x,y,nst n,"n"],Dn hx hy hn Ln,rfl⟩
 refine pI (b:=r==7) (by simp! only[]) ?_ ?_
 ·exact fI (d:=.tup [oN n x,.lst [.str "nest",.str (nst n),.str x]]) (by simp! only[bb,sn,Kq,yJ]) ⟨_,["nest",nst n,x],DH hn hx,rfl⟩
 exact fI (d:=.tup [oU x,.lst [.str "unnest",.str x]]) (by simp! only[bb,M9,yJ]) ⟨_,["unnest",x],x3 hx,rfl⟩
theorem ir(x y:Str):(x++y).length=x.length+y.length:=by rw[aH,aN,Pp,<-aH,<-aH]
theorem gA{pre t u z:Str}{ρ:ak}{f g:FX}(e1:f ρ=.ok (.str t))(e2:g ρ=.ok (.str u))(hp:pre.length<=20)(hz:z.length<=20)(ht:t.length<=9000)(hu:u.length<=9000):f2 aD (f2 aD (f2 aD (f2 aD (fC (.str pre)) f) (fC (.str " "))) g) (fC (.str z)) ρ=.ok (.str (pre++t++" "++u++z)):=by
 have l1:(" ":Str).length=1:=by decide
 have a1:=j5 pre t ‹0›;have a2:=j5 (pre++t) " " (by rw[ir];omega);have a3:=j5 (pre++t++" ") u (by rw[ir,ir];omega);have a4:=j5 (pre++t++" "++u) z (by rw[ir,ir,ir];omega);simp! only[e1,e2,a1,a2,a3,a4]
theorem mn(t u:Str):("[join ":Str)++t++" "++u++"]"=tB "join" t u []:=gL (by
 rw[rk,fE,fE,wQ,aN,aN,aN,aN,show ay ("[join ":Str)=91::(ay "join"++[32])from by decide,show ay ("]":Str)=[93]from by decide,show ay (" ":Str)=[32]from by decide]
 simp)
theorem jp{n z:Str}(t u:Str)(hz:ay z=32::(ay n++[93])):("[gather ":Str)++t++" "++u++z=tB "gather" t u [n]:=gL (by
 rw[rk,fE,fE,fE,wQ,aN,aN,aN,aN,hz,show ay ("[gather ":Str)=91::(ay "gather"++[32])from by decide,show ay (" ":Str)=[32]from by decide]
 simp)
theorem zS(ys:ah)(h:(ys.map (·.length)).sum+ys.length<=90000):tV " " [.lst (ys.map .str)]=some (.str (Txt.join " " ys)):=by
 show(iP (ys.map .str)).bind (λys=>if small ((ys.map (λy=>y.length)).sum+ys.length*(" ":Str).length)then some (D.str (Txt.join " " ys))else none)=_;have e:(" ":Str).length=1:=by decide
 have h2:(ys.map (λy=>y.length)).sum+ys.length*(" ":Str).length<=100000:=by rw[e];omega
 rw[kz];show(if small _ then _ else _)=_;rw[cB h2];rfl
theorem qi{t:Str}{s:D}{sw:ah}{ρ:ak}{f g:FX}(h:mB s sw)(e1:f ρ=.ok (.str t))(e2:g ρ=.ok (.lst (sw.map .str)))(ht:t.length<=9000):f2 aD (f2 aD (fC (.str "(")) (qe (fC (.str " ")) (aa (f2 aD (gH (aa f af)) g) af))) (fC (.str ")")) ρ=.ok (.str (tO t sw)):=by
 have s1:=h.sm;have s2:=h.ln;have hs:((t::sw).map (·.length)).sum+(t::sw).length<=9300:=by
  rw[O5,QM,O3];omega
 have jl:=jI (t::sw);have a0:aD (.lst [.str t]) (.lst (sw.map .str))=some (.lst ((t::sw).map .str)):=tN _ _ (by rw[O6,Px];omega);have jn:=zS (t::sw) ‹0›;have l1:("(":Str).length=1:=by decide
 have l2:(")":Str).length=1:=by decide
 have a1:=j5 "(" (Txt.join " " (t::sw)) ‹0›;have a2:=j5 ("("++Txt.join " " (t::sw)) ")" (by rw[ir];omega);rw[O5]at a0 jn;simp! only[Ew,e1,e2,Ny,a0,jn,a1,a2]
theorem uT{A B C:FX}{ρ:ak}{a b c:D}(ha:A ρ=.ok a)(hb:B ρ=.ok b)(hc:C ρ=.ok c):dZ (aa A (aa B (aa C af))) ρ=.ok (.tup [a,b,c]):=by simp! only[ha,hb,hc,Dd]
theorem JG:me "in":=jJ (by decide +kernel)
theorem Cv:me "inner":=jJ (by decide +kernel)
theorem DT:me "side":=jJ (by decide +kernel)
noncomputable def GQ(r:R D):Prop:=∃g t w m,pU g t w m/\m<=3/\r=.ok (.tup [g,.str t,.int (m:Int)])
noncomputable abbrev oJ:D:=.obj "Join" [] []
noncomputable abbrev oG(a:Str):D:=.obj "Gather" ["name"] [.str a]
theorem En(c:Int):GQ (au eP 1 8 [.int c]):=by
 obtain⟨x,hx,ex⟩:=kC (c/17+1);obtain⟨y,hy,ey⟩:=kC (c/19+2);obtain⟨r,r0,r1,er⟩:=nG c 2 (by decide) 3 (by decide);obtain⟨q,_,_,eq⟩:=nG c 3 (by decide) 3 (by decide);have er:au aZ 3 5 [.int c,.int 2,.int 3]=.ok (.int r):=er;have eq:au aZ 3 5 [.int c,.int 3,.int 3]=.ok (.int q):=eq;have d17:=fq (i:=c) (show(0:Int)<17 by decide) (show(17:Int)<10^200 by decide);have d19:=fq (i:=c) (show(0:Int)<19 by decide) (show(19:Int)<10^200 by decide);have g2:=eQ (i:=c) (show(0:Int)<2 by decide);obtain⟨n,hn,rfl⟩:∃n:Nat,n<3/\r=(n:Int):=⟨r.toNat,by omega,by omega⟩
 rw[aE];unfold eP;refine eJ (d:=.str x) (ρ':=[‹.int c›,‹.str x›,none,none,none,none,none,none]) (by simp! only[d17,ex]) rfl ?_;refine eJ (d:=oL x) (ρ':=[‹.int c›,‹.str x›,‹oL x›,none,none,none,none,none]) (by simp! only[bb]) rfl ?_;refine eJ (d:=.int n) (ρ':=[‹.int c›,‹.str x›,‹oL x›,‹.int n›,none,none,none,none]) (by simp! only[er]) rfl ?_;rw[cY,jP];have rg:fW (aa (ae 3) af) [‹.int c›,‹.str x›,‹oL x›,‹.int n›,none,none,none,none]=.ok (fk 0 n):=by simp! only[jT n ‹0›]
 rw[rg,fJ];refine rh (Q:=GQ) (λi ρ=>∃(g:D)(t:Str)(w:ah),pU g t w i/\ρ=[‹.int c›,‹.str t›,‹g›,‹.int n›,none,none,none,none]) ?_ ⟨_,_,_,.lf hx,rfl⟩ ?_
 ·intro i d ρ k' hd;rintro⟨g,t,w,hg,rfl⟩;have hi:=qj hd;rw[fV]at hi;have hd':d=.int (i:Int):=by
   rw[mj,Pm,P7 hi]at hd
   have:=Option.some.inj hd
   rw[<-this];show D.int (0+(i:Int))=_;rw[Int.zero_add]
  subst hd';obtain⟨s,sw,hs,es⟩:=vX (c/((i:Int)+5)+3*(i:Int));have hl:=hg.len;refine⟨[‹.int c›,‹.str t›,‹g›,‹.int n›,‹.int i›,none,none,none],[‹.int c›,‹.str (tO t sw)›,‹oO g s›,‹.int n›,none,none,none,none],rfl,⟨_,_,_,.ov hg hs,rfl⟩,?_⟩;have dv:=fq (i:=c) (j:=(i:Int)+5) ‹0› ‹0›;have mu:=qP (i:=3) (j:=(i:Int)) (by decide) (by decide);refine tX (Q:=λz=>z=_) (d:=.tup [s,.lst (sw.map .str)]) (ρ':=[‹.int c›,‹.str t›,‹g›,‹.int n›,‹.int i›,‹s›,‹.lst (sw.map .str)›,none]) (by simp! only[dv,mu,es]) rfl ?_;refine eJ (Q:=λz=>z=_) (d:=oO g s) (ρ':=[‹.int c›,‹.str t›,‹oO g s›,‹.int n›,‹.int i›,‹s›,‹.lst (sw.map .str)›,none]) (by simp! only[bb]) rfl ?_;refine eJ (Q:=λz=>z=_) (d:=.str (tO t sw)) (ρ':=[‹.int c›,‹.str (tO t sw)›,‹oO g s›,‹.int n›,‹.int i›,‹s›,‹.lst (sw.map .str)›,none]) (qi hs rfl rfl ‹0›) rfl ?_;rfl
 ·rintro ρ' ⟨g,t,w,hg,rfl⟩;rw[fV]at hg;have hl:=hg.len;refine pI (Q:=GQ) (b:=q==0) (by simp! only[eq]) ?_ ?_
  ·refine eJ (d:=.str y) (ρ':=[‹.int c›,‹.str t›,‹g›,‹.int n›,none,none,none,‹.str y›]) (by simp! only[d19,ey]) rfl ?_;have hy8:=hy.eig;refine pI (b:=c%2==0) (by simp! only[g2]) ?_ ?_
   ·have tx:=gA (pre:="[join ") (t:=t) (u:=y) (z:="]") (ρ:=[‹.int c›,‹.str t›,‹g›,‹.int n›,none,none,none,‹.str y›]) (f:=ae 1) (g:=ae 7) rfl rfl (by decide) (by decide) ‹0› ‹0›;rw[mn]at tx;exact fI (d:=.tup [oB g (oL y) oJ,.str (tB "join" t y []),.int ((n:Int)+1)]) (uT (by simp! only[bb]) tx (by simp! only[])) ⟨_,_,_,_,.bo hg (.lf hy) rJ,by omega,by rw[show((n+0+1:Nat):Int)=(n:Int)+1 by omega]⟩
   ·have tx:=gA (pre:="[gather ") (t:=y) (u:=t) (z:=" in]") (ρ:=[‹.int c›,‹.str t›,‹g›,‹.int n›,none,none,none,‹.str y›]) (f:=ae 7) (g:=ae 1) rfl rfl (by decide) (by decide) ‹0› ‹0›;rw[jp (n:="in") _ _ (by decide)]at tx;exact fI (d:=.tup [oB (oL y) g (oG "in"),.str (tB "gather" y t ["in"]),.int ((n:Int)+1)]) (uT (by simp! only[bb]) tx (by simp! only[])) ⟨_,_,_,_,.bo (.lf hy) hg (mx JG),by omega,by rw[show((0+n+1:Nat):Int)=(n:Int)+1 by omega]⟩
  ·exact fI (d:=.tup [g,.str t,.int (n:Int)]) (by simp! only[Dd]) ⟨_,_,_,_,hg,by omega,rfl⟩
structure MO(F:D->D)(t t':Str)(k:Nat):Prop where
 gl:∀{g:D}{w:ah}{m:Nat},pU g t w m->∃w',pU (F g) t' w' (m+k)
 pl:∀{g:D}{m:Nat},kD g m->kD (F g) (m+k)
noncomputable def MQ(t:Str)(c:Int):Prop:=∃(F:D->D)(t':Str)(k:Nat),MO F t t' k/\∀g:D,au eU 3 9 [g,.str t,.int c]=.ok (.tup [F g,.str t',.int (k:Int)])
section
variable{Q:R D->Prop}{k:Ks}{ρ:ak}{A B:aS}{c:aX}{r j:Int}{i:Nat}
theorem tG(e:c ρ=.ok true)(h:Q (A {k with nx:=B k} ρ)):Q (aq (fm c A aU) B k ρ):=by
 rw[cY,jw,e,fJ];exact h
theorem lJ{b:Bool}(h:ph ρ i=.ok (.int r))(e:(r==j)=b):fB (f2 gQ (ae i) (fC (.int j))) ρ=.ok b:=by simp! only[h,e]
end
theorem jt{t:Str}{c:Int}{h:D}{u:Str}{n:Nat}{r:Int}{res:R D}{g:D}(es:au eP 1 8 [.int c]=.ok (.tup [h,.str u,.int (n:Int)]))(er:au aZ 3 5 [.int c,.int 1,.int 16]=.ok (.int r))(x:aS)
  (ex:eU=aq (rT (fR (au eP 1 8) (aa (ae 2) af)) (gT 3 (uG [3,4,5]))) (aq (bB 6 (fR (au aZ 3 5) (aa (ae 2) (aa (fC (.int 1)) (aa (fC (.int 16)) af))))) x))
  (hx:x K0 [‹g›,‹.str t›,‹.int c›,‹h›,‹.str u›,‹.int n›,‹.int r›,none,none]=res):au eU 3 9 [g,.str t,.int c]=res:=by
 rw[B3,ex];refine tX (Q:=λz=>z=_) (d:=.tup [h,.str u,.int n]) (ρ':=[‹g›,‹.str t›,‹.int c›,‹h›,‹.str u›,‹.int n›,none,none,none]) (by simp! only[es]) rfl ?_;exact eJ (Q:=λz=>z=_) (d:=.int r) (ρ':=[‹g›,‹.str t›,‹.int c›,‹h›,‹.str u›,‹.int n›,‹.int r›,none,none]) (by simp! only[er]) rfl hx
theorem Jw{h p:D}{t u f:Str}{v pw:ah}{n:Nat}(hh:pU h u v n)(hp:ve p f pw):MO (λg=>oB g h p) t (tB f t u pw) (n+1):=⟨λhg=>⟨_,.bo hg hh hp⟩,λhg=>.bl hg hh hp⟩
theorem J0{h p:D}{t u f:Str}{v pw:ah}{n:Nat}(hh:pU h u v n)(hp:ve p f pw):MO (λg=>oB h g p) t (tB f u t pw) (n+1):=⟨λ{g w m} hg=>⟨_,by
 have z:=pU.bo hh hg hp;rw[Nat.add_comm n m]at z;exact z⟩,λhg=>.br hh hg hp⟩
theorem E5(t:Str)(ht:t.length<=5000)(c:Int):MQ t c:=by
 obtain⟨h,u,v,n,hh,hn,es⟩:=En c;obtain⟨r,_,_,er⟩:=nG c 1 (by decide) 16 (by decide);obtain⟨s,sw,hs,ep⟩:=vX c;have er:au aZ 3 5 [.int c,.int 1,.int 16]=.ok (.int r):=er;have hu:=hh.len;have ki:(((n+1:Nat):Int))=(n:Int)+1:=by omega
 cases h0:r==0 with
 |true=>
  refine⟨_,_,_,Jw hh rJ,λg=>jt es er _ rfl ?_⟩;refine tG (Q:=λz=>z=_) (lJ rfl h0) ?_;have tx:=gA (pre:="[join ") (t:=t) (u:=u) (z:="]") (ρ:=[‹g›,‹.str t›,‹.int c›,‹h›,‹.str u›,‹.int n›,‹.int r›,none,none]) (f:=ae 1) (g:=ae 4) rfl rfl (by decide) (by decide) ‹0› ‹0›;rw[mn]at tx;rw[ki];exact fI (Q:=λz=>z=_) (uT (by simp! only[bb]) tx (by simp! only[])) rfl
 |false=>
 cases h1:r==1 with
 |true=>
  refine⟨_,_,_,J0 hh rJ,λg=>jt es er _ rfl ?_⟩;refine lE (Q:=λz=>z=_) (lJ rfl h0) (tG (Q:=λz=>z=_) (lJ rfl h1) ?_);have tx:=gA (pre:="[join ") (t:=u) (u:=t) (z:="]") (ρ:=[‹g›,‹.str t›,‹.int c›,‹h›,‹.str u›,‹.int n›,‹.int r›,none,none]) (f:=ae 4) (g:=ae 1) rfl rfl (by decide) (by decide) ‹0› ‹0›;rw[mn]at tx;rw[ki];exact fI (Q:=λz=>z=_) (uT (by simp! only[bb]) tx (by simp! only[])) rfl
 |false=>
 cases h2:r==2 with
 |true=>
  refine⟨_,_,_,Jw hh (mx Cv),λg=>jt es er _ rfl ?_⟩;refine lE (Q:=λz=>z=_) (lJ rfl h0) (lE (Q:=λz=>z=_) (lJ rfl h1) (tG (Q:=λz=>z=_) (lJ rfl h2) ?_));have tx:=gA (pre:="[gather ") (t:=t) (u:=u) (z:=" inner]") (ρ:=[‹g›,‹.str t›,‹.int c›,‹h›,‹.str u›,‹.int n›,‹.int r›,none,none]) (f:=ae 1) (g:=ae 4) rfl rfl (by decide) (by decide) ‹0› ‹0›;rw[jp (n:="inner") _ _ (by decide)]at tx;rw[ki];exact fI (Q:=λz=>z=_) (uT (by simp! only[bb]) tx (by simp! only[])) rfl
 |false=>
 cases h3:r==3 with
 |true=>
  refine⟨_,_,_,J0 hh (mx DT),λg=>jt es er _ rfl ?_⟩;refine lE (Q:=λz=>z=_) (lJ rfl h0) (lE (Q:=λz=>z=_) (lJ rfl h1) (lE (Q:=λz=>z=_) (lJ rfl h2) (tG (Q:=λz=>z=_) (lJ rfl h3) ?_)));have tx:=gA (pre:="[gather ") (t:=u) (u:=t) (z:=" side]") (ρ:=[‹g›,‹.str t›,‹.int c›,‹h›,‹.str u›,‹.int n›,‹.int r›,none,none]) (f:=ae 4) (g:=ae 1) rfl rfl (by decide) (by decide) ‹0› ‹0›;rw[jp (n:="side") _ _ (by decide)]at tx;rw[ki];exact fI (Q:=λz=>z=_) (uT (by simp! only[bb]) tx (by simp! only[])) rfl
 |false=>
  refine⟨λg=>oO g s,tO t sw,1,⟨λhg=>⟨_,.ov hg hs⟩,λhg=>.ov hg hs⟩,λg=>jt es er _ rfl ?_⟩;refine lE (Q:=λz=>z=_) (lJ rfl h0) (lE (Q:=λz=>z=_) (lJ rfl h1) (lE (Q:=λz=>z=_) (lJ rfl h2) (lE (Q:=λz=>z=_) (lJ rfl h3) ?_)));refine tX (Q:=λz=>z=_) (d:=.tup [s,.lst (sw.map .str)]) (ρ':=[‹g›,‹.str t›,‹.int c›,‹h›,‹.str u›,‹.int n›,‹.int r›,‹s›,‹.lst (sw.map .str)›]) (by simp! only[ep]) rfl ?_;exact fI (Q:=λz=>z=_) (uT (by simp! only[bb]) (qi hs rfl rfl ‹0›) (by simp! only[];rfl)) rfl
theorem D6{α:Type}{xs:List α}{a b:et}{x:α}(h:x∈cutD xs a b):x∈xs:=List.mem_of_mem_drop (List.mem_of_mem_take h)
theorem kD.to{p:D}{m n:Nat}(h:kD p m)(e:m=n):kD p n:=e ▸ h
theorem math(ns:List Int)(hl:ns.length<=63):au mL 1 10 [.lst (ns.map .int)]=.ok (.bl true):=by
 obtain⟨c0,e0⟩:=TD.KH ns 0 (by decide);have e0:au eM 2 2 [.lst (ns.map .int),.int 0]=.ok (.int c0):=e0;obtain⟨x,hx,ex⟩:=kC c0;have ai:∀d∈cutD (ns.map D.int) (some 1) (some 13),∃c:Int,d=.int c:=λd hd=>by
  obtain⟨c,_,rfl⟩:=List.mem_map.mp (D6 hd);exact⟨c,rfl⟩
 rw[aE];unfold mL;generalize ns.map D.int=L at *;refine eJ (Q:=λz=>z=_) (d:=.str x) (ρ':=[‹.lst L›,‹.str x›,none,none,none,none,none,none,none,none]) (by simp! only[e0,ex]) rfl ?_;refine eJ (Q:=λz=>z=_) (d:=oL x) (ρ':=[‹.lst L›,‹.str x›,‹oL x›,none,none,none,none,none,none,none]) (by simp! only[bb]) rfl ?_;refine eJ (Q:=λz=>z=_) (d:=oO (oL x) oX) (ρ':=[‹.lst L›,‹.str x›,‹oL x›,‹oO (oL x) oX›,none,none,none,none,none,none]) (by simp! only[bb]) rfl ?_;refine eJ (Q:=λz=>z=_) (d:=.int 0) (ρ':=[‹.lst L›,‹.str x›,‹oL x›,‹oO (oL x) oX›,‹.int 0›,none,none,none,none,none]) rfl rfl ?_;rw[cY,jP];have it:fS (cz (ae 0) (eI (fC (.int 1))) (eI (fC (.int 13)))) [‹.lst L›,‹.str x›,‹oL x›,‹oO (oL x) oX›,‹.int 0›,none,none,none,none,none]=.ok (cutD L (some 1) (some 13)):=by simp! only[]
 rw[it,fJ];refine rh (Q:=λz=>z=_) (λ_ ρ=>∃(g p:D)(t:Str)(w:ah)(n:Nat),pU g t w n/\kD p (n+1)/\n<12/\ρ=[‹.lst L›,‹.str t›,‹g›,‹p›,‹.int n›,none,none,none,none,none]) ?_ ⟨_,_,_,_,0,.lf hx,.pl (.lf hx),by decide,rfl⟩ ?_
 ·intro i d ρ k' hd;rintro⟨g,p,t,w,n,hg,hp,hn,rfl⟩;obtain⟨c,rfl⟩:=ai d (vh hd);have rf:=ky hp ‹0›;have len:=hg.len;obtain⟨F,t',k,mo,em⟩:=E5 t ‹0› c;have e1:=em g;have e2:=em p;by_cases hk:n+k<12
  ·obtain⟨w',hg'⟩:=mo.gl hg;have dk:decide ((n:Int)+(k:Int)<12)=true:=decide_eq_true ‹0›;refine⟨[‹.lst L›,‹.str t›,‹g›,‹p›,‹.int n›,‹.int c›,none,none,none,none],[‹.lst L›,‹.str t'›,‹F g›,‹F p›,‹.int ((n+k:Nat):Int)›,none,none,none,none,none],rfl,⟨_,_,_,_,_,hg',(mo.pl hp).to ‹0›,hk,rfl⟩,?_⟩;refine lE (Q:=λz=>z=_) (by simp! only[rf]) ?_;refine tX (Q:=λz=>z=_) (d:=.tup [F g,.str t',.int k]) (ρ':=[‹.lst L›,‹.str t›,‹g›,‹p›,‹.int n›,‹.int c›,‹F g›,‹.str t'›,‹.int k›,none]) (by simp! only[e1]) rfl ?_;refine tG (Q:=λz=>z=_) (by simp! only[dk]) ?_;refine eJ (Q:=λz=>z=_) (d:=F p) (ρ':=[‹.lst L›,‹.str t›,‹g›,‹F p›,‹.int n›,‹.int c›,‹F g›,‹.str t'›,‹.int k›,none]) (by simp! only[e2]) rfl ?_;refine eJ (Q:=λz=>z=_) (d:=F g) (ρ':=[‹.lst L›,‹.str t›,‹F g›,‹F p›,‹.int n›,‹.int c›,‹F g›,‹.str t'›,‹.int k›,none]) rfl rfl ?_;refine eJ (Q:=λz=>z=_) (d:=.str t') (ρ':=[‹.lst L›,‹.str t'›,‹F g›,‹F p›,‹.int n›,‹.int c›,‹F g›,‹.str t'›,‹.int k›,none]) rfl rfl ?_;refine Io (Q:=λz=>z=_) (d:=.int ((n+k:Nat):Int)) (ρ':=[‹.lst L›,‹.str t'›,‹F g›,‹F p›,‹.int ((n+k:Nat):Int)›,‹.int c›,‹F g›,‹.str t'›,‹.int k›,none]) (by simp! only[show(n:Int)+(k:Int)=((n+k:Nat):Int)by omega]) rfl ?_;rfl
  ·have dk:decide ((n:Int)+(k:Int)<12)=false:=decide_eq_false ‹0›;refine⟨[‹.lst L›,‹.str t›,‹g›,‹p›,‹.int n›,‹.int c›,none,none,none,none],[‹.lst L›,‹.str t›,‹g›,‹p›,‹.int n›,none,none,none,none,none],rfl,⟨_,_,_,_,_,hg,hp,hn,rfl⟩,?_⟩;refine lE (Q:=λz=>z=_) (by simp! only[rf]) ?_;refine tX (Q:=λz=>z=_) (d:=.tup [F g,.str t',.int k]) (ρ':=[‹.lst L›,‹.str t›,‹g›,‹p›,‹.int n›,‹.int c›,‹F g›,‹.str t'›,‹.int k›,none]) (by simp! only[e1]) rfl ?_;refine lE (Q:=λz=>z=_) (by simp! only[dk]) ?_;rfl
 ·rintro ρ' ⟨g,p,t,w,n,hg,hp,hn,rfl⟩;have sh:=hg.shown ‹0› 16 ‹0›;have rd:=C8 hg ‹0›;have r1:=ky hp ‹0›;have r2:=ky (.pl hg) ‹0›;refine eJ (Q:=λz=>z=_) (d:=.str t) (ρ':=[‹.lst L›,‹.str t›,‹g›,‹p›,‹.int n›,none,none,none,none,‹.str t›]) (by simp! only[sh]) rfl ?_;refine lE (Q:=λz=>z=_) (by simp! only[G0,BEq.rfl,r1,bb,r2]) ?_;exact fI (Q:=λz=>z=_) (d:=.bl true) (by simp! only[rd,sh,BEq.rfl,QH]) rfl
end Tk90
open PySem PySem.W PyProof.Rows
set_option maxRecDepth 100000 in
set_option maxHeartbeats 0 in
theorem PySem.Challenge.cw_twoglass_k90_glasses_written_holds : PySem.Challenge.rw_twoglass_k90_glasses_written.Holds := by
  refine hd90 ?_
  k_fill
  refine Tk90.walk (l := PySem.Challenge.rw_twoglass_k90_glasses_written) rfl rfl (fun w h Y => PySem.W.kIn_of Y) ?F Tk90.math
  case F =>
    intro w mg fa h KX G hmg
    refine' Tk90.all_mk KX G hmg ?ac0 ?ac1 ?ac2 ?ac3 ?ac4 ?ac5 ?ac6 ?ac7 ?ac8 ?ac9 ?ac10 ?ac11 ?ac12 ?a0 ?i0 ?l0 ?c0 ?k0 ?a1 ?i1 ?l1 ?c1 ?k1 ?a2 ?i2 ?l2 ?c2 ?k2 ?a3 ?i3 ?l3 ?c3 ?k3 ?a4 ?i4 ?l4 ?c4 ?k4 ?a5 ?i5 ?l5 ?c5 ?k5 ?a6 ?i6 ?l6 ?c6 ?k6 ?a7 ?i7 ?l7 ?c7 ?k7 ?a8 ?i8 ?l8 ?c8 ?k8 ?a9 ?i9 ?l9 ?c9 ?k9 ?a10 ?l10 ?c10 ?k10 ?a11 ?i11 ?l11 ?c11 ?k11 ?a12 ?i12 ?l12 ?c12 ?k12 ?a13 ?i13 ?l13 ?c13 ?k13 ?a14 ?i14 ?l14 ?c14 ?k14 ?a15 ?i15 ?l15 ?c15 ?k15 ?a16 ?i16 ?l16 ?c16 ?k16 ?a17 ?i17 ?l17 ?c17 ?k17 ?a18 ?i18 ?l18 ?c18 ?k18 ?a19 ?i19 ?l19 ?c19 ?k19 ?a20 ?i20 ?l20 ?c20 ?k20 ?a21 ?i21 ?l21 ?c21 ?k21 ?p0 ?q0 ?r0 ?s0 ?n0_0 ?n0_1 ?m0 ?kp0 ?p1 ?q1 ?r1 ?s1 ?n1_0 ?m1 ?kp1 ?p2 ?q2 ?r2 ?s2 ?n2_0 ?n2_1 ?m2 ?kp2 ?p3 ?q3 ?r3 ?s3 ?n3_0 ?m3 ?kp3 ?p4 ?q4 ?r4 ?s4 ?n4_0 ?n4_1 ?n4_2 ?n4_3 ?m4 ?kp4 ?p5 ?q5 ?r5 ?s5 ?n5_0 ?n5_1 ?n5_2 ?n5_3 ?m5 ?kp5 ?p6 ?q6 ?r6 ?s6 ?n6_0 ?n6_1 ?m6 ?kp6 ?p7 ?q7 ?r7 ?s7 ?n7_0 ?n7_1 ?m7 ?kp7 ?p8 ?q8 ?r8 ?s8 ?n8_0 ?n8_1 ?m8 ?kp8 ?p9 ?q9 ?r9 ?s9 ?n9_0 ?n9_1 ?n9_2 ?m9 ?kp9 ?p10 ?q10 ?r10 ?s10 ?n10_0 ?m10 ?kp10 ?p11 ?q11 ?r11 ?s11 ?o11 ?m11 ?kp11 ?p12 ?q12 ?r12 ?s12 ?o12 ?m12 ?kp12 ?vsg ?vtk ?vf8 ?vm8 ?vf9 ?vm9 ?vf10 ?vm10 ?vt8 ?vi8 ?yy8_8 ?vs8_10 ?vn8_10 ?vs8_9 ?vn8_9 ?vt9 ?vi9 ?yy9_9 ?vs9_10 ?vn9_10 ?vs9_8 ?vn9_8 ?xa0 ?xa1 ?xa2 ?xa3 ?xa4 ?xe0 ?xsg ?xtk ?xg0 ?xn0 ?xf0 ?xb0 ?xo0 ?xt0 ?xo1 ?xt1 ?xo2 ?xt2 ?xo3 ?xt3 ?xo4 ?xt4 ?xw1 ?xm1_0 ?xk0_0 ?xk2_0 ?vnx2_0 ?xk3_0 ?vnx3_0 ?xk4_0 ?vnx4_0 ?xv_ValueError_0 ?dd0 ?dd1 ?zz ?ke0 ?ke1 ?ke2 ?ke3 ?ke4 ?ke5 ?da0 ?dl0 ?dsx0 ?dex0 ?dt0_0 ?dxx0_0 ?dt0_1 ?dxx0_1 ?da1 ?dl1 ?dsx1 ?dex1 ?dt1_0 ?dxx1_0 ?dt1_1 ?dxx1_1 ?dt1_2 ?dxx1_2 ?dt1_3 ?dxx1_3 ?dt1_4 ?dxx1_4 ?dt1_5 ?dxx1_5 ?dt1_6 ?dxx1_6
    (case ac0 => k_is)
    (case ac1 => k_is)
    (case ac2 => k_is)
    (case ac3 => k_is)
    (case ac4 => k_is)
    (case ac5 => k_is)
    (case ac6 => k_is)
    (case ac7 => k_is)
    (case ac8 => k_is)
    (case ac9 => k_is)
    (case ac10 => k_is)
    (case ac11 => k_is)
    (case ac12 => k_is)
    (case a0 => k_is)
    (case i0 => k_is)
    (case l0 => delta TX.Lk; k_is)
    (case c0 => k_is)
    (case k0 => k_is)
    (case a1 => k_is)
    (case i1 => k_is)
    (case l1 => delta TX.Lk; k_is)
    (case c1 => k_is)
    (case k1 => k_is)
    (case a2 => k_is)
    (case i2 => k_is)
    (case l2 => delta TX.Lk; k_is)
    (case c2 => k_is)
    (case k2 => k_is)
    (case a3 => k_is)
    (case i3 => k_is)
    (case l3 => delta TX.Lk; k_is)
    (case c3 => k_is)
    (case k3 => k_is)
    (case a4 => k_is)
    (case i4 => k_is)
    (case l4 => delta TX.Lk; k_is)
    (case c4 => k_is)
    (case k4 => k_is)
    (case a5 => k_is)
    (case i5 => k_is)
    (case l5 => delta TX.Lk; k_is)
    (case c5 => k_is)
    (case k5 => k_is)
    (case a6 => k_is)
    (case i6 => k_is)
    (case l6 => delta TX.Lk; k_is)
    (case c6 => k_is)
    (case k6 => k_is)
    (case a7 => k_is)
    (case i7 => k_is)
    (case l7 => delta TX.Lk; k_is)
    (case c7 => k_is)
    (case k7 => k_is)
    (case a8 => k_is)
    (case i8 => k_is)
    (case l8 => delta TX.Lk; k_is)
    (case c8 => k_is)
    (case k8 => k_is)
    (case a9 => k_is)
    (case i9 => k_is)
    (case l9 => delta TX.Lk; k_is)
    (case c9 => k_is)
    (case k9 => k_is)
    (case a10 => k_is)
    (case l10 => delta TX.Lk; k_is)
    (case c10 => k_is)
    (case k10 => k_is)
    (case a11 => k_is)
    (case i11 => k_is)
    (case l11 => delta TX.Lk; k_is)
    (case c11 => k_is)
    (case k11 => k_is)
    (case a12 => k_is)
    (case i12 => k_is)
    (case l12 => delta TX.Lk; k_is)
    (case c12 => k_is)
    (case k12 => k_is)
    (case a13 => k_is)
    (case i13 => k_is)
    (case l13 => delta TX.Lk; k_is)
    (case c13 => k_is)
    (case k13 => k_is)
    (case a14 => k_is)
    (case i14 => k_is)
    (case l14 => delta TX.Lk; k_is)
    (case c14 => k_is)
    (case k14 => k_is)
    (case a15 => k_is)
    (case i15 => k_is)
    (case l15 => delta TX.Lk; k_is)
    (case c15 => k_is)
    (case k15 => k_is)
    (case a16 => k_is)
    (case i16 => k_is)
    (case l16 => delta TX.Lk; k_is)
    (case c16 => k_is)
    (case k16 => k_is)
    (case a17 => k_is)
    (case i17 => k_is)
    (case l17 => delta TX.Lk; k_is)
    (case c17 => k_is)
    (case k17 => k_is)
    (case a18 => k_is)
    (case i18 => k_is)
    (case l18 => delta TX.Lk; k_is)
    (case c18 => k_is)
    (case k18 => k_is)
    (case a19 => k_is)
    (case i19 => k_is)
    (case l19 => delta TX.Lk; k_is)
    (case c19 => k_is)
    (case k19 => k_is)
    (case a20 => k_is)
    (case i20 => k_is)
    (case l20 => delta TX.Lk; k_is)
    (case c20 => k_is)
    (case k20 => k_is)
    (case a21 => k_is)
    (case i21 => k_is)
    (case l21 => delta TX.Lk; k_is)
    (case c21 => k_is)
    (case k21 => k_is)
    (case p0 => k_is)
    (case q0 => k_is)
    (case r0 => k_is)
    (case s0 => k_is)
    (case n0_0 => k_is)
    (case n0_1 => k_is)
    (case m0 => k_is)
    (case kp0 => k_is)
    (case p1 => k_is)
    (case q1 => k_is)
    (case r1 => k_is)
    (case s1 => k_is)
    (case n1_0 => k_is)
    (case m1 => k_is)
    (case kp1 => k_is)
    (case p2 => k_is)
    (case q2 => k_is)
    (case r2 => k_is)
    (case s2 => k_is)
    (case n2_0 => k_is)
    (case n2_1 => k_is)
    (case m2 => k_is)
    (case kp2 => k_is)
    (case p3 => k_is)
    (case q3 => k_is)
    (case r3 => k_is)
    (case s3 => k_is)
    (case n3_0 => k_is)
    (case m3 => k_is)
    (case kp3 => k_is)
    (case p4 => k_is)
    (case q4 => k_is)
    (case r4 => k_is)
    (case s4 => k_is)
    (case n4_0 => k_is)
    (case n4_1 => k_is)
    (case n4_2 => k_is)
    (case n4_3 => k_is)
    (case m4 => k_is)
    (case kp4 => k_is)
    (case p5 => k_is)
    (case q5 => k_is)
    (case r5 => k_is)
    (case s5 => k_is)
    (case n5_0 => k_is)
    (case n5_1 => k_is)
    (case n5_2 => k_is)
    (case n5_3 => k_is)
    (case m5 => k_is)
    (case kp5 => k_is)
    (case p6 => k_is)
    (case q6 => k_is)
    (case r6 => k_is)
    (case s6 => k_is)
    (case n6_0 => k_is)
    (case n6_1 => k_is)
    (case m6 => k_is)
    (case kp6 => k_is)
    (case p7 => k_is)
    (case q7 => k_is)
    (case r7 => k_is)
    (case s7 => k_is)
    (case n7_0 => k_is)
    (case n7_1 => k_is)
    (case m7 => k_is)
    (case kp7 => k_is)
    (case p8 => k_is)
    (case q8 => k_is)
    (case r8 => k_is)
    (case s8 => k_is)
    (case n8_0 => k_is)
    (case n8_1 => k_is)
    (case m8 => k_is)
    (case kp8 => k_is)
    (case p9 => k_is)
    (case q9 => k_is)
    (case r9 => k_is)
    (case s9 => k_is)
    (case n9_0 => k_is)
    (case n9_1 => k_is)
    (case n9_2 => k_is)
    (case m9 => k_is)
    (case kp9 => k_is)
    (case p10 => k_is)
    (case q10 => k_is)
    (case r10 => k_is)
    (case s10 => k_is)
    (case n10_0 => k_is)
    (case m10 => k_is)
    (case kp10 => k_is)
    (case p11 => k_is)
    (case q11 => k_is)
    (case r11 => k_is)
    (case s11 => k_is)
    (case o11 => k_is)
    (case m11 => k_is)
    (case kp11 => k_is)
    (case p12 => k_is)
    (case q12 => k_is)
    (case r12 => k_is)
    (case s12 => k_is)
    (case o12 => k_is)
    (case m12 => k_is)
    (case kp12 => k_is)
    (case vsg => k_is)
    (case vtk => k_is)
    (case vf8 => k_is)
    (case vm8 => k_is)
    (case vf9 => k_is)
    (case vm9 => k_is)
    (case vf10 => k_is)
    (case vm10 => k_is)
    (case vt8 => k_is)
    (case vi8 => k_is)
    (case yy8_8 => k_is)
    (case vs8_10 => k_is)
    (case vn8_10 => decide)
    (case vs8_9 => k_is)
    (case vn8_9 => decide)
    (case vt9 => k_is)
    (case vi9 => k_is)
    (case yy9_9 => k_is)
    (case vs9_10 => k_is)
    (case vn9_10 => decide)
    (case vs9_8 => k_is)
    (case vn9_8 => decide)
    (case xa0 => k_is)
    (case xa1 => k_is)
    (case xa2 => k_is)
    (case xa3 => k_is)
    (case xa4 => k_is)
    (case xe0 => kernel_rfl)
    (case xsg => k_is)
    (case xtk => k_is)
    (case xg0 => k_is)
    (case xn0 => k_is)
    (case xf0 => k_is)
    (case xb0 => k_is)
    (case xo0 => k_is)
    (case xt0 => k_is)
    (case xo1 => k_is)
    (case xt1 => k_is)
    (case xo2 => k_is)
    (case xt2 => k_is)
    (case xo3 => k_is)
    (case xt3 => k_is)
    (case xo4 => k_is)
    (case xt4 => k_is)
    (case xw1 => k_is)
    (case xm1_0 => k_is)
    (case xk0_0 => k_is)
    (case xk2_0 => k_is)
    (case vnx2_0 => decide)
    (case xk3_0 => k_is)
    (case vnx3_0 => decide)
    (case xk4_0 => k_is)
    (case vnx4_0 => decide)
    (case xv_ValueError_0 => k_is)
    (case ke0 => k_is)
    (case ke1 => k_is)
    (case ke2 => k_is)
    (case ke3 => k_is)
    (case ke4 => k_is)
    (case ke5 => k_is)
    (case da0 => k_is)
    (case dl0 => k_is)
    (case dsx0 => rfl)
    (case dex0 => rfl)
    (case dt0_0 => k_is)
    (case dxx0_0 => rfl)
    (case dt0_1 => k_is)
    (case dxx0_1 => rfl)
    (case da1 => k_is)
    (case dl1 => k_is)
    (case dsx1 => rfl)
    (case dex1 => rfl)
    (case dt1_0 => k_is)
    (case dxx1_0 => rfl)
    (case dt1_1 => k_is)
    (case dxx1_1 => rfl)
    (case dt1_2 => k_is)
    (case dxx1_2 => rfl)
    (case dt1_3 => k_is)
    (case dxx1_3 => rfl)
    (case dt1_4 => k_is)
    (case dxx1_4 => rfl)
    (case dt1_5 => k_is)
    (case dxx1_5 => rfl)
    (case dt1_6 => k_is)
    (case dxx1_6 => rfl)
    case dd0|dd1 => (repeat (refine' TX.KDs.mk (TX.KD.mk ?a ?l ?c ?k) ?_;(case a|l|c|k => first|delta TX.Lk;k_is|k_is)));trivial
    case zz => (repeat (refine TX.KZs.mk (by k_is) ?_));trivial

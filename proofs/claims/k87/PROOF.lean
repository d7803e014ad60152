import PyProof.Rows.All
import KE.KDictList
import KE.KSortTup
import KE.KTreeD
import KE.KTryMore
import Wide.FinOn
import PySem.Challenge.RW_twoglass_k87_two_that_stay
set_option Elab.async false
set_option linter.all false
set_option maxRecDepth 100000
section
open PySem PySem.W PyProof.Rows
theorem PySem.W.Fast.tw13375022901961332836 : True := trivial
theorem PySem.W.Fast.tw4442502538130102778 : True := trivial
theorem PySem.W.Fast.tw10713790847848442177 : True := trivial
theorem PySem.W.Fast.tw13158247403110520332 : True := trivial
theorem PySem.W.Fast.tw1810332471838889711 : True := trivial
theorem PySem.W.Fast.tw178542471223480209 : True := trivial
theorem PySem.W.Fast.tw10923705812794724997 : True := trivial
theorem PySem.W.Fast.tw14437221665938985691 : True := trivial
theorem PySem.W.Fast.tw17277561308966828992 : True := trivial
theorem PySem.W.Fast.tw8813687888200332257 : True := trivial
theorem PySem.W.Fast.tw6730832960502647861 : True := trivial
theorem PySem.W.Fast.tw15456036897058134173 : True := trivial
theorem PySem.W.Fast.tw16120541360412844169 : True := trivial
theorem PySem.W.Fast.tw2056513242873835586 : True := trivial
theorem PySem.W.Fast.tw9654633782546313100 : True := trivial
theorem PySem.W.Fast.tw10926923679663509860 : True := trivial
theorem PySem.W.Fast.tw13155965541508477541 : True := trivial
theorem PySem.W.Fast.tw2417734904867507837 : True := trivial
theorem PySem.W.Fast.tw11300251411609524917 : True := trivial
theorem PySem.W.Fast.tw17444606355334113471 : True := trivial
theorem PySem.W.Fast.tw8619754470845258319 : True := trivial
theorem PySem.W.Fast.tw7895395059160254136 : True := trivial
theorem PySem.W.Fast.tw18375628567445870372 : True := trivial
theorem PySem.W.Fast.tw17503718454922587812 : True := trivial
theorem PySem.W.Fast.tw9810723212281679221 : True := trivial
theorem PySem.W.Fast.tw12816028676971446468 : True := trivial
theorem PySem.W.Fast.tw6057594389606696073 : True := trivial
theorem PySem.W.Fast.tw6054450746363497876 : True := trivial
theorem PySem.W.Fast.tw5420765956169333072 : True := trivial
theorem PySem.W.Fast.tw5372216255554998645 : True := trivial
theorem PySem.W.Fast.tw14472897138047121945 : True := trivial
theorem PySem.W.Fast.tw11668918396529731765 : True := trivial
theorem PySem.W.Fast.tw12394139533110519442 : True := trivial
theorem PySem.W.Fast.tw9067743863604552746 : True := trivial
theorem PySem.W.Fast.tw8283895713600936244 : True := trivial
theorem PySem.W.Fast.tw15545756591552415628 : True := trivial
theorem PySem.W.Fast.tw16914545150946992960 : True := trivial
theorem PySem.W.Fast.tw6590522579173797337 : True := trivial
theorem PySem.W.Fast.tw16042688896773451335 : True := trivial
theorem PySem.W.Fast.tw14463017235793415346 : True := trivial
theorem PySem.W.Fast.tw11531563083993328909 : True := trivial
theorem PySem.W.Fast.tw14442903310100712454 : True := trivial
theorem PySem.W.Fast.tw7411644715376405068 : True := trivial
theorem PySem.W.Fast.tw14594187852600267466 : True := trivial
theorem PySem.W.Fast.tw1505217349354588503 : True := trivial
theorem PySem.W.Fast.tw598773715794506786 : True := trivial
theorem PySem.W.Fast.tw10610815150367285624 : True := trivial
theorem PySem.W.Fast.tw17030760703722079391 : True := trivial
theorem PySem.W.Fast.tw9945697485632662441 : True := trivial
theorem PySem.W.Fast.tw6195876495679102111 : True := trivial
theorem PySem.W.Fast.tw4699796238070153694 : True := trivial
theorem PySem.W.Fast.tw17446974185374892760 : True := trivial
theorem PySem.W.Fast.tw8964611987659557206 : True := trivial
theorem PySem.W.Fast.tw17082939230769293627 : True := trivial
theorem PySem.W.Fast.tw15264251617881820354 : True := trivial
theorem PySem.W.Fast.tw15320784799490353401 : True := trivial
theorem PySem.W.Fast.tw12415986501603409293 : True := trivial
theorem PySem.W.Fast.tw879532637924510730 : True := trivial
theorem PySem.W.Fast.tw9760255089681885073 : True := trivial
theorem PySem.W.Fast.tw14761102828063536328 : True := trivial
theorem PySem.W.Fast.tw1802607645486942908 : True := trivial
theorem PySem.W.Fast.tw1943959757485382888 : True := trivial
theorem PySem.W.Fast.tw9313915128652409393 : True := trivial
theorem PySem.W.Fast.tw1906067654505878546 : True := trivial
theorem PySem.W.Fast.tw2156297762994399676 : True := trivial
theorem PySem.W.Fast.tw3302834623668090447 : True := trivial
theorem PySem.W.Fast.tw3193123699090434339 : True := trivial
theorem PySem.W.Fast.tw16268659125814213063 : True := trivial
theorem PySem.W.Fast.tw18394174733364120097 : True := trivial
theorem PySem.W.Fast.tw17582686061741171080 : True := trivial
theorem PySem.W.Fast.tw10935965166786719179 : True := trivial
theorem PySem.W.Fast.tw17968202034711062816 : True := trivial
theorem PySem.W.Fast.tw13691239368897835839 : True := trivial
theorem PySem.W.Fast.tw2939927085790956325 : True := trivial
theorem PySem.W.Fast.tw194824081105336594 : True := trivial
theorem PySem.W.Fast.tw5411643715464825507 : True := trivial
theorem PySem.W.Fast.tw6238356148115886936 : True := trivial
theorem PySem.W.Fast.tw16924696504867532351 : True := trivial
theorem PySem.W.Fast.tw9379342297582327632 : True := trivial
theorem PySem.W.Fast.tw8993031329619719139 : True := trivial
theorem PySem.W.Fast.tw7510413170543040374 : True := trivial
theorem PySem.W.Fast.tw9427710736639885698 : True := trivial
theorem PySem.W.Fast.tw2527525376702869507 : True := trivial
theorem PySem.W.Fast.tw14673207664025220408 : True := trivial
theorem PySem.W.Fast.tw3846639093734595973 : True := trivial
theorem PySem.W.Fast.tw17930495092230960486 : True := trivial
theorem PySem.W.Fast.tw6414084114635639311 : True := trivial
theorem PySem.W.Fast.tw15701735146724982741 : True := trivial
theorem PySem.W.Fast.tw8843798915983996585 : True := trivial
theorem PySem.W.Fast.tw3878642056958522526 : True := trivial
theorem PySem.W.Fast.tw13032993681592322801 : True := trivial
theorem PySem.W.Fast.tw459910307323004747 : True := trivial
theorem PySem.W.Fast.tw10818715737390899243 : True := trivial
theorem PySem.W.Fast.tw9802426799217947273 : True := trivial
theorem PySem.W.Fast.tw5212075527729757624 : True := trivial
theorem PySem.W.Fast.tw14334900354771131627 : True := trivial
theorem PySem.W.Fast.tw16771821101109650403 : True := trivial
theorem PySem.W.Fast.tw8355662379023635200 : True := trivial
theorem PySem.W.Fast.tw6433969924620210352 : True := trivial
theorem PySem.W.Fast.tw17032521379103642152 : True := trivial
theorem PySem.W.Fast.tw2357969984796574550 : True := trivial
theorem PySem.W.Fast.tw10961321391733665854 : True := trivial
theorem PySem.W.Fast.tw12781742086670876083 : True := trivial
theorem PySem.W.Fast.tw6015369575341917474 : True := trivial
theorem PySem.W.Fast.tw12176001234550453558 : True := trivial
theorem PySem.W.Fast.tw4855755027776733246 : True := trivial
theorem PySem.W.Fast.tw146107585005054008 : True := trivial
theorem PySem.W.Fast.tw1167333576719649426 : True := trivial
theorem PySem.W.Fast.tw13350350378743163944 : True := trivial
theorem PySem.W.Fast.tw6848821676052252589 : True := trivial
theorem PySem.W.Fast.tw3739079889584405937 : True := trivial
theorem PySem.W.Fast.tw791944439419478037 : True := trivial
theorem PySem.W.Fast.tw3581350196480480746 : True := trivial
theorem PySem.W.Fast.tw4381190753170680578 : True := trivial
theorem PySem.W.Fast.tw14456089505866122163 : True := trivial
theorem PySem.W.Fast.tw15947936678372428578 : True := trivial
theorem PySem.W.Fast.tw8572324523018747639 : True := trivial
theorem PySem.W.Fast.tw18254066216213863860 : True := trivial
theorem PySem.W.Fast.tw13832913515365897219 : True := trivial
theorem PySem.W.Fast.tw15434070032948745873 : True := trivial
theorem PySem.W.Fast.tw1948834705363536847 : True := trivial
theorem PySem.W.Fast.tw17264485691242381525 : True := trivial
theorem PySem.W.Fast.tw14699154948959387042 : True := trivial
theorem PySem.W.Fast.tw9988505187075753235 : True := trivial
theorem PySem.W.Fast.tw17853201440272587261 : True := trivial
theorem PySem.W.Fast.tw683547688917551676 : True := trivial
theorem PySem.W.Fast.tw2316128993726468271 : True := trivial
theorem PySem.W.Fast.tw18044953570668511625 : True := trivial
theorem PySem.W.Fast.tw6334579380300964037 : True := trivial
theorem PySem.W.Fast.tw4491120385626560113 : True := trivial
theorem PySem.W.Fast.tw6079950068564437050 : True := trivial
theorem PySem.W.Fast.tw10581317558798017569 : True := trivial
theorem PySem.W.Fast.tw6426787850522722586 : True := trivial
theorem PySem.W.Fast.tw18352250067346777288 : True := trivial
theorem PySem.W.Fast.tw18006766262781796862 : True := trivial
theorem PySem.W.Fast.tw3237740208961219935 : True := trivial
theorem PySem.W.Fast.tw7982558097678560495 : True := trivial
theorem PySem.W.Fast.tw15882306798919576399 : True := trivial
theorem PySem.W.Fast.tw14177754264008511899 : True := trivial
theorem PySem.W.Fast.tw15083402006838891349 : True := trivial
theorem PySem.W.Fast.tw14388033228555641942 : True := trivial
theorem PySem.W.Fast.tw8234966513178116964 : True := trivial
theorem PySem.W.Fast.tw5525663505912698090 : True := trivial
theorem PySem.W.Fast.tw9315363430833328596 : True := trivial
theorem PySem.W.Fast.tw8966932050578591920 : True := trivial
theorem PySem.W.Fast.tw1032119791733845696 : True := trivial
theorem PySem.W.Fast.tw7882091095244767104 : True := trivial
theorem PySem.W.Fast.tw3776715446618365731 : True := trivial
theorem PySem.W.Fast.tw196505802673306298 : True := trivial
theorem PySem.W.Fast.tw5511149768057909791 : True := trivial
theorem PySem.W.Fast.tw463648563737916833 : True := trivial
theorem PySem.W.Fast.tw17025090899883580242 : True := trivial
theorem PySem.W.Fast.tw924679835582236648 : True := trivial
theorem PySem.W.Fast.tw1736335624908679053 : True := trivial
theorem PySem.W.Fast.tw9436992634133636501 : True := trivial
theorem PySem.W.Fast.tw4546640229243736822 : True := trivial
theorem PySem.W.Fast.tw9358414213820385737 : True := trivial
theorem PySem.W.Fast.tw416945153392606914 : True := trivial
theorem PySem.W.Fast.tw1719244662706599461 : True := trivial
theorem PySem.W.Fast.tw5492258785210338896 : True := trivial
theorem PySem.W.Fast.tw7003881976849133216 : True := trivial
theorem PySem.W.Fast.tw13852464183522748711 : True := trivial
theorem PySem.W.Fast.tw3671389065660581824 : True := trivial
theorem PySem.W.Fast.tw5094131711000603990 : True := trivial
theorem PySem.W.Fast.tw11591610853769720749 : True := trivial
theorem PySem.W.Fast.tw4258361002401346474 : True := trivial
theorem PySem.W.Fast.tw7767608124708809397 : True := trivial
theorem PySem.W.Fast.tw8543578079627848780 : True := trivial
theorem PySem.W.Fast.tw11539562281461712612 : True := trivial
theorem PySem.W.Fast.tw2789694825472570291 : True := trivial
theorem PySem.W.Fast.tw10695097341813941923 : True := trivial
theorem PySem.W.Fast.tw4808249342489603162 : True := trivial
theorem PySem.W.Fast.tw1430570326431653360 : True := trivial
theorem PySem.W.Fast.tw17806326373413606234 : True := trivial
theorem PySem.W.Fast.tw9905996203391422399 : True := trivial
theorem PySem.W.Fast.tw8317400836301342706 : True := trivial
theorem PySem.W.Fast.tw10116275437541525005 : True := trivial
theorem PySem.W.Fast.tw10267019121421491191 : True := trivial
theorem PySem.W.Fast.tw12187275446930019548 : True := trivial
theorem PySem.W.Fast.tw13669798492747762319 : True := trivial
theorem PySem.W.Fast.tw14297158391562939759 : True := trivial
theorem PySem.W.Fast.tw3689178070192608716 : True := trivial
theorem PySem.W.Fast.tw4189649861209015417 : True := trivial
theorem PySem.W.Fast.tw4784334143375308225 : True := trivial
theorem PySem.W.Fast.tw5634687885874818538 : True := trivial
theorem PySem.W.Fast.tw13522264678830640023 : True := trivial
theorem PySem.W.Fast.tw12364341847142033199 : True := trivial
theorem PySem.W.Fast.tw3279091651102254682 : True := trivial
theorem PySem.W.Fast.tw5638103791261479730 : True := trivial
theorem PySem.W.Fast.tw14038269270322118962 : True := trivial
theorem PySem.W.Fast.tw3480634280374695156 : True := trivial
theorem PySem.W.Fast.tw17472903988968115123 : True := trivial
theorem PySem.W.Fast.tw13409325801959905511 : True := trivial
theorem PySem.W.Fast.tw17390404403690885568 : True := trivial
theorem PySem.W.Fast.tw11260007539201960863 : True := trivial
theorem PySem.W.Fast.tw7369811605383631536 : True := trivial
theorem PySem.W.Fast.tw4138146461753687473 : True := trivial
theorem PySem.W.Fast.tw1186934021893595618 : True := trivial
theorem PySem.W.Fast.tw15886441213244455188 : True := trivial
theorem PySem.W.Fast.tw15411334915033263831 : True := trivial
theorem PySem.W.Fast.tw7500438284287675111 : True := trivial
theorem PySem.W.Fast.tw18403086979731708793 : True := trivial
theorem PySem.W.Fast.tw17550967221674892270 : True := trivial
theorem PySem.W.Fast.tw691902992306000936 : True := trivial
theorem PySem.W.Fast.tw14763867121615916363 : True := trivial
theorem PySem.W.Fast.tw4692419278949977410 : True := trivial
theorem PySem.W.Fast.tw12177734403326904377 : True := trivial
theorem PySem.W.Fast.tw4939053958597978821 : True := trivial
theorem PySem.W.Fast.tw4185148341886245039 : True := trivial
theorem PySem.W.Fast.tw1199008435760280688 : True := trivial
theorem PySem.W.Fast.tw5108468586141778600 : True := trivial
theorem PySem.W.Fast.tw11700252284541737182 : True := trivial
theorem PySem.W.Fast.tw13407764798634074097 : True := trivial
theorem PySem.W.Fast.tw17127152918166588224 : True := trivial
theorem PySem.W.Fast.tw924593016475347594 : True := trivial
theorem PySem.W.Fast.tw16379589127568366798 : True := trivial
theorem PySem.W.Fast.tw8411429263029660194 : True := trivial
theorem PySem.W.Fast.tw7786412081800637055 : True := trivial
theorem PySem.W.Fast.tw8646282036512667119 : True := trivial
theorem PySem.W.Fast.tw13407740568329365136 : True := trivial
theorem PySem.W.Fast.tw18154959684621031209 : True := trivial
theorem PySem.W.Fast.tw1151908999609703910 : True := trivial
theorem PySem.W.Fast.tw15906974198526443508 : True := trivial
theorem PySem.W.Fast.tw13307988131527627549 : True := trivial
theorem PySem.W.Fast.tw597298632572103047 : True := trivial
theorem PySem.W.Fast.tw2298952276206040851 : True := trivial
theorem PySem.W.Fast.tw13081492493871480595 : True := trivial
theorem PySem.W.Fast.tw2341705130264544123 : True := trivial
theorem PySem.W.Fast.tw6388114301585848030 : True := trivial
theorem PySem.W.Fast.tw17488019412327061615 : True := trivial
theorem PySem.W.Fast.tw5081843733606621207 : True := trivial
theorem PySem.W.Fast.tw11557491339367502432 : True := trivial
theorem PySem.W.Fast.tw17401083619775940455 : True := trivial
theorem PySem.W.Fast.tw3986130461170882393 : True := trivial
theorem PySem.W.Fast.tw4960952483569546101 : True := trivial
theorem PySem.W.Fast.tw1227172302960193995 : True := trivial
theorem PySem.W.Fast.tw12357184247486178529 : True := trivial
theorem PySem.W.Fast.tw14313639647973831296 : True := trivial
theorem PySem.W.Fast.tw6152597799396405222 : True := trivial
theorem PySem.W.Fast.tw10814163233490611954 : True := trivial
theorem PySem.W.Fast.tw15668160177593857985 : True := trivial
theorem PySem.W.Fast.tw5662995337659378584 : True := trivial
theorem PySem.W.Fast.tw12414424534585622155 : True := trivial
theorem PySem.W.Fast.tw16473360691776859955 : True := trivial
theorem PySem.W.Fast.tw14876718638047179559 : True := trivial
theorem PySem.W.Fast.tw1977859183733168278 : True := trivial
theorem PySem.W.Fast.tw13457137942275530120 : True := trivial
theorem PySem.W.Fast.tw14525905608178985867 : True := trivial
theorem PySem.W.Fast.tw653366028546198247 : True := trivial
theorem PySem.W.Fast.tw13005033470245785462 : True := trivial
theorem PySem.W.Fast.tw4384748215954390608 : True := trivial
theorem PySem.W.Fast.tw1188575498982106093 : True := trivial
theorem PySem.W.Fast.tw5945860914446657593 : True := trivial
theorem PySem.W.Fast.tw4576269153680976227 : True := trivial
theorem PySem.W.Fast.tw14051554389949464891 : True := trivial
theorem PySem.W.Fast.tw8686232781799629462 : True := trivial
theorem PySem.W.Fast.tw7818451599395910225 : True := trivial
theorem PySem.W.Fast.tw15079667456948038267 : True := trivial
theorem PySem.W.Fast.tw13160281282724021108 : True := trivial
theorem PySem.W.Fast.tw3067496117879391543 : True := trivial
theorem PySem.W.Fast.tw9945371633893845770 : True := trivial
theorem PySem.W.Fast.tw18124203270670195186 : True := trivial
theorem PySem.W.Fast.tw2011454121867784529 : True := trivial
theorem PySem.W.Fast.tw5380947570283548625 : True := trivial
theorem PySem.W.Fast.tw11533586161057133940 : True := trivial
theorem PySem.W.Fast.tw1688839441096670245 : True := trivial
theorem PySem.W.Fast.tw9699148579660654031 : True := trivial
theorem PySem.W.Fast.tw9565219246993246513 : True := trivial
theorem PySem.W.Fast.tw7471358937419753902 : True := trivial
theorem PySem.W.Fast.tw2750114163055142219 : True := trivial
theorem PySem.W.Fast.tw2847050213715651856 : True := trivial
theorem PySem.W.Fast.tw1116874449070340542 : True := trivial
theorem PySem.W.Fast.tw4819272285212935839 : True := trivial
theorem PySem.W.Fast.tw243084471872675472 : True := trivial
theorem PySem.W.Fast.tw15411484054002680723 : True := trivial
theorem PySem.W.Fast.tw3180132383863887136 : True := trivial
theorem PySem.W.Fast.tw17500714012303547479 : True := trivial
theorem PySem.W.Fast.tw17331131557333980052 : True := trivial
theorem PySem.W.Fast.tw4314944914427094009 : True := trivial
theorem PySem.W.Fast.tw9531721024593276944 : True := trivial
theorem PySem.W.Fast.tw6149112780538674705 : True := trivial
theorem PySem.W.Fast.tw17337424078775161998 : True := trivial
theorem PySem.W.Fast.tw3756747576095093859 : True := trivial
theorem PySem.W.Fast.tw6345905223360818546 : True := trivial
theorem PySem.W.Fast.tw9484669119792386854 : True := trivial
theorem PySem.W.Fast.tw17612372749508268972 : True := trivial
theorem PySem.W.Fast.tw16338924413288088188 : True := trivial
theorem PySem.W.Fast.tw7011842075066422032 : True := trivial
theorem PySem.W.Fast.tw11046085310010607271 : True := trivial
theorem PySem.W.Fast.tw12824880742221018763 : True := trivial
theorem PySem.W.Fast.tw14608782599646230931 : True := trivial
theorem PySem.W.Fast.tw18256855008424231188 : True := trivial
theorem PySem.W.Fast.tw4370171773622214791 : True := trivial
theorem PySem.W.Fast.tw13948842314236110384 : True := trivial
theorem PySem.W.Fast.tw7777436111439493807 : True := trivial
theorem PySem.W.Fast.tw2611992641476373151 : True := trivial
theorem PySem.W.Fast.tw11879501550076856026 : True := trivial
theorem PySem.W.Fast.tw4609500091373949141 : True := trivial
theorem PySem.W.Fast.tw12501055389901775743 : True := trivial
theorem PySem.W.Fast.tw4819021452942346824 : True := trivial
theorem PySem.W.Fast.tw3260291260862139974 : True := trivial
theorem PySem.W.Fast.tw4745464102102985497 : True := trivial
theorem PySem.W.Fast.tw4183997452489896912 : True := trivial
theorem PySem.W.Fast.tw15841041425483951065 : True := trivial
theorem PySem.W.Fast.tw4137741467604256720 : True := trivial
theorem PySem.W.Fast.tw8733903199278232752 : True := trivial
theorem PySem.W.Fast.tw3209547318893930629 : True := trivial
theorem PySem.W.Fast.tw12174182367816176845 : True := trivial
theorem PySem.W.Fast.tw17820174472141533744 : True := trivial
theorem PySem.W.Fast.tw1506245355471692714 : True := trivial
theorem PySem.W.Fast.tw1373183661252532902 : True := trivial
theorem PySem.W.Fast.tw12819227056579141057 : True := trivial
theorem PySem.W.Fast.tw10646148384242244073 : True := trivial
theorem PySem.W.Fast.tw11144293971338861319 : True := trivial
theorem PySem.W.Fast.tw16479462309114946517 : True := trivial
theorem PySem.W.Fast.tw11982062757785897253 : True := trivial
theorem PySem.W.Fast.tw1698572713794036217 : True := trivial
theorem PySem.W.Fast.tw13646868202467381659 : True := trivial
theorem PySem.W.Fast.tw16959714657290096042 : True := trivial
theorem PySem.W.Fast.tw912366557716723015 : True := trivial
theorem PySem.W.Fast.tw15830961291007692718 : True := trivial
theorem PySem.W.Fast.tw12526484096399338154 : True := trivial
theorem PySem.W.Fast.tw1378521113567735237 : True := trivial
theorem PySem.W.Fast.tw3385967206030831550 : True := trivial
theorem PySem.W.Fast.tw10732171604512130450 : True := trivial
theorem PySem.W.Fast.tw15712260184096423628 : True := trivial
theorem PySem.W.Fast.tw1204405733017679835 : True := trivial
theorem PySem.W.Fast.tw14918675232374891955 : True := trivial
theorem PySem.W.Fast.tw12909657033730943191 : True := trivial
theorem PySem.W.Fast.tw16210256848481267510 : True := trivial
theorem PySem.W.Fast.tw10204260458393466107 : True := trivial
theorem PySem.W.Fast.tw12800585556269161714 : True := trivial
theorem PySem.W.Fast.tw5531432034917252691 : True := trivial
theorem PySem.W.Fast.tw14785210248684127463 : True := trivial
theorem PySem.W.Fast.tw15574591154950930257 : True := trivial
theorem PySem.W.Fast.tw227143024135357583 : True := trivial
theorem PySem.W.Fast.tw8007462780482830713 : True := trivial
theorem PySem.W.Fast.tw7165141387185355986 : True := trivial
theorem PySem.W.Fast.tw12285073445080035842 : True := trivial
theorem PySem.W.Fast.tw12623354714627373412 : True := trivial
theorem PySem.W.Fast.tw1726714708032287348 : True := trivial
theorem PySem.W.Fast.tw5375308361360929227 : True := trivial
theorem PySem.W.Fast.tw9123310944618816853 : True := trivial
theorem PySem.W.Fast.tw681408028692571111 : True := trivial
theorem PySem.W.Fast.tw10397237946071876598 : True := trivial
theorem PySem.W.Fast.tw5876061312859557561 : True := trivial
theorem PySem.W.Fast.tw7706977771877461739 : True := trivial
theorem PySem.W.Fast.tw14847448595488383662 : True := trivial
theorem PySem.W.Fast.tw6642283845279257029 : True := trivial
theorem PySem.W.Fast.tw640367545052147868 : True := trivial
theorem PySem.W.Fast.tw11674052187362320661 : True := trivial
theorem PySem.W.Fast.tw7867969210592729626 : True := trivial
theorem PySem.W.Fast.tw628227997616609824 : True := trivial
theorem PySem.W.Fast.tw6814536363218046131 : True := trivial
theorem PySem.W.Fast.tw3935234349763326927 : True := trivial
theorem PySem.W.Fast.tw10789401513697743065 : True := trivial
theorem PySem.W.Fast.tw8035454472593107712 : True := trivial
theorem PySem.W.Fast.tw16653354340839404294 : True := trivial
theorem PySem.W.Fast.tw11582454582533047067 : True := trivial
theorem PySem.W.Fast.tw17995844940388791788 : True := trivial
theorem PySem.W.Fast.tw10352447537656853827 : True := trivial
theorem PySem.W.Fast.tw10317770021538671262 : True := trivial
theorem PySem.W.Fast.tw12891287814660801122 : True := trivial
theorem PySem.W.Fast.tw17766542383054501437 : True := trivial
theorem PySem.W.Fast.tw7235361278999866566 : True := trivial
theorem PySem.W.Fast.tw5700691905279757415 : True := trivial
theorem PySem.W.Fast.tw10100698217363153911 : True := trivial
theorem PySem.W.Fast.tw7123189129747199981 : True := trivial
theorem PySem.W.Fast.tw2633265110566509115 : True := trivial
theorem PySem.W.Fast.tw6229378917679494167 : True := trivial
theorem PySem.W.Fast.tw3707226400765282110 : True := trivial
theorem PySem.W.Fast.tw77027680336875861 : True := trivial
theorem PySem.W.Fast.tw14574884177480327581 : True := trivial
theorem PySem.W.Fast.tw14179697831903640664 : True := trivial
theorem PySem.W.Fast.tw5219019330673617696 : True := trivial
theorem PySem.W.Fast.tw2139577816460064340 : True := trivial
theorem PySem.W.Fast.tw9089750714984827072 : True := trivial
theorem PySem.W.Fast.tw8010252448596528647 : True := trivial
theorem PySem.W.Fast.tw4432822887721821954 : True := trivial
theorem PySem.W.Fast.tw3895797096916670454 : True := trivial
theorem PySem.W.Fast.tw9528135677194247115 : True := trivial
theorem PySem.W.Fast.tw8777683558640803318 : True := trivial
theorem PySem.W.Fast.tw8256096656951931733 : True := trivial
theorem PySem.W.Fast.tw12498236129719801792 : True := trivial
theorem PySem.W.Fast.tw4765213888468166713 : True := trivial
theorem PySem.W.Fast.tw4232428901528861312 : True := trivial
theorem PySem.W.Fast.tw3370848831229415143 : True := trivial
theorem PySem.W.Fast.tw14139039113698300102 : True := trivial
theorem PySem.W.Fast.tw4141911333647796090 : True := trivial
theorem PySem.W.Fast.tw3448311713853754696 : True := trivial
theorem PySem.W.Fast.tw12992056915750899244 : True := trivial
theorem PySem.W.Fast.tw2814911430956034890 : True := trivial
theorem PySem.W.Fast.tw11016778003973010752 : True := trivial
theorem PySem.W.Fast.tw9244742934487442341 : True := trivial
theorem PySem.W.Fast.tw12908114500977383561 : True := trivial
theorem PySem.W.Fast.tw8619907249296720849 : True := trivial
theorem PySem.W.Fast.tw152189182663638416 : True := trivial
theorem PySem.W.Fast.tw17505108819110992266 : True := trivial
theorem PySem.W.Fast.tw7437077791464937306 : True := trivial
theorem PySem.W.Fast.tw1885868892944842450 : True := trivial
theorem PySem.W.Fast.tw15316231037705935506 : True := trivial
theorem PySem.W.Fast.tw9725408732885635787 : True := trivial
theorem PySem.W.Fast.tw13981535198049161499 : True := trivial
theorem PySem.W.Fast.tw15763588401958461331 : True := trivial
theorem PySem.W.Fast.tw8204600951817487668 : True := trivial
theorem PySem.W.Fast.tw12626789821615975909 : True := trivial
theorem PySem.W.Fast.tw10136732016849238821 : True := trivial
theorem PySem.W.Fast.tw2442986572272629666 : True := trivial
theorem PySem.W.Fast.tw2665523612542729334 : True := trivial
theorem PySem.W.Fast.tw17688837572433599971 : True := trivial
theorem PySem.W.Fast.tw1261615751563100326 : True := trivial
theorem PySem.W.Fast.tw4728030902184492263 : True := trivial
theorem PySem.W.Fast.tw10107916490166678673 : True := trivial
theorem PySem.W.Fast.tw12709940384426530624 : True := trivial
theorem PySem.W.Fast.tw114735738713571509 : True := trivial
theorem PySem.W.Fast.tw3707343132107420936 : True := trivial
theorem PySem.W.Fast.tw4532060111914317573 : True := trivial
theorem PySem.W.Fast.tw6753422185662443262 : True := trivial
theorem PySem.W.Fast.tw3677027518993103218 : True := trivial
theorem PySem.W.Fast.tw8041420344756938776 : True := trivial
theorem PySem.W.Fast.tw14092585980958342838 : True := trivial
theorem PySem.W.Fast.tw3636567809283214052 : True := trivial
theorem PySem.W.Fast.tw12722875301764873758 : True := trivial
theorem PySem.W.Fast.tw15786324713254847858 : True := trivial
theorem PySem.W.Fast.tw16677462382652579738 : True := trivial
theorem PySem.W.Fast.tw13960773692573684380 : True := trivial
theorem PySem.W.Fast.tw5719658819216429868 : True := trivial
theorem PySem.W.Fast.tw12032512613819173003 : True := trivial
theorem PySem.W.Fast.tw2615339604652697255 : True := trivial
theorem PySem.W.Fast.tw16987000004179271636 : True := trivial
theorem PySem.W.Fast.tw3630058961425932649 : True := trivial
theorem PySem.W.Fast.tw12203184279516424324 : True := trivial
theorem PySem.W.Fast.tw10841581900218917891 : True := trivial
theorem PySem.W.Fast.tw13054444594650792509 : True := trivial
theorem PySem.W.Fast.tw8063742168680466265 : True := trivial
theorem PySem.W.Fast.tw9927516422106079112 : True := trivial
theorem PySem.W.Fast.tw2283706881234106155 : True := trivial
theorem PySem.W.Fast.tw2671993210345885118 : True := trivial
theorem PySem.W.Fast.tw17451018500358658476 : True := trivial
theorem PySem.W.Fast.tw7415079344349547145 : True := trivial
theorem PySem.W.Fast.tw17958742657970952049 : True := trivial
theorem PySem.W.Fast.tw6635784168221554539 : True := trivial
theorem PySem.W.Fast.tw7352753153472515936 : True := trivial
theorem PySem.W.Fast.tw8265275253849684969 : True := trivial
theorem PySem.W.Fast.tw17233858262667536054 : True := trivial
theorem PySem.W.Fast.tw8526440111664894075 : True := trivial
theorem PySem.W.Fast.tw10174240795584761607 : True := trivial
theorem PySem.W.Fast.tw11883974558809069065 : True := trivial
theorem PySem.W.Fast.tw8333186103347716628 : True := trivial
theorem PySem.W.Fast.tw2561802917648681601 : True := trivial
theorem PySem.W.Fast.tw2218352512380665109 : True := trivial
theorem PySem.W.Fast.tw11133400935328260564 : True := trivial
theorem PySem.W.Fast.tw14542603791953752463 : True := trivial
theorem PySem.W.Fast.tw17559626602060291840 : True := trivial
theorem PySem.W.Fast.tw6323985490875734868 : True := trivial
theorem PySem.W.Fast.tw7567787886339599110 : True := trivial
theorem PySem.W.Fast.tw14516855314024444024 : True := trivial
theorem PySem.W.Fast.tw11263663769120591881 : True := trivial
theorem PySem.W.Fast.tw8603056255777793334 : True := trivial
theorem PySem.W.Fast.tw2736340970335073614 : True := trivial
theorem PySem.W.Fast.tw12963450493178079379 : True := trivial
theorem PySem.W.Fast.tw12815372042135299479 : True := trivial
theorem PySem.W.Fast.tw11741173011043371554 : True := trivial
theorem PySem.W.Fast.tw1492606035375287114 : True := trivial
theorem PySem.W.Fast.tw1864884781735913212 : True := trivial
theorem PySem.W.Fast.tw2688237268958477918 : True := trivial
theorem PySem.W.Fast.tw16351991047396114271 : True := trivial
theorem PySem.W.Fast.tw487818610575250853 : True := trivial
theorem PySem.W.Fast.tw11849463944624192739 : True := trivial
theorem PySem.W.Fast.tw18076891183451364381 : True := trivial
theorem PySem.W.Fast.tw10278357526636534159 : True := trivial
theorem PySem.W.Fast.tw3399704537017412418 : True := trivial
theorem PySem.W.Fast.tw18221193822245601774 : True := trivial
theorem PySem.W.Fast.tw6695094259892630726 : True := trivial
theorem PySem.W.Fast.tw8053936620914820497 : True := trivial
theorem PySem.W.Fast.tw8347348533971609385 : True := trivial
theorem PySem.W.Fast.tw5893582999380395465 : True := trivial
theorem PySem.W.Fast.tw18179575054854997153 : True := trivial
theorem PySem.W.Fast.tw8292693286707343875 : True := trivial
theorem PySem.W.Fast.tw10700650096957753880 : True := trivial
theorem PySem.W.Fast.tw11793760631469754229 : True := trivial
theorem PySem.W.Fast.tw8693879861418667224 : True := trivial
theorem PySem.W.Fast.tw10905922470691493309 : True := trivial
theorem PySem.W.Fast.tw8005162068082650864 : True := trivial
theorem PySem.W.Fast.tw5820579040705146460 : True := trivial
theorem PySem.W.Fast.tw4798991014521552329 : True := trivial
theorem PySem.W.Fast.tw1619776754899146312 : True := trivial
theorem PySem.W.Fast.tw5173600536079759574 : True := trivial
theorem PySem.W.Fast.tw14575890925591145100 : True := trivial
theorem PySem.W.Fast.tw15429160299370742557 : True := trivial
theorem PySem.W.Fast.tw9337128067072726179 : True := trivial
theorem PySem.W.Fast.tw6492175927235218761 : True := trivial
theorem PySem.W.Fast.tw15713175670575091354 : True := trivial
theorem PySem.W.Fast.tw9490822499763559171 : True := trivial
theorem PySem.W.Fast.tw10863483329348817625 : True := trivial
theorem PySem.W.Fast.tw6440294437805920771 : True := trivial
theorem PySem.W.Fast.tw18089525782540560732 : True := trivial
theorem PySem.W.Fast.tw16007815633607502589 : True := trivial
theorem PySem.W.Fast.tw15586821028916818540 : True := trivial
theorem PySem.W.Fast.tw3096553463333298725 : True := trivial
theorem PySem.W.Fast.tw16579201506681834415 : True := trivial
theorem PySem.W.Fast.tw14676583240683575288 : True := trivial
theorem PySem.W.Fast.tw8407228728053265193 : True := trivial
theorem PySem.W.Fast.tw2203305825504524739 : True := trivial
theorem PySem.W.Fast.tw1972678380963245542 : True := trivial
theorem PySem.W.Fast.tw10240648120012197535 : True := trivial
theorem PySem.W.Fast.tw12002856132479871193 : True := trivial
theorem PySem.W.Fast.tw16680847144204368140 : True := trivial
theorem PySem.W.Fast.tw284818501744660059 : True := trivial
theorem PySem.W.Fast.tw7833559071427858720 : True := trivial
theorem PySem.W.Fast.tw8170728514313673425 : True := trivial
theorem PySem.W.Fast.tw3744669640776186968 : True := trivial
theorem PySem.W.Fast.tw2298051710100525294 : True := trivial
theorem PySem.W.Fast.tw13642470190415859561 : True := trivial
theorem PySem.W.Fast.tw12164564680757378185 : True := trivial
theorem PySem.W.Fast.tw3568967398636384238 : True := trivial
theorem PySem.W.Fast.tw2592450933463893599 : True := trivial
theorem PySem.W.Fast.tw11188665929352539638 : True := trivial
theorem PySem.W.Fast.tw12251741714378527972 : True := trivial
theorem PySem.W.Fast.tw14346554130489874131 : True := trivial
theorem PySem.W.Fast.tw664623715913653502 : True := trivial
theorem PySem.W.Fast.tw18301161750874926877 : True := trivial
theorem PySem.W.Fast.tw13602952525737894507 : True := trivial
theorem PySem.W.Fast.tw14749477183420564623 : True := trivial
theorem PySem.W.Fast.tw12170503413251136613 : True := trivial
theorem PySem.W.Fast.tw15141773406420780366 : True := trivial
theorem PySem.W.Fast.tw1335299036145145784 : True := trivial
theorem PySem.W.Fast.tw7522382921978786496 : True := trivial
theorem PySem.W.Fast.tw17255228206523671354 : True := trivial
theorem PySem.W.Fast.tw1279931523673661413 : True := trivial
theorem PySem.W.Fast.tw1331811863875549469 : True := trivial
theorem PySem.W.Fast.tw6641061823753651262 : True := trivial
theorem PySem.W.Fast.tw11130243565671166637 : True := trivial
theorem PySem.W.Fast.tw9192416941569307482 : True := trivial
theorem PySem.W.Fast.tw6661003255038538288 : True := trivial
theorem PySem.W.Fast.tw5903116033440163111 : True := trivial
theorem PySem.W.Fast.tw6058451760923711918 : True := trivial
theorem PySem.W.Fast.tw2318618512707725123 : True := trivial
theorem PySem.W.Fast.tw4021933708780286305 : True := trivial
theorem PySem.W.Fast.tw15937757028203313957 : True := trivial
theorem PySem.W.Fast.tw3912766062496048574 : True := trivial
theorem PySem.W.Fast.tw5505377624036051659 : True := trivial
theorem PySem.W.Fast.tw11953216251055081711 : True := trivial
theorem PySem.W.Fast.tw691506037119760629 : True := trivial
theorem PySem.W.Fast.tw16722428506014796363 : True := trivial
theorem PySem.W.Fast.tw10709725131240958393 : True := trivial
theorem PySem.W.Fast.tw18126175089555878412 : True := trivial
theorem PySem.W.Fast.tw5385549596597197084 : True := trivial
theorem PySem.W.Fast.tw11480650267139784423 : True := trivial
theorem PySem.W.Fast.tw7725028466538795752 : True := trivial
theorem PySem.W.Fast.tw15284126360092921501 : True := trivial
theorem PySem.W.Fast.tw18239913521132214440 : True := trivial
theorem PySem.W.Fast.tw14646293579837595814 : True := trivial
theorem PySem.W.Fast.tw14828011544076593339 : True := trivial
theorem PySem.W.Fast.tw10987048013257437425 : True := trivial
theorem PySem.W.Fast.tw2552658800523159782 : True := trivial
theorem PySem.W.Fast.tw14864053090084167009 : True := trivial
theorem PySem.W.Fast.tw9610034102698969986 : True := trivial
theorem PySem.W.Fast.tw3278322353277173633 : True := trivial
theorem PySem.W.Fast.tw10133984949855406796 : True := trivial
theorem PySem.W.Fast.tw979936567402883128 : True := trivial
theorem PySem.W.Fast.tw9657078592173337871 : True := trivial
theorem PySem.W.Fast.tw13031987740200382973 : True := trivial
theorem PySem.W.Fast.tw15180708082630372035 : True := trivial
theorem PySem.W.Fast.tw4002403717163554149 : True := trivial
theorem PySem.W.Fast.tw211884154536049887 : True := trivial
theorem PySem.W.Fast.tw17997996319765859027 : True := trivial
theorem PySem.W.Fast.tw3453649983662711594 : True := trivial
theorem PySem.W.Fast.tw3001724850381390463 : True := trivial
set_option maxHeartbeats 0 in
open_top hd87 for PySem.Challenge.rw_twoglass_k87_two_that_stay
end
local macro_rules|`(tactic|omega)=>`(tactic|first|lia|omega (config:={}))
open List renaming filterMap_cons→Oq,mem_cons_self→Ot,mem_cons_of_mem→Ou,mem_append_left→Ov,getElem?_set_self→Ow,getElem?_set_ne→Ox,mem_append_right→OA,size_toArray→OB,any_eq_false→OC,length_cons→OG,map_cons→OH,length_map→OI,append_nil→OM,of_mem_zip→OO,length_take→OQ,getElem?_append_right→OS,getElem?_replicate→OT,getElem?_append_left→OU,getElem?_map→OV,mem_of_getElem?→OW,length_append→OX,length_drop→OZ,length_singleton→O2,map_nil→O3,find?_cons→O5,length_nil→O6,any_cons→O7,lookup_cons→O9,forIn_cons→Pa,cons_append→Pg,take_zero→Ph,take_succ_cons→Pj,drop_zero→Pl,drop_succ_cons→Pm,all_cons→Pn,range_succ_eq_map→Pp,all_map→Pq,getElem?_eq_getElem→Pr,nil_append→Py,map_congr_left→Pz,map_append→PB,length_range→PD,getElem?_range→PH,length_set→PJ,drop_eq_getElem_cons→PL,append_assoc→PP,mem_cons→PR,not_mem_nil→PV,getElem?_cons_zero→PX,getElem?_cons_succ→PY,zip_cons_cons→P6,contains_cons→P7,nodup_append→P9,replicate_zero→Qb,any_map→Qc,zip_nil_right→Qd,replicate_succ→Qe,foldl_cons→Qf,mem_nil_iff→Qh,map_map→Qi,getElem?_eq_none→Qj,filter_cons_of_pos→Qk,filter_cons_of_neg→Ql,getD_eq_getElem?_getD→Qm,take_of_length_le→Qn,drop_eq_nil_of_le→Qo,set_cons_zero→Qp,set_cons_succ→Qq,getElem_map→Qs,set_eq_take_append_cons_drop→Qv,map_take→Qw,map_drop→Qx,map_set→Qy,eraseIdx_eq_take_drop_succ→QB,getElem?_of_mem→QC,nodup_cons→QD
open Int renaming toNat_natCast→OY,emod_nonneg→Qt,emod_lt_of_pos→Qu
open Nat renaming lt_of_lt_of_le→Oi,lt_irrefl→Oj,ne_of_lt→Ol,le_trans→Om,le_of_lt→Oo,ne_of_gt→Oy,le_refl→Oz,le_of_eq→OJ,zero_le→OL,lt_trans→O8,min_self→Pt,sub_zero→PF,lt_of_le_of_lt→PN,le_add_right→PZ,add_lt_add_left→P0,lt_add_of_pos_right→P4,zero_add→P5,sub_self→Qa
open Bool renaming false_ne_true→OD,and_eq_true→O0,false_eq_true→Pb,and_true→Pu,and_false→Pw,or_eq_true→Px,or_eq_false_iff→P8,not_true→Qg,not_false→Qr,and_eq_false_iff→Qz,or_self→QA
open Option renaming getD_none→O1,getD_some→PQ
open PySem renaming Value→RF,NameKind→RG,Addr→RH,Expr→RJ,Stmt→RK,Shared→RL,World→RM,Program→RN,Paired→RO,Heap→RP,sizeLine→RQ,mainGlobals→RT,bootBuiltins→RU,Around→RV,Scope→RW,Model→RX,wpAny→RY,starEach→RZ,wpAny_mono→R0,CmpOp→R1,compareOp→R3,behindInMarks→R4,wpAny_truthy_bool→R5,wpAny_execs_nil→R6,wpAny_pure→R7,wpAny_bind→R8,wpAny_pyIter_list→R9,PassesOwn→Sa,foldedSetIterable→Sb,wpAny_passesOwn→Sd,binaryOp→Se,sizeLine_eq→Sf,codeAny→Sg,attributeBase→Sh,callWith→Si,keywordEach→Sj,cLine→Sl,FuncData→Sn,BindsTo→Sq,wpAny_call→Sr,codeAny_mono→Ss,wpAny_Call_Name_kw→Su,Keyword→Sv,wpAny_standAt→Sw,concat_meets→Sx,noFill_tuple_add→Sy,seq_tuple_add→Sz,IsPart→SA,wpAny_field→SD,wpAny_holding→SE,wpAny_callSpecial?_slot→SG,wpAny_call_entry→SH,wpAny_newObj_type→SJ,wpAny_comprehension_free→SK,wpAny_rule→SL,wpAny_getItem_str_slice→SM,post_val_or_str→SN,wpAny_seqItems→SR,IsZip→SU,IsPair→SV,wpAny_setField_rec→SW,wpAny_onRaise→SY,wpAny_updateSeq_pair→SZ,wpAny_letGo→S0,wpAny_attempt→S4,codeAny_builtin→S5,wpAny_tryCatch→S6,wpAny_updateSeq→S7,plainId_quiet→S8
open PySem.W renaming instObj→QE,methodObj→QF,Frag→QG,lookIn→QH,plainGet→QI,hasDictIn→QJ,findIn→QK,handedIn→QL,plainGet_of→QM,isFn→QN,plainOver→QO,takerIn→QP,any_some→QQ,makesIn→QR,typeIn→QS,emptyDict→QT,keepIn→QU,callWith_K→QV,cellsFrom_some→QW,fnOf→QX,codeIn→QY,OpenLaw→QZ,nsIn→Ra,kitOne→Rb,kia_one→Rc,instIn→Rf,subIn→Rg,specialIn→Rh,takesIn→Ri,mroIn→Rj,isIn→Rk,mg_of→Rl
open PySem.Heap renaming lt_size→Rm,SameBut→Rn,get?_push_of_some→Ro,get?_push_size→Rp,size_push→Rq,get?_update_other→Rr,FlyingW→Rt,get?_update_self→Ru
open PyProof.Rows renaming callWith_type1→Rv,slot_tuple_getitem→Rw,envOfC→Rx,IsTup→Ry,Call_→Rz,boot_str→RA,boot_tuple→RB
open PySem.F renaming slot_tuple_add→RC,entry_tuple_add→RD,args_tuple_add_2→RE
set_option maxHeartbeats 1000000
local macro_rules | `(‹2›)=>`(⟨rfl, rfl, rfl, by decide +kernel, rfl, by decide +kernel, by decide +kernel⟩)
local macro_rules | `(‹0›)=>`(by omega)
namespace L2
open PySem PySem.Spec PyProof.Rows
noncomputable abbrev fI:=List (Option Nat)
noncomputable abbrev cS:=Str->Option RF
noncomputable abbrev oS:=List (Str×RG)
noncomputable abbrev bc:=List (RH×Obj)
noncomputable abbrev mH:=List (Str×RH)
noncomputable abbrev aZ:=List RJ
noncomputable abbrev dM:=List RK
noncomputable abbrev bb:=List RF
noncomputable abbrev az:=List RH
noncomputable abbrev dA:=Option Int
noncomputable abbrev bX:=RF->RL->Prop
noncomputable abbrev jE:=RL->Prop
noncomputable abbrev av:=List Str
noncomputable abbrev Key:=Sum Int Str
noncomputable def qU:Key->RF->Bool
 |.inl k,v=>Value.isInt k v
 |.inr x,v=>Value.isStrOf x v
noncomputable def KG(w:RM):Key->Int
 |.inl k=>hashInt k
 |.inr x=>hashStr w x
theorem cM:∀{k:Key}{v:RF},qU k v=true->(∃i t,k=Sum.inl i/\v=Value.int i t)\/(∃x t,k=Sum.inr x/\v=Value.str x t)
 |.inl i,v,h=>by
  obtain⟨t,e⟩:=Value.isInt_shape (k:=i) (v:=v) h;exact .inl ⟨i,t,rfl,e⟩
 |.inr x,v,h=>by
  obtain⟨t,e⟩:=Value.isStrOf_shape (x:=x) (v:=v) h;exact .inr ⟨x,t,rfl,e⟩
theorem wx(i:Int)(t:Tok):qU (.inl i) (.int i t)=true:=by simp[qU,Value.isInt]
theorem xq(x:Str)(t:Tok):qU (.inr x) (.str x t)=true:=by simp[qU,Value.isStrOf]
theorem EA(a b:Int):decide ((Sum.inl a:Key)=Sum.inl b)=(a==b):=by
 by_cases e:a=b
 ·subst e;simp
 ·have h:¬(Sum.inl a:Key)=Sum.inl b:=λq=>e (Sum.inl.inj q);rw[decide_eq_false h];exact(beq_eq_false_iff_ne.mpr e).symm
theorem E9(a b:Str):decide ((Sum.inr a:Key)=Sum.inr b)=decide (a=b):=by
 by_cases e:a=b
 ·subst e;simp
 ·have h:¬(Sum.inr a:Key)=Sum.inr b:=λq=>e (Sum.inr.inj q);rw[decide_eq_false h,decide_eq_false e]
theorem Ep(a:Int)(b:Str):decide ((Sum.inl a:Key)=Sum.inr b)=false:=decide_eq_false (λq=>nomatch q)
theorem FR(a:Str)(b:Int):decide ((Sum.inr a:Key)=Sum.inl b)=false:=decide_eq_false (λq=>nomatch q)
noncomputable def dq(prog:RN)(w:RM):PySem.KeyKind prog w Key where
 is:=qU
 hash:=KG w
 inj:=λv a b ha hb=>by
  rcases cM ha with⟨i,t,rfl,rfl⟩|⟨x,t,rfl,rfl⟩
  ·rcases cM hb with⟨j,u,rfl,e⟩|⟨y,u,rfl,e⟩
   ·injection e with e1 _;rw[e1]
   ·exact nomatch e
  ·rcases cM hb with⟨j,u,rfl,e⟩|⟨y,u,rfl,e⟩
   ·exact nomatch e
   ·injection e with e1 _;rw[e1]
 byValue:=λk v h=>by
  rcases cM h with⟨i,t,rfl,rfl⟩|⟨x,t,rfl,rfl⟩<;>rfl
 pyHash:=λhv h=>by
  rcases cM hv with⟨i,t,rfl,rfl⟩|⟨x,t,rfl,rfl⟩
  ·exact wpAny_pyHash_int h
  ·exact wpAny_pyHash_str h
 eqBool:=λhu hv h=>by
  rcases cM hu with⟨i,t,rfl,rfl⟩|⟨x,t,rfl,rfl⟩
  ·rcases cM hv with⟨j,u,rfl,rfl⟩|⟨y,u,rfl,rfl⟩
   ·rw[EA]at h;exact wpAny_eqBool_int h
   ·rw[Ep]at h;exact SeqAt.EqAt.int_str i t y u _ _ _ _ h
  ·rcases cM hv with⟨j,u,rfl,rfl⟩|⟨y,u,rfl,rfl⟩
   ·rw[FR]at h;exact SeqAt.EqAt.str_int x t j u _ _ _ _ h
   ·rw[E9]at h;exact wpAny_eqBool_str h
 «strs»:=λk x t v h=>by
  rcases cM h with⟨i,u,rfl,e⟩|⟨y,u,rfl,e⟩
  ·exact nomatch e
  ·injection e with e1 _;subst e1;cases v<;>rfl
theorem sS(prog:RN)(w:RM)(i:Int)(t:Tok):(dq prog w).is (.inl i) (.int i t)=true:=wx i t
theorem sV(prog:RN)(w:RM)(x:Str)(t:Tok):(dq prog w).is (.inr x) (.str x t)=true:=xq x t
inductive V where
 |non|bl (b:Bool)|int (i:Int)|str (x:Str)|byt (b:Array UInt8)|flt (b:UInt64)|ref (a:RH)|ty (n:String)
 deriving DecidableEq
noncomputable abbrev aE:=List V
noncomputable def RelV:V->RF->Prop
 |.non,u=>u=Value.none
 |.bl b,u=>u=Value.bool b
 |.int i,u=>∃t,u=Value.int i t
 |.str x,u=>∃t,u=Value.str x t
 |.byt b,u=>∃t,u=Value.bytes b t
 |.flt b,u=>∃t,u=Value.float b t
 |.ref a,u=>u=Value.ref a
 |.ty n,u=>u=Value.type n
noncomputable abbrev Vals:aE->bb->Prop:=RO RelV
theorem Vals.length{xs:aE}{us:bb}(r:Vals xs us):xs.length=us.length:=Paired.length r
theorem Vals.get:∀{xs:aE}{us:bb}{i:Nat}{x:V},Vals xs us->xs[i]?=some x->∃u,us[i]?=some u/\RelV x u
 |_,_,_,_,.nil,e=>by simp at e
 |_,_,0,_,.cons r _,e=>by simp at e;subst e;exact⟨_,rfl,r⟩
 |_,_,i+1,x,.cons _ t,e=>by
  obtain⟨u,h1,h2⟩:=Vals.get (i:=i) (x:=x) t (by simpa using e);exact⟨u,by simpa using h1,h2⟩
theorem Vals.append:∀{xs ys:aE}{us ws:bb},Vals xs us->Vals ys ws->Vals (xs++ys) (us++ws)
 |_,_,_,_,.nil,s=>s
 |_,_,_,_,.cons r t,s=>.cons r (Vals.append t s)
theorem Vals.take:∀{xs:aE}{us:bb}(n:Nat),Vals xs us->Vals (xs.take n) (us.take n)
 |_,_,0,_=>.nil
 |_,_,_+1,.nil=>.nil
 |_,_,n+1,.cons r t=>.cons r (Vals.take n t)
theorem Vals.drop:∀{xs:aE}{us:bb}(n:Nat),Vals xs us->Vals (xs.drop n) (us.drop n)
 |_,_,0,r=>r
 |_,_,_+1,.nil=>.nil
 |_,_,n+1,.cons _ t=>Vals.drop n t
noncomputable def rC:Option V->Option RF->Prop
 |some v,some u=>RelV v u
 |none,none=>True
 |_,_=>False
noncomputable def KV{κ:Type}:List (κ×V)->List (κ×RF)->Prop:=RO λ(p:κ×V)(q:κ×RF)=>p.1=q.1/\RelV p.2 q.2
noncomputable def kV:Key->V
 |.inl i=>.int i
 |.inr x=>.str x
inductive HO where
  |lst (xs:aE)
  |tup (xs:aE)
  |dK (kvs:List (Key×V))|dT (kvs:List (List Key×V))
  |set (S:Int->Bool) (n:Nat)
  |ins (C dx:RH) (fs:List (Str×V))
  |own (x:RH)
  |xd (fs:List (Str×V))
  |met (f x:RH)
  |rng (lo hi:Int)
  |frz (o:Obj) (u:HO)
  |tbl (ps:Array RF)
  |ext (φ:(RH->Prop)->RP->Prop)
noncomputable abbrev Hp:=RH->Option HO
noncomputable def upd(H:Hp)(a:RH)(o:HO):Hp:=λb=>if b=a then some o else H b
theorem bi{H:Hp}{a:RH}{o:HO}:upd H a o a=some o:=by unfold upd;rw[if_pos rfl]
theorem aK{H:Hp}{a b:RH}{o:HO}(h:b≠a):upd H a o b=H b:=by unfold upd;rw[if_neg h]
theorem CQ{H:Hp}{a:RH}{o u:HO}:upd (upd H a o) a u=upd H a u:=by
 funext b;unfold upd;split<;>rfl
theorem aL{H:Hp}{a b:RH}{o:HO}(h:H a=some o)(h':H b=none):a≠b:=by
 intro e;subst e;rw[h]at h';cases h'
section
variable(P:RN)(w:RM)
noncomputable def dr(H:Hp)(h:RP)(a:RH):HO->Prop
 |.lst xs=>xs.length<=RQ/\∃(its:bb)(n:Nat),Vals xs its/\h.get? a=some {cls:=.type "list",data:=.seq its.toArray n}
 |.tup xs=>xs.length<=RQ/\∃its:bb,Vals xs its/\IsTup h a its.toArray
 |.dK kvs=>kvs.length<=RQ/\(a==sysModules)=false/\∃vs,KV kvs vs/\h.DictOf (dq P w) a vs
 |.dT kvs=>kvs.length<=RQ/\(a==sysModules)=false/\∃xs:List (List Key×RH×RF),
   RO (λ(p:List Key×V)(q:List Key×RH×RF)=>p.1=q.1/\H q.2.1=some (.tup (p.1.map kV))/\RelV p.2 q.2.2) kvs xs/\
   ∃o es ep,h.get? a=some o/\o.ExactDict/\o.data=.dict es ep/\es.toList=xs.map (entryOfKey (tupleKind (dq P w)))/\(xs.map (·.1)).Nodup
 |.set S n=>h.SetOf (intKind P w) a S n
 |.ins C dx fs=>H dx=some (.own a)/\fs.length<=1000/\dx≠a/\h.get? a=some (QE C dx)/\
   ∃mA,h.Ns1 dx mA/\(∀f,rC (fs.lookup f) (mA f))/\PySem.Within mA (fs.map (·.1))
 |.own _=>∃o,h.get? a=some o
 |.xd fs=>∃mA,h.Ns1 a mA/\∀f,rC (fs.lookup f) (mA f)
 |.rng lo hi=>∃t u v,h.get? a=some {cls:=.type "range",data:=.fields #[.int lo t,.int hi u,.int 1 v]}
 |.frz o u=>h.get? a=some o/\dr H h a u
 |.tbl ps=>h.get? a=some {cls:=.none,data:=.fields ps}
 |.met f x=>h.get? a=some (QF (.ref f) (.ref x))
 |.ext φ=>φ (λb=>H b=some (.own a)) h/\(∃o,h.get? a=some o)/\∀(S1 S2:RH->Prop)(h1 h2:RP),φ S1 h1->(∀b,S1 b->S2 b)->(∀b o,(b=a\/S1 b)->h1.get? b=some o->h2.get? b=some o)->φ S2 h2
noncomputable def nA(H:Hp)(h:RP):Prop:=∀a o,H a=some o->dr P w H h a o
end
section
variable{P:RN}{w:RM}{H H':Hp}{h h':RP}{a:RH}{o:HO}
theorem dr.lt(x:dr P w H h a o):a<h.objs.size:=by
 cases o with
 |lst xs=>obtain⟨_,_,_,_,e⟩:=x;exact Rm e
 |tup xs=>obtain⟨_,_,_,p⟩:=x;exact p.lt
 |dK kvs=>obtain⟨_,_,_,_,o,_,_,e,_⟩:=x;exact Rm e
 |dT kvs=>obtain⟨_,_,_,_,o,_,_,e,_⟩:=x;exact Rm e
 |set S n=>obtain⟨o,_,_,_,e,_⟩:=x;exact Rm e
 |ins C dx fs=>obtain⟨_,_,_,e,_⟩:=x;exact Rm e
 |own y=>obtain⟨_,e⟩:=x;exact Rm e
 |xd fs=>obtain⟨_,⟨_,_,_,e,_⟩,_⟩:=x;exact Rm e
 |rng lo hi=>obtain⟨_,_,_,e⟩:=x;exact Rm e
 |frz ob u=>obtain⟨e,_⟩:=x;exact Rm e
 |tbl ps=>exact Rm (show h.get? a=some _ from x)
 |met f y=>exact Rm (show h.get? a=some _ from x)
 |ext φ=>obtain⟨_,⟨_,e⟩,_⟩:=x;exact Rm e
theorem Paired.mapP{α β:Type}{F G:α->β->Prop}:∀{l₁:List α}{l₂:List β},RO F l₁ l₂->(∀a b,F a b->G a b)->RO G l₁ l₂
 |_,_,.nil,_=>.nil
 |_,_,.cons r t,f=>.cons (f _ _ r) (Paired.mapP t f)
theorem dr.stay(x:dr P w H h a o)(k:∀b u,(b=a\/H b=some (.own a))->h.get? b=some u->h'.get? b=some u)
  (ho:∀b,H b=some (.own a)->H' b=some (.own a)) (ht:∀b xs,H b=some (.tup xs)->H' b=some (.tup xs)):dr P w H' h' a o:=by
 induction o with
 |lst xs=>obtain⟨z,its,n,r,e⟩:=x;exact⟨z,its,n,r,k _ _ (.inl rfl) e⟩
 |tup xs=>obtain⟨z,its,r,ob,e,c⟩:=x;exact⟨z,its,r,ob,k _ _ (.inl rfl) e,c⟩
 |dK kvs=>obtain⟨z,y,vs,r,ob,es,ep,e,c⟩:=x;exact⟨z,y,vs,r,ob,es,ep,k _ _ (.inl rfl) e,c⟩
 |dT kvs=>
  obtain⟨z,y,xs,r,ob,es,ep,e,c⟩:=x;exact⟨z,y,xs,Paired.mapP r λp q z=>⟨z.1,ht _ _ z.2.1,z.2.2⟩,ob,es,ep,k _ _ (.inl rfl) e,c⟩
 |set S n=>obtain⟨ob,es,ep,t,e,c⟩:=x;exact⟨ob,es,ep,t,k _ _ (.inl rfl) e,c⟩
 |ins C dx fs=>
  obtain⟨d,z,ne,e,mA,⟨od,es,ep,e2,c⟩,r⟩:=x;exact⟨ho _ d,z,ne,k _ _ (.inl rfl) e,mA,⟨od,es,ep,k _ _ (.inr d) e2,c⟩,r⟩
 |own y=>obtain⟨ob,e⟩:=x;exact⟨ob,k _ _ (.inl rfl) e⟩
 |xd fs=>obtain⟨mA,⟨od,es,ep,e,c⟩,r⟩:=x;exact⟨mA,⟨od,es,ep,k _ _ (.inl rfl) e,c⟩,r⟩
 |rng lo hi=>obtain⟨t,u,v,e⟩:=x;exact⟨t,u,v,k _ _ (.inl rfl) e⟩
 |frz ob u ih=>obtain⟨e,q⟩:=x;exact⟨k _ _ (.inl rfl) e,ih q⟩
 |tbl ps=>
  have e:h.get? a=some {cls:=.none,data:=.fields ps}:=x;show h'.get? a=some {cls:=.none,data:=.fields ps};exact k a _ (.inl rfl) e
 |met f y=>
  have e:h.get? a=some (QF (.ref f) (.ref y)):=x;show h'.get? a=some (QF (.ref f) (.ref y));exact k a _ (.inl rfl) e
 |ext φ=>obtain⟨p,⟨o,e⟩,st⟩:=x;exact⟨st _ _ _ _ p ho k,⟨o,k _ _ (.inl rfl) e⟩,st⟩
theorem nA.lt(x:nA P w H h)(e:H a=some o):a<h.objs.size:=(x a o e).lt
theorem nA.fresh(x:nA P w H h)(e:h.objs.size<=a):H a=none:=by
 cases q:H a with
 |none=>rfl
 |some u=>exact absurd (Oi (x.lt q) e) (Oj _)
theorem nA.kept(x:nA P w H h)(k:∀b u,h.get? b=some u->h'.get? b=some u):nA P w H h':=λa o e=>
 (x a o e).stay (λb u _ q=>k b u q) (λ_ q=>q) λ_ _ q=>q
theorem nA.laid(x:nA P w H h)(k:∀b u,h.get? b=some u->h'.get? b=some u)(hp:h.objs.size<=a)(new:dr P w (upd H a o) h' a o):nA P w (upd H a o) h':=λb u e=>by
 have hn:=x.fresh hp;by_cases hb:b=a
 ·subst hb;rw[bi]at e;cases e;exact new
 ·rw[aK hb]at e;exact(x b u e).stay (λc v _ q=>k c v q) (λc q=>by rw[aK (aL q hn)];exact q) λc xs q=>by rw[aK (aL q hn)];exact q
end
noncomputable def Rd(H:Hp)(a:RH)(u:HO):Prop:=H a=some u\/∃o,H a=some (.frz o u)
theorem Rd.ok{P:RN}{w:RM}{H:Hp}{h:RP}{a:RH}{u:HO}(r:Rd H a u)(x:nA P w H h):dr P w H h a u:=by
 rcases r with r|⟨o,r⟩
 ·exact x a u r
 ·obtain⟨_,q⟩:=x a _ r;exact q
noncomputable def Hl:Option HO->Prop
 |some (.lst _)=>True
 |some (.dK _)=>True
 |some (.dT _)=>True
 |some (.set _ _)=>True
 |some (.ins _ _ _)=>True
 |some (.ext _)=>True
 |_=>False
section
variable{P:RN}{w:RM}{H:Hp}{h h':RP}{x e:RH}{o':HO}
theorem nA.write(ok:nA P w H h)(mu:Hl (H x))(he:e=x\/H e=some (.own x))(k:∀b u,b≠e->h.get? b=some u->h'.get? b=some u)(heo:∃u,h'.get? e=some u)
  (new:dr P w (upd H x o') h' x o'):nA P w (upd H x o') h':=λb u q=>by
 have nown:∀c y,H c=some (.own y)->c≠x:=λc y r z=>by subst z;rw[r]at mu;exact mu
 have ntup:∀c xs,H c=some (.tup xs)->c≠x:=λc xs r z=>by subst z;rw[r]at mu;exact mu
 by_cases hb:b=x
 ·subst hb;rw[bi]at q;cases q;exact new
 ·rw[aK hb]at q;by_cases hbe:b=e
  ·have q':H b=some (.own x):=by
    rcases he with z|z
    ·exact absurd (hbe.trans z) hb
    ·rw[hbe];exact z
   rw[q]at q';cases q';obtain⟨v,hv⟩:=heo;exact⟨v,by rw[hbe];exact hv⟩
  ·refine(ok b u q).stay (λc v hc r=>k c v ?_ r) (λc r=>by rw[aK (nown c b r)];exact r) λc xs r=>by rw[aK (ntup c xs r)];exact r
   rcases hc with rfl|hc
   ·exact hbe
   ·rintro rfl;rcases he with z|z
    ·exact nown c b hc z
    ·rw[hc]at z;cases z;exact hb rfl
end
structure Un(fs ex:az)(H H':Hp)(h h':RP):Prop where
 keep:∀b o,h.get? b=some o->H b=none->b∉fs->b∉ex->h'.get? b=some o
 slot:∀b o,h.get? b=some o->H b=none->b∈fs->b∉ex->∃sl,h'.get? b=some {o with slots:=sl}
 free:∀b o,h.get? b=some o->H b=none->b∉ex->H' b=none
 there:∀b o,h.get? b=some o->b∉ex->∃o',h'.get? b=some o'
 tups:∀b xs,H b=some (.tup xs)->H' b=some (.tup xs)
 frzs:∀b o u,H b=some (.frz o u)->H' b=some (.frz o u)
 tbls:∀b ps,H b=some (.tbl ps)->∃more,H' b=some (.tbl (ps++more))
section
variable{fs fs' ex ex':az}{H H1 H2:Hp}{h h1 h2 h':RP}{a x e:RH}{o:HO}
theorem Un.any(u:Un fs ex H H1 h h1){b:RH}{ob:Obj}(q:h.get? b=some ob)(n:H b=none)(hx:b∉ex):∃sl,h1.get? b=some {ob with slots:=sl}:=by
 by_cases hb:b∈fs
 ·exact u.slot b ob q n hb hx
 ·exact⟨ob.slots,u.keep b ob q n hb hx⟩
theorem Un.kept(k:∀b u,h.get? b=some u->h'.get? b=some u):Un fs ex H H h h':=
 ⟨λb ob q _ _ _=>k b ob q,λb ob q _ _ _=>⟨ob.slots,k b ob q⟩,λ_ _ _ n _=>n,λb ob q _=>⟨ob,k b ob q⟩,λ_ _ q=>q,λ_ _ _ q=>q,λ_ ps q=>⟨#[],by rw[q];simp⟩⟩
theorem Un.refl:Un fs ex H H h h:=Un.kept λ_ _ q=>q
theorem Un.laid(k:∀b u,h.get? b=some u->h'.get? b=some u)(hp:h.objs.size<=a)(hn:H a=none):Un fs ex H (upd H a o) h h' where
 keep:=λb u q _ _ _=>k b u q
 slot:=λb u q _ _ _=>⟨u.slots,k b u q⟩
 free:=λb u q n _=>by rw[aK (Ol (Oi (Rm q) hp))];exact n
 there:=λb u q _=>⟨u,k b u q⟩
 tups:=λb xs q=>by rw[aK (aL q hn)];exact q
 frzs:=λb u xs q=>by rw[aK (aL q hn)];exact q
 tbls:=λb ps q=>⟨#[],by rw[aK (aL q hn),q];simp⟩
theorem Un.write(mu:Hl (H x))(he:e=x\/H e=some (.own x))(k:∀b u,b≠e->h.get? b=some u->h'.get? b=some u)(heo:∃u,h'.get? e=some u):Un fs ex H (upd H x o) h h':=by
 have hx:∀b,H b=none->b≠x:=λb n z=>by subst z;rw[n]at mu;exact mu
 have hb:∀b,H b=none->b≠e:=λb n z=>by
  subst z;rcases he with r|r
  ·exact hx b n r
  ·rw[n]at r;cases r
 have hm:∀b u,H b=some u->¬Hl (some u)->b≠x:=λb u q nm z=>by subst z;rw[q]at mu;exact nm mu
 refine⟨λb u q n _ _=>k b u (hb b n) q,λb u q n _ _=>⟨u.slots,k b u (hb b n) q⟩,λb u q n _=>by rw[aK (hx b n)];exact n,λb u q _=>?_,
  λb xs q=>by rw[aK (hm b _ q λz=>z)];exact q,λb u xs q=>by rw[aK (hm b _ q λz=>z)];exact q,λb ps q=>⟨#[],by rw[aK (hm b _ q λz=>z),q];simp⟩⟩
 by_cases hbe:b=e
 ·subst hbe;exact heo
 ·exact⟨u,k b u hbe q⟩
end
noncomputable def JC(h:RP)(H:Hp):az:=(List.range h.objs.size).filter λa=>(H a).isSome
noncomputable def sj(h:RP)(H:Hp):RP:=PySem.W.hideAll h (JC h H)
theorem we(h:RP)(H:Hp):(sj h H).objs.size=h.objs.size:=PySem.W.hideAll_size _ _
theorem zN{h:RP}{H:Hp}{b:RH}{o:Obj}(e:h.get? b=some o)(n:H b=none):(sj h H).get? b=some o:=
 PySem.W.hideAll_get _ e λhm=>by
  have q:(H b).isSome=true:=(List.mem_filter.mp hm).2;rw[n]at q;simp at q
theorem B9{h:RP}{H:Hp}{b:RH}{o:Obj}(e:(sj h H).get? b=some o):h.get? b=some o/\H b=none:=by
 have e':h.get? b=some o:=PySem.W.of_hideAll (JC h H) e;refine⟨e',?_⟩;cases q:H b with
 |none=>rfl
 |some x=>
  have hm:b∈JC h H:=List.mem_filter.mpr ⟨List.mem_range.mpr (Rm e'),by simp[q]⟩;have z:(sj h H).get? b=none:=PySem.W.hideAll_none (JC h H) hm;rw[z]at e;cases e
noncomputable def BK(g h:RP)(L:RH):bc:=(List.range h.objs.size).filterMap λa=>if a=L\/(g.get? a).isSome=true then none else(h.get? a).map λo=>(a,o)
noncomputable def rest(g h:RP)(L d:RH):bc:=(BK g h L).filter λp=>decide (p.1≠d)
structure Mod(K:QG)(mg:cS)(base:RP):Prop where
 kin:K.In base
 glob:base.Ns RT mg
 blt:∃mb,base.Ns builtinsNs mb/\∀x:Str,x≠"__name__"->mb x=RU x
 nolimit:base.NoLimit
structure Cx where
 prog:RN
 w:RM
 K:QG
 mg:cS
 base:RP
 A:RV
 N:av
 s₀:RL
 H₀:Hp
 env:Env
 outer:List Env
 stack:List Env
 ex:az
 fn:Str->Bool
 calm:Bool
 pn:bc
 xe:bX
noncomputable def frs(l:List Env):az:=l.filterMap (·.frame)
noncomputable abbrev Cx.fs(X:Cx):az:=frs X.outer
noncomputable def Ha(sc:RW)(x:Str):Prop:=sc.names.lookup x=some .local\/sc.names.lookup x=some .cell\/sc.names.lookup x=some .free
noncomputable def Loc(sc:RW)(x:Str):Prop:=sc.names.lookup x=some .local\/sc.names.lookup x=some .cell
noncomputable def Look(env:Env)(h:RP)(m:cS)(x:Str)(u:RF):Prop:=
 (env.kindOf x=some .local/\m x=some u)\/((env.kindOf x=some .cell\/env.kindOf x=some .free)/\∃c,env.cells.lookup x=some c/\h.IsCell c (some u))
structure Cx.Ok(X:Cx):Prop where
 mod:Mod X.K X.mg X.base
 kind:X.env.scope.kind=.function
 glob:X.env.globals=RT
 blt:X.env.builtins=builtinsNs
 above:X.s₀.heap.objs.size<=X.env.locals
 inj:∀x y c,X.env.cells.lookup x=some c->X.env.cells.lookup y=some c->x=y
 has:∀x,(X.env.kindOf x=some .cell\/X.env.kindOf x=some .free)->∃c,X.env.cells.lookup x=some c
 cab:∀x c,X.fn x=true->X.env.cells.lookup x=some c->X.s₀.heap.objs.size<=c
 hd:X.calm=true->X.A.handled=none
 frames:X.A.frames=some X.stack
 stk:X.stack=X.outer\/(X.stack=X.env::X.outer/\X.env.frame=some X.env.locals)
 exf:∀b∈X.ex,b≠X.env.locals/\∀x c,X.env.cells.lookup x=some c->c≠b
 bs:∀b o,X.base.get? b=some o->X.s₀.heap.get? b=some o/\X.H₀ b=none
 bsz:X.base.objs.size<=X.s₀.heap.objs.size
 noex:∀b o,X.base.get? b=some o->b∉X.ex
 exfs:∀b∈X.ex,b∉X.fs
 funs:X.s₀.heap.FunFrames X.base X.outer
 frf:∀b∈X.fs,X.H₀ b=none
structure Inv(X:Cx)(pins:bc)(σ:List (Option V))(H:Hp)(s:RL):Prop where
 ok:X.Ok
 os:s.os=X.s₀.os
 bare:AllBare s.gens
 base:Un X.fs X.ex X.H₀ H X.s₀.heap s.heap
 loc:∃m,s.heap.Ns X.env.locals m/\∀(i:Nat)(x:Str)(v:V),X.N[i]?=some x->σ[i]?=some (some v)->Ha X.env.scope x->∃u,RelV v u/\Look X.env s.heap m x u
 cell:∀x c,X.env.cells.lookup x=some c->∃v,s.heap.IsCell c v
 free:H X.env.locals=none
 freeC:∀x c,X.env.cells.lookup x=some c->H c=none
 pin:∀p∈X.pn++pins,s.heap.get? p.1=some p.2/\H p.1=none/\p.1≠X.env.locals/\p.1∉X.fs/\∀v,p.2.data≠.cell v
 hok:nA X.prog X.w H s.heap
 len:σ.length=X.N.length
section
variable{X:Cx}{pins:bc}{σ:List (Option V)}{H H':Hp}{s:RL}{h':RP}
theorem Cx.Ok.nofr(ok:X.Ok){b:RH}{o:Obj}(e:X.base.get? b=some o):b∉X.fs:=λhb=>by
 have:=(ok.funs.mem hb).1
 rw[e]at this;cases this
theorem Inv.bs(I:Inv X pins σ H s):∀b o,X.base.get? b=some o->s.heap.get? b=some o/\H b=none:=λb o e=>
 ⟨I.base.keep b o (I.ok.bs b o e).1 (I.ok.bs b o e).2 (I.ok.nofr e) (I.ok.noex b o e),I.base.free b o (I.ok.bs b o e).1 (I.ok.bs b o e).2 (I.ok.noex b o e)⟩
theorem Inv.bk(I:Inv X pins σ H s):∀b o,X.base.get? b=some o->s.heap.get? b=some o:=λb o e=>(I.bs b o e).1
theorem Inv.mod(I:Inv X pins σ H s):Mod X.K X.mg X.base:=I.ok.mod
theorem Inv.kIn(I:Inv X pins σ H s):X.K.In s.heap:=I.ok.mod.kin.keeps I.bk
theorem Inv.lt(I:Inv X pins σ H s):X.env.locals<s.heap.objs.size:=let ⟨_,hn,_⟩:=I.loc;hn.lt
theorem Inv.sz(I:Inv X pins σ H s):X.s₀.heap.objs.size<=s.heap.objs.size:=Om I.ok.above (Oo I.lt)
theorem Inv.nofs(I:Inv X pins σ H s){a:RH}(h:s.heap.objs.size<=a):a∉X.fs:=λhb=>by
 obtain⟨_,o,ho,_⟩:=I.ok.funs.mem hb;exact absurd (Oi (Rm ho) (Om I.sz h)) (Oj _)
theorem Inv.cne(I:Inv X pins σ H s):∀x c,X.env.cells.lookup x=some c->c≠X.env.locals:=λx c e z=>by
 obtain⟨v,o,ho,hd⟩:=I.cell x c e;obtain⟨m,⟨o',es,ep,ho',hd',_⟩,_⟩:=I.loc;rw[z,ho']at ho;cases ho;rw[hd']at hd;cases hd
theorem Inv.funs(I:Inv X pins σ H s):s.heap.FunFrames X.base X.outer:=by
 have all:∀(l:List Env),(∀b∈frs l,b∈X.fs)->X.s₀.heap.FunFrames X.base l->s.heap.FunFrames X.base l:=by
  intro l
  induction l with
  |nil=>intro _ _;trivial
  |cons env r ih=>
   intro hs hl;obtain⟨hk,⟨L,o,hf,hn,ho,hd⟩,hr⟩:=hl;have hL:L∈X.fs:=hs L (by unfold frs;rw[Oq,hf];exact Ot);obtain⟨sl,e⟩:=I.base.slot L o ho (I.ok.frf L hL) hL λz=>I.ok.exfs L z hL;exact⟨hk,⟨L,_,hf,hn,e,hd⟩,ih (λb hb=>hs b (by unfold frs;rw[Oq,hf];exact Ou _ hb)) hr⟩
 exact all X.outer (λ_ hb=>hb) I.ok.funs
theorem Inv.stack(I:Inv X pins σ H s):s.heap.FunFrames X.base X.stack:=by
 rcases I.ok.stk with e|⟨e,hf⟩
 ·rw[e];exact I.funs
 ·rw[e];obtain⟨m,hn,_⟩:=I.loc;refine .cons (by rw[I.ok.kind];decide) hf hn ?_ I.funs;exact Heap.get?_none_of_le (Om I.ok.bsz I.ok.above)
theorem Inv.stkSub(I:Inv X pins σ H s):∀b∈frs X.stack,b∈X.env.locals::X.fs:=λb hb=>by
 rcases I.ok.stk with e|⟨e,hf⟩
 ·rw[e]at hb;exact Ou _ hb
 ·rw[e]at hb;unfold frs at hb;rw[Oq,hf]at hb;exact hb
theorem Inv.stkFree(I:Inv X pins σ H s):∀b∈frs X.stack,H b=none:=λb hb=>by
 rcases List.mem_cons.mp (I.stkSub b hb)with e|hb
 ·rw[e];exact I.free
 ·obtain⟨_,o,ho,_⟩:=I.ok.funs.mem hb;exact I.base.free b o ho (I.ok.frf b hb) λz=>I.ok.exfs b z hb
theorem Inv.step{g':Array GenState}{t':Nat}{d':Drawn}{ch:az}(I:Inv X pins σ H s)
  (hch:∀b∈ch,(b∈X.ex\/X.s₀.heap.objs.size<=b)/\b≠X.env.locals/\(∀x c,X.env.cells.lookup x=some c->c≠b)/\∀p∈X.pn++pins,p.1≠b)
  (keep:∀b o,b≠X.env.locals->b∉X.fs->b∉ch->s.heap.get? b=some o->H b=none->h'.get? b=some o)
  (slot:∀b o,b≠X.env.locals->b∈X.fs->b∉ch->s.heap.get? b=some o->H b=none->∃sl,h'.get? b=some {o with slots:=sl}) (free:∀b o,b∉ch->s.heap.get? b=some o->H b=none->H' b=none)
  (there:∀b o,b∉ch->s.heap.get? b=some o->∃o',h'.get? b=some o')
  (tups:∀b xs,H b=some (.tup xs)->H' b=some (.tup xs)) (frzs:∀b o u,H b=some (.frz o u)->H' b=some (.frz o u)) (tbls:∀b ps,H b=some (.tbl ps)->∃more,H' b=some (.tbl (ps++more)))
  (ns:∀m,s.heap.Ns X.env.locals m->h'.Ns X.env.locals m) (hok:nA X.prog X.w H' h') (hg:AllBare g'):
  Inv X pins σ H' {s with heap:=h',gens:=g',drawn:=d',toks:=t'}:=by
 have neL:∀b o,X.s₀.heap.get? b=some o->b≠X.env.locals:=λb o e=>Ol (Oi (Rm e) I.ok.above);have neC:∀b o,X.s₀.heap.get? b=some o->b∉X.ex->b∉ch:=λb o e hx hb=>by
  rcases(hch b hb).1 with z|z
  ·exact hx z
  ·exact absurd (Oi (Rm e) z) (Oj _)
 have cellK:∀x c,X.env.cells.lookup x=some c->∀v,s.heap.IsCell c v->h'.IsCell c v:=λx c e v ⟨o,ho,hd⟩=>by
  have nch:c∉ch:=λz=>(hch c z).2.2.1 x c e rfl;by_cases hc:c∈X.fs
  ·obtain⟨sl,q⟩:=slot c o (I.cne x c e) hc nch ho (I.freeC x c e);exact⟨_,q,hd⟩
  ·exact⟨o,keep c o (I.cne x c e) hc nch ho (I.freeC x c e),hd⟩
 refine⟨I.ok,I.os,hg,⟨λb o e n hb hx=>?_,λb o e n hb hx=>?_,λb o e n hx=>?_,λb o e hx=>?_,λb xs e=>tups b xs (I.base.tups b xs e),λb o xs e=>frzs b o xs (I.base.frzs b o xs e),λb ps e=>?_⟩,?_,λx c e=>?_,?_,λx c e=>?_,λp hp=>?_,hok,I.len⟩
 ·exact keep b o (neL b o e) hb (neC b o e hx) (I.base.keep b o e n hb hx) (I.base.free b o e n hx)
 ·obtain⟨sl,e1⟩:=I.base.slot b o e n hb hx;obtain⟨sl',e2⟩:=slot b _ (neL b o e) hb (neC b o e hx) e1 (I.base.free b o e n hx);exact⟨sl',e2⟩
 ·obtain⟨o',e1⟩:=I.base.there b o e hx;exact free b o' (neC b o e hx) e1 (I.base.free b o e n hx)
 ·obtain⟨o',e1⟩:=I.base.there b o e hx;exact there b o' (neC b o e hx) e1
 ·obtain⟨m1,e1⟩:=I.base.tbls b ps e;obtain⟨m2,e2⟩:=tbls b _ e1;exact⟨m1++m2,by rw[e2,Array.append_assoc]⟩
 ·obtain⟨m,hn,hl⟩:=I.loc;refine⟨m,ns m hn,λi x v e1 e2 e3=>?_⟩;obtain⟨u,r,l⟩:=hl i x v e1 e2 e3;refine⟨u,r,?_⟩;rcases l with l|⟨k,c,e,z⟩
  ·exact .inl l
  ·exact .inr ⟨k,c,e,cellK x c e _ z⟩
 ·obtain⟨v,z⟩:=I.cell x c e;exact⟨v,cellK x c e v z⟩
 ·obtain⟨m,⟨o,_,_,ho,_⟩,_⟩:=I.loc;exact free _ o (λz=>(hch _ z).2.1 rfl) ho I.free
 ·obtain⟨v,o,ho,hd⟩:=I.cell x c e;exact free c o (λz=>(hch c z).2.2.1 x c e rfl) ho (I.freeC x c e)
 ·obtain⟨e,n,ne,nf,d⟩:=I.pin p hp;have nch:p.1∉ch:=λz=>(hch p.1 z).2.2.2 p hp rfl;exact⟨keep p.1 p.2 ne nf nch e n,free p.1 p.2 nch e n,ne,nf,d⟩
theorem Inv.un{t':Nat}(I:Inv X pins σ H s)(u:Un X.fs [] H H' s.heap h')(hok:nA X.prog X.w H' h'):Inv X pins σ H' {s with heap:=h',toks:=t'}:=by
 obtain⟨m,⟨o,es,ep,ho,r⟩,_⟩:=id I.loc;obtain⟨sl,hL⟩:=u.any ho I.free (by simp);exact I.step (g':=s.gens) (d':=s.drawn) (ch:=[]) (λ_ z=>nomatch z) (λb o _ hb _ e n=>u.keep b o e n hb (by simp)) (λb o _ hb _ e n=>u.slot b o e n hb (by simp)) (λb o _ e n=>u.free b o e n (by simp)) (λb o _ e=>u.there b o e (by simp)) u.tups u.frzs u.tbls (λm' hm=>by
  obtain⟨o',es',ep',ho',r'⟩:=hm;rw[ho]at ho';cases ho';exact⟨_,es',ep',hL,r'⟩) hok I.bare
theorem Inv.call{g':Array GenState}{t':Nat}{d':Drawn}{ch:az}(I:Inv X pins σ H s)(u:Un (frs X.stack) ch H H' s.heap h')(hok:nA X.prog X.w H' h')(hg:AllBare g')
  (hch:∀b∈ch,(b∈X.ex\/X.s₀.heap.objs.size<=b)/\b≠X.env.locals/\(∀x c,X.env.cells.lookup x=some c->c≠b)/\∀p∈X.pn++pins,p.1≠b):
  Inv X pins σ H' {s with heap:=h',gens:=g',drawn:=d',toks:=t'}:=by
 obtain⟨m,⟨o,es,ep,ho,r⟩,_⟩:=id I.loc;obtain⟨sl,hL⟩:=u.any ho I.free λz=>(hch _ z).2.1 rfl;exact I.step (ch:=ch) hch (λb o hL hb hc e n=>u.keep b o e n (λz=>(List.mem_cons.mp (I.stkSub b z)).elim hL hb) hc) (λb o _ _ hc e n=>u.any e n hc) (λb o hc e n=>u.free b o e n hc) (λb o hc e=>u.there b o e hc) u.tups u.frzs u.tbls (λm' hm=>by
  obtain⟨o',es',ep',ho',r'⟩:=hm;rw[ho]at ho';cases ho';exact⟨_,es',ep',hL,r'⟩) hok hg
theorem Inv.turned{t':Nat}{it:RH}(I:Inv X pins σ H s)(k:∀b o,b≠it->s.heap.get? b=some o->h'.get? b=some o)(hn:H it=none)(hL:it≠X.env.locals)
  (h1:it∈X.ex\/X.s₀.heap.objs.size<=it) (h2:∀x c,X.env.cells.lookup x=some c->c≠it) (h3:∀p∈X.pn++pins,p.1≠it):Inv X pins σ H {s with heap:=h',toks:=t'}:=by
 have nit:∀b u,H b=some u->b≠it:=λb u e z=>by rw[z,hn]at e;cases e
 refine I.step (g':=s.gens) (d':=s.drawn) (ch:=[it]) (λb hb=>?_) (λb o _ _ hc e _=>k b o (λz=>hc (by simp[z])) e) (λb o _ _ hc e _=>⟨o.slots,k b o (λz=>hc (by simp[z])) e⟩) (λ_ _ _ _ n=>n)
  (λb o hc e=>⟨o,k b o (λz=>hc (by simp[z])) e⟩) (λ_ _ e=>e) (λ_ _ _ e=>e) (λb ps e=>⟨#[],by rw[e];simp⟩) (λm hm=>?_) (λb u e=>?_) I.bare
 ·have e:b=it:=by simpa using hb
  subst e;exact⟨h1,hL,h2,h3⟩
 ·obtain⟨o,es,ep,ho,r⟩:=hm;exact⟨o,es,ep,k _ o (Ne.symm hL) ho,r⟩
 ·refine(I.hok b u e).stay (λc v hc q=>k c v ?_ q) (λ_ q=>q) λ_ _ q=>q;rcases hc with z|z
  ·rw[z];exact nit b u e
  ·exact nit c _ z
theorem Inv.tok(I:Inv X pins σ H s)(t:Nat):Inv X pins σ H {s with toks:=t}:=I.un (h':=s.heap) (t':=t) Un.refl I.hok
theorem Inv.kept{t':Nat}(I:Inv X pins σ H s)(k:∀b u,s.heap.get? b=some u->h'.get? b=some u):Inv X pins σ H {s with heap:=h',toks:=t'}:=I.un (Un.kept k) (I.hok.kept k)
theorem Inv.laid{a:RH}{o:HO}{t':Nat}(I:Inv X pins σ H s)(k:∀b u,s.heap.get? b=some u->h'.get? b=some u)(hp:s.heap.objs.size<=a)(new:dr X.prog X.w (upd H a o) h' a o):
  Inv X pins σ (upd H a o) {s with heap:=h',toks:=t'}:=I.un (Un.laid k hp (I.hok.fresh hp)) (I.hok.laid k hp new)
theorem Inv.write{x e:RH}{o:HO}{t':Nat}(I:Inv X pins σ H s)(mu:Hl (H x))(he:e=x\/H e=some (.own x))(k:∀b u,b≠e->s.heap.get? b=some u->h'.get? b=some u)(heo:∃u,h'.get? e=some u)
  (new:dr X.prog X.w (upd H x o) h' x o):Inv X pins σ (upd H x o) {s with heap:=h',toks:=t'}:=I.un (Un.write mu he k heo) (I.hok.write mu he k heo new)
theorem Inv.pins_of{pins':bc}(I:Inv X pins σ H s)(h:∀p∈pins',s.heap.get? p.1=some p.2/\H p.1=none/\p.1≠X.env.locals/\p.1∉X.fs/\∀v,p.2.data≠.cell v):Inv X pins' σ H s:=
 ⟨I.ok,I.os,I.bare,I.base,I.loc,I.cell,I.free,I.freeC,λp hp=>(List.mem_append.mp hp).elim (λz=>I.pin p (Ov _ z)) (h p),I.hok,I.len⟩
theorem tM{N:av}(hN:N.Nodup){i j:Nat}{x:Str}(a:N[i]?=some x)(b:N[j]?=some x):i=j:=by
 obtain⟨h1,e1⟩:=List.getElem?_eq_some_iff.mp a;obtain⟨h2,e2⟩:=List.getElem?_eq_some_iff.mp b;exact(List.getElem_inj hN).mp (e1.trans e2.symm)
theorem rd{M:RX}{A:RV}{E:bX}{i:Nat}{x:Str}{v:V}{u:RF}{Q:Unit->jE}(I:Inv X pins σ H s)(hN:X.N.Nodup)(hi:X.N[i]?=some x)(hx:Loc X.env.scope x)(r:RelV v u)
  (h:∀s',Inv X pins (σ.set i (some v)) H s'->(∃a,Rn a s.heap s'.heap/\(a=X.env.locals\/X.env.cells.lookup x=some a))->Q () s') (hf:X.fn x=true\/X.env.scope.names.lookup x=some .local:=by first|exact .inl rfl|exact .inr rfl|assumption):RY M A (storeName X.env x u) Q E s:=by
 obtain⟨m,hn,hl⟩:=id I.loc;have hcls:(X.env.scope.kind==.class||(X.env.scope.kind==.module&&X.env.locals !=X.env.globals))=false:=by rw[I.ok.kind];rfl
 have hiσ:i<σ.length:=by rw[I.len];exact(List.getElem?_eq_some_iff.mp hi).1
 have cne:=I.cne;have tracked:∀{a:RH}{h':RP},(∃o,s.heap.get? a=some o/\H a=none)->Rn a s.heap h'->nA X.prog X.w H h':=λ{a h'} ha hs b ob e=>by
  obtain⟨_,_,hfree⟩:=ha;refine(I.hok b ob e).stay (λc w' hc q=>(hs.2 c ?_).trans q) (λ_ q=>q) λ_ _ q=>q;rintro rfl;rcases hc with rfl|hc
  ·rw[hfree]at e;cases e
  ·rw[hfree]at hc;cases hc
 rcases hx with hk|hk
 ·refine wpAny_storeName_local hk hn (λh' hn' hs=>?_) hcls;obtain⟨oL,_,_,hoL,_⟩:=id hn;refine h _ ⟨I.ok,I.os,I.bare,⟨λb o e n hb hx=>?_,λb o e n hb hx=>?_,I.base.free,λb o e hx=>?_,I.base.tups,I.base.frzs,I.base.tbls⟩,⟨_,hn',λj y v' e1 e2 e3=>?_⟩,λy c e=>?_,I.free,I.freeC,λp hp=>?_,tracked ⟨oL,hoL,I.free⟩ hs,by simpa using I.len⟩ ⟨_,hs,.inl rfl⟩
  ·exact(hs.2 b (Ol (Oi (Rm e) I.ok.above))).trans (I.base.keep b o e n hb hx)
  ·obtain⟨sl,e1⟩:=I.base.slot b o e n hb hx;exact⟨sl,(hs.2 b (Ol (Oi (Rm e) I.ok.above))).trans e1⟩
  ·obtain⟨o',e1⟩:=I.base.there b o e hx;exact⟨o',(hs.2 b (Ol (Oi (Rm e) I.ok.above))).trans e1⟩
  ·by_cases hj:j=i
   ·subst hj;rw[hi]at e1;cases e1;rw[Ow hiσ]at e2;cases e2;exact⟨u,r,.inl ⟨hk,by simp⟩⟩
   ·rw[Ox (Ne.symm hj)]at e2;obtain⟨u',r',q⟩:=hl j y v' e1 e2 e3;refine⟨u',r',?_⟩;rcases q with⟨k,e⟩|⟨k,c,e,z⟩
    ·refine .inl ⟨k,?_⟩
     have:y≠x:=λe=>hj (tM hN e1 (e ▸ hi))
     simp[this,e]
    ·exact .inr ⟨k,c,e,z.sameBut hs (cne y c e)⟩
  ·obtain⟨w',z⟩:=I.cell y c e;exact⟨w',z.sameBut hs (cne y c e)⟩
  ·obtain⟨e,n,ne,nf,d⟩:=I.pin p hp;exact⟨(hs.2 p.1 ne).trans e,n,ne,nf,d⟩
 ·have hfn:X.fn x=true:=by
   rcases hf with z|z
   ·exact z
   ·rw[z]at hk;cases hk
  obtain⟨c,hc⟩:=I.ok.has x (.inl hk);obtain⟨w',z⟩:=I.cell x c hc;refine wpAny_storeName_cell I.ok.kind hk hc z (λh' hc' hs=>?_);obtain⟨oc,hoc,hocd⟩:=id z;refine h {s with heap:=h'} ⟨I.ok,I.os,I.bare,⟨λb o e n hb hx=>?_,λb o e n hb hx=>?_,I.base.free,λb o e hx=>?_,I.base.tups,I.base.frzs,I.base.tbls⟩,⟨m,hn.sameBut hs (Ne.symm (cne x c hc)),λj y v' e1 e2 e3=>?_⟩,λy c' e=>?_,I.free,I.freeC,λp hp=>?_,tracked ⟨oc,hoc,I.freeC x c hc⟩ hs,by simpa using I.len⟩ ⟨c,hs,.inr hc⟩
  ·exact(hs.2 b (Ol (Oi (Rm e) (I.ok.cab x c hfn hc)))).trans (I.base.keep b o e n hb hx)
  ·obtain⟨sl,e1⟩:=I.base.slot b o e n hb hx;exact⟨sl,(hs.2 b (Ol (Oi (Rm e) (I.ok.cab x c hfn hc)))).trans e1⟩
  ·obtain⟨o',e1⟩:=I.base.there b o e hx;exact⟨o',(hs.2 b (Ol (Oi (Rm e) (I.ok.cab x c hfn hc)))).trans e1⟩
  ·by_cases hj:j=i
   ·subst hj;rw[hi]at e1;cases e1;rw[Ow hiσ]at e2;cases e2;exact⟨u,r,.inr ⟨.inl hk,c,hc,hc'⟩⟩
   ·rw[Ox (Ne.symm hj)]at e2;obtain⟨u',r',q⟩:=hl j y v' e1 e2 e3;refine⟨u',r',?_⟩;rcases q with q|⟨k,c',e,z'⟩
    ·exact .inl q
    ·refine .inr ⟨k,c',e,z'.sameBut hs ?_⟩;rintro rfl;exact hj (tM hN e1 (I.ok.inj _ _ _ e hc ▸ hi))
  ·by_cases hcc:c'=c
   ·subst hcc;exact⟨_,hc'⟩
   ·obtain⟨w2,z2⟩:=I.cell y c' e;exact⟨w2,z2.sameBut hs hcc⟩
  ·obtain⟨e,n,ne,nf,d⟩:=I.pin p hp;refine⟨(hs.2 p.1 ?_).trans e,n,ne,nf,d⟩;intro q;rw[q,hoc]at e;have q':oc=p.2:=Option.some.inj e;exact d w' (by rw[<-q'];exact hocd)
theorem tD{M:RX}{A:RV}{E:bX}{i:Nat}{x:Str}{v:V}{u:RF}{Q:Unit->jE}(I:Inv X pins σ H s)(hN:X.N.Nodup)(hi:X.N[i]?=some x)(hx:Loc X.env.scope x)(r:RelV v u)
  (h:∀s',Inv X pins (σ.set i (some v)) H s'->Q () s') (hf:X.fn x=true\/X.env.scope.names.lookup x=some .local:=by first|exact .inl rfl|exact .inr rfl|assumption):RY M A (storeName X.env x u) Q E s:=
 rd I hN hi hx r (λs' I' _=>h s' I') hf
theorem Inv.call'{s':RL}{ch:az}(I:Inv X pins σ H s)(ho:s'.os=s.os)(u:Un (frs X.stack) ch H H' s.heap s'.heap)(hok:nA X.prog X.w H' s'.heap)(hg:AllBare s'.gens)
  (hch:∀b∈ch,(b∈X.ex\/X.s₀.heap.objs.size<=b)/\b≠X.env.locals/\(∀x c,X.env.cells.lookup x=some c->c≠b)/\∀p∈X.pn++pins,p.1≠b):Inv X pins σ H' s':=by
 obtain⟨h',g',d',t',o'⟩:=s';have e:o'=s.os:=ho;subst e;exact I.call (g':=g') (t':=t') (d':=d') u hok hg hch
end
noncomputable abbrev XK:=RF->Option RH->Hp->Prop
noncomputable abbrev St:=List (Option V)
noncomputable abbrev VK:=V->Hp->Prop
noncomputable abbrev TE:=St->Hp->VK->Prop
noncomputable abbrev TT:=St->Hp->(Bool->Hp->Prop)->Prop
noncomputable abbrev TA:=St->Hp->(aE->Hp->Prop)->Prop
structure Ends where
 nx:St->Hp->Prop
 rt:VK
 bk:St->Hp->Prop:=λ_ _=>False
 ct:St->Hp->Prop:=λ_ _=>False
noncomputable abbrev TS:=Ends->St->Hp->Prop
noncomputable def EP(X:Cx)(pins:bc)(σ:St)(Q:VK)(u:RF)(s':RL):Prop:=∃v H',Inv X pins σ H' s'/\RelV v u/\Q v H'
noncomputable def TP(X:Cx)(pins:bc)(σ:St)(Q:Bool->Hp->Prop)(b:Bool)(s':RL):Prop:=∃H',Inv X pins σ H' s'/\Q b H'
noncomputable def AP(X:Cx)(pins:bc)(σ:St)(Q:aE->Hp->Prop)(us:bb)(s':RL):Prop:=∃vs H',Inv X pins σ H' s'/\Vals vs us/\Q vs H'
noncomputable def SP(X:Cx)(pins:bc)(D:Ends)(f:Flow)(s':RL):Prop:=
 match f with
 |.next=>∃σ' H',Inv X pins σ' H' s'/\D.nx σ' H'
 |.brk=>∃σ' H',Inv X pins σ' H' s'/\D.bk σ' H'
 |.cont=>∃σ' H',Inv X pins σ' H' s'/\D.ct σ' H'
 |.ret u=>∃v σ' H',Inv X pins σ' H' s'/\RelV v u/\D.rt v H'
noncomputable def PE(X:Cx)(e:RJ)(t:TE):Prop:=
 ∀(pins:bc)(s:RL)(σ:St)(H:Hp)(Q:VK),Inv X pins σ H s->t σ H Q->RY (model X.prog X.w) X.A (eval e X.env) (EP X pins σ Q) X.xe s
noncomputable def PT(X:Cx)(e:RJ)(t:TT):Prop:=
 ∀(pins:bc)(s:RL)(σ:St)(H:Hp)(Q:Bool->Hp->Prop),Inv X pins σ H s->t σ H Q->RY (model X.prog X.w) X.A (isTrue e X.env (eval e X.env)) (TP X pins σ Q) X.xe s
noncomputable def PW(X:Cx)(e:RJ)(t:TT):Prop:=
 ∀(whole:Sem RF)(pins:bc)(s:RL)(σ:St)(H:Hp)(Q:Bool->Hp->Prop),Inv X pins σ H s->t σ H Q->RY (model X.prog X.w) X.A (isTrue e X.env whole) (TP X pins σ Q) X.xe s
theorem PW.pt{X:Cx}{e:RJ}{t:TT}(h:PW X e t):PT X e t:=h _
noncomputable def PA(X:Cx)(es:aZ)(t:TA):Prop:=
 ∀(pos:Pos)(pins:bc)(s:RL)(σ:St)(H:Hp)(Q:aE->Hp->Prop),Inv X pins σ H s->t σ H Q->RY (model X.prog X.w) X.A (spliced (backTo pos (RZ es X.env))) (AP X pins σ Q) X.xe s
noncomputable def PS(X:Cx)(st:RK)(t:TS):Prop:=
 ∀(pins:bc)(s:RL)(σ:St)(H:Hp)(D:Ends),Inv X pins σ H s->t D σ H->RY (model X.prog X.w) X.A (exec st X.env) (SP X pins D) X.xe s
noncomputable def t9(X:Cx)(st:dM)(t:TS):Prop:=
 ∀(pins:bc)(s:RL)(σ:St)(H:Hp)(D:Ends),Inv X pins σ H s->t D σ H->RY (model X.prog X.w) X.A (execs st X.env) (SP X pins D) X.xe s
theorem cD{α:Type}{t:Sem α}{Q Q':α->jE}{M:RX}{A:RV}{E:bX}{s:RL}(h:RY M A t Q E s)(hQ:∀a s,Q a s->Q' a s):RY M A t Q' E s:=R0 h hQ λ_ _ x=>x
section
variable{X:Cx}
noncomputable def uA(i:Nat):TE:=λσ H Q=>∃v,σ[i]?=some (some v)/\Q v H
noncomputable def tC(v:V):TE:=λ_ H Q=>Q v H
theorem GO{i:Nat}{x:Str}{pos:Pos}(hN:X.N[i]?=some x)(hv:Ha X.env.scope x)(hd:(x==("__debug__":Str))=false:=by decide)(hcd:(x==("__classdict__":Str))=false:=by decide):PE X (.Name x pos) (uA i):=by
 intro pins s σ H Q I h;obtain⟨v,e,h⟩:=h;obtain⟨m,hn,hl⟩:=I.loc;obtain⟨u,r,l⟩:=hl i x v hN e hv;have fin:EP X pins σ Q u s:=⟨v,H,I,r,h⟩
 rcases l with⟨hk,hm⟩|⟨hk,c,hc,hcell⟩
 ·exact wpAny_Name (wpAny_loadName_local I.ok.kind hk hn hm fin) hd
 ·rcases hk with hk|hk
  ·exact wpAny_Name (wpAny_loadName_cell I.ok.kind hk hc hcell fin) hd
  ·exact wpAny_Name (wpAny_loadName_free I.ok.kind hk hc hcell fin hcd) hd
theorem Ai{i j pos}:PE X (.Constant (.int i) j pos) (tC (.int i)):=λ_ _ _ H _ I h=>wpAny_Constant_int ⟨.int i,H,I.tok _,⟨_,rfl⟩,h⟩
theorem Iw{b j pos}:PE X (.Constant (.bool b) j pos) (tC (.bl b)):=λ_ _ _ H _ I h=>Constant_bool ⟨.bl b,H,I,rfl,h⟩
theorem Gy{j pos}:PE X (.Constant .none j pos) (tC .non):=λ_ _ _ H _ I h=>Constant_none ⟨.non,H,I,rfl,h⟩
theorem GZ{x j pos}:PE X (.Constant (.str x) j pos) (tC (.str x)):=λ_ _ _ H _ I h=>Calls.Constant_str ⟨.str x,H,I.tok _,⟨_,rfl⟩,h⟩
noncomputable def Gl(X:Cx)(x:Str):Prop:=X.env.kindOf x=some .globalImplicit
theorem so{E:bX}{pins:bc}{s:RL}{σ:St}{H:Hp}{x:Str}{u:RF}{pos:Pos}{Q:bX}(I:Inv X pins σ H s)(hg:Gl X x)(hm:X.mg x=some u)(h:Q u s)
  (hd:(x==("__debug__":Str))=false:=by decide):RY (model X.prog X.w) X.A (eval (.Name x pos) X.env) Q E s:=
 Calls.Name_function_global I.ok.kind hg (Calls.loadGlobal_global (by rw[I.ok.glob];exact I.mod.glob.keeps I.bk) hm h) hd
theorem jm{E:bX}{pins:bc}{s:RL}{σ:St}{H:Hp}{x:Str}{u:RF}{pos:Pos}{Q:bX}(I:Inv X pins σ H s)(hg:Gl X x)(hm:X.mg x=none)(hv:RU x=some u)(h:Q u s)
  (hn:x≠"__name__":=by decide) (hd:(x==("__debug__":Str))=false:=by decide):RY (model X.prog X.w) X.A (eval (.Name x pos) X.env) Q E s:=by
 obtain⟨mb,h1,h2⟩:=I.mod.blt;exact Calls.Name_function_global I.ok.kind hg (Calls.loadGlobal_builtin (by rw[I.ok.glob];exact I.mod.glob.keeps I.bk) hm (by rw[I.ok.blt];exact h1.keeps I.bk) ((h2 x hn).trans hv) h) hd
theorem vI{x:Str}{v:V}{u:RF}{pos:Pos}(hg:Gl X x)(hm:X.mg x=some u)(r:RelV v u)(hd:(x==("__debug__":Str))=false:=by decide):PE X (.Name x pos) (tC v):=
 λ_ _ _ H _ I h=>so I hg hm ⟨v,H,I,r,h⟩ hd
theorem Cv{x:Str}{v:V}{u:RF}{pos:Pos}(hg:Gl X x)(hm:X.mg x=none)(hv:RU x=some u)(r:RelV v u)(hn:x≠"__name__":=by decide)(hd:(x==("__debug__":Str))=false:=by decide):PE X (.Name x pos) (tC v):=
 λ_ _ _ H _ I h=>jm I hg hm hv ⟨v,H,I,r,h⟩ hn hd
variable{a b:RJ}{ta tb:TE}{pos:Pos}
noncomputable def PC(X:Cx)(op:R1)(a b:RJ)(t:TE):Prop:=
 ∀(pins:bc)(s:RL)(σ:St)(H:Hp)(Q:VK),Inv X pins σ H s->t σ H Q->
  RY (model X.prog X.w) X.A (eval a X.env) (λv s₁=>RY (model X.prog X.w) X.A (eval b X.env) (λu s₂=>RY (model X.prog X.w) X.A (R3 op v u) (EP X pins σ Q) X.xe s₂) X.xe s₁) X.xe s
theorem tN(b:RJ){op:R1}(h:op≠.In)(h2:op≠.NotIn):R4 op b=false:=by
 have e1:(op==CmpOp.In)=false:=by cases op<;>first|rfl|exact absurd rfl h
 have e2:(op==CmpOp.NotIn)=false:=by cases op<;>first|rfl|exact absurd rfl h2
 cases b<;>simp[R4,e1,e2]
noncomputable def J4(ta:TE):TE:=λσ H Q=>ta σ H λx H1=>Q (.bl (decide (x=.non))) H1
theorem RelV.none_iff{x:V}{v:RF}(r:RelV x v):(v==Value.none)=decide (x=.non):=by
 cases x with
 |non=>cases r;rfl
 |bl _=>cases r;rfl
 |int _=>obtain⟨t,rfl⟩:=r;rfl
 |str _=>obtain⟨t,rfl⟩:=r;rfl
 |byt _=>obtain⟨t,rfl⟩:=r;rfl
 |flt _=>obtain⟨t,rfl⟩:=r;rfl
 |ref _=>cases r;rfl
 |ty _=>cases r;rfl
theorem AF{j pos'}(ha:PE X a ta):PC X .Is a (.Constant .none j pos') (J4 ta):=by
 intro pins s σ H Q I h;refine cD (ha pins s σ H _ I h) λv s1 ⟨x,H1,I1,r1,q1⟩=>?_;exact Constant_none (is_none_gen ⟨.bl _,H1,I1,by rw[r1.none_iff];rfl,q1⟩)
noncomputable def tB(t:TE):TT:=λσ H Q=>t σ H λx H1=>∃c,x=.bl c/\Q c H1
theorem G4{op:R1}{t:TE}(h:PC X op a b t)(h1:R4 op b=false:=by first|exact tN _ (by decide) (by decide)|rfl):PE X (.Compare a [op] [b] pos) t:=λpins s σ H Q I hw=>wpAny_Compare1 (h pins s σ H Q I hw) h1
theorem E8{op:R1}{t:TE}(h:PC X op a b t)(h1:R4 op b=false:=by first|exact tN _ (by decide) (by decide)|rfl):PT X (.Compare a [op] [b] pos) (tB t):=by
 intro pins s σ H Q I hw;refine wpAny_isTrue_Compare1 (cD (h pins s σ H _ I hw) λv s1 h1=>cD h1 λu s2 h2=>cD h2 λc s3 ⟨x,H1,I1,r1,q1⟩=>?_) h1;obtain⟨d,rfl,q⟩:=q1;cases r1;exact R5 ⟨H1,I1,q⟩
variable{tA tB':TT}{rest:aZ}
noncomputable def J9(t u:TT):TT:=λσ H Q=>t σ H λc H1=>if c=true then u σ H1 Q else Q false H1
noncomputable def Np(t u:TT):TT:=λσ H Q=>t σ H λc H1=>if c=true then Q true H1 else u σ H1 Q
noncomputable def Kv(t:TT):TT:=λσ H Q=>t σ H λc H1=>Q (!c) H1
theorem DB(ha:PT X a tA):PW X (.BoolOp .And [a] pos) tA:=by
 intro wh pins s σ H Q I h;refine isTrue_and (cD (ha pins s σ H Q I h) λc s1 e=>?_);cases c with
 |true=>exact isTrue_and_nil e
 |false=>exact e
theorem EB(ha:PT X a tA):PW X (.BoolOp .Or [a] pos) tA:=by
 intro wh pins s σ H Q I h;refine isTrue_or (cD (ha pins s σ H Q I h) λc s1 e=>?_);cases c with
 |false=>exact isTrue_or_nil e
 |true=>exact e
theorem Gx(ha:PT X a tA)(hb:PW X (.BoolOp .And (b::rest) pos) tB'):PW X (.BoolOp .And (a::b::rest) pos) (J9 tA tB'):=by
 intro wh pins s σ H Q I h;refine isTrue_and (cD (ha pins s σ H _ I h) λc s1 ⟨H1,I1,q1⟩=>?_);cases c with
 |true=>exact hb wh pins s1 σ H1 Q I1 q1
 |false=>exact⟨H1,I1,q1⟩
theorem Ie(ha:PT X a tA)(hb:PW X (.BoolOp .Or (b::rest) pos) tB'):PW X (.BoolOp .Or (a::b::rest) pos) (Np tA tB'):=by
 intro wh pins s σ H Q I h;refine isTrue_or (cD (ha pins s σ H _ I h) λc s1 ⟨H1,I1,q1⟩=>?_);cases c with
 |true=>exact⟨H1,I1,q1⟩
 |false=>exact hb wh pins s1 σ H1 Q I1 q1
theorem Gs(ha:PT X a tA):PT X (.UnaryOp .Not a pos) (Kv tA):=by
 intro pins s σ H Q I h;exact isTrue_not (ha pins s σ H (λc H1=>Q (!c) H1) I h)
noncomputable def IR(ta tb:TE):TE:=λσ H Q=>ta σ H λx H1=>∃c,x=.bl c/\if c=true then tb σ H1 Q else Q (.bl false) H1
noncomputable def Ld(ta tb:TE):TE:=λσ H Q=>ta σ H λx H1=>∃c,x=.bl c/\if c=true then Q (.bl true) H1 else tb σ H1 Q
noncomputable def Hw(ta:TE):TE:=λσ H Q=>ta σ H λx H1=>∃c,x=.bl c/\Q (.bl (!c)) H1
theorem EW{op}{t:TE}(h:PE X a t):PE X (.BoolOp op [a] pos) t:=λpins s σ H Q I hw=>BoolOp_one (h pins s σ H Q I hw)
theorem G2(ha:PE X a ta)(hb:PE X (.BoolOp .And (b::rest) pos) tb):PE X (.BoolOp .And (a::b::rest) pos) (IR ta tb):=by
 intro pins s σ H Q I h;refine BoolOp_and (cD (ha pins s σ H _ I h) λv s1 ⟨x,H1,I1,r1,q1⟩=>?_);obtain⟨c,rfl,q1⟩:=q1;cases r1;refine R5 ?_;cases c with
 |true=>exact hb pins s1 σ H1 Q I1 q1
 |false=>exact⟨.bl false,H1,I1,rfl,q1⟩
theorem Iz(ha:PE X a ta)(hb:PE X (.BoolOp .Or (b::rest) pos) tb):PE X (.BoolOp .Or (a::b::rest) pos) (Ld ta tb):=by
 intro pins s σ H Q I h;refine BoolOp_or (cD (ha pins s σ H _ I h) λv s1 ⟨x,H1,I1,r1,q1⟩=>?_);obtain⟨c,rfl,q1⟩:=q1;cases r1;refine R5 ?_;cases c with
 |false=>exact hb pins s1 σ H1 Q I1 q1
 |true=>exact⟨.bl true,H1,I1,rfl,q1⟩
theorem EI(ha:PE X a ta):PE X (.UnaryOp .Not a pos) (Hw ta):=by
 intro pins s σ H Q I h;refine UnaryOp_ (cD (ha pins s σ H _ I h) λv s1 ⟨x,H1,I1,r1,q1⟩=>?_);obtain⟨c,rfl,q1⟩:=q1;cases r1;exact not_of (R5 ⟨.bl (!c),H1,I1,rfl,q1⟩)
noncomputable def MZ(t:TT)(ta tb:TE):TE:=λσ H Q=>t σ H λc H1=>if c=true then ta σ H1 Q else tb σ H1 Q
theorem Ac{c:RJ}(hc:PT X c tA)(ha:PE X a ta)(hb:PE X b tb):PE X (.IfExp c a b pos) (MZ tA ta tb):=by
 intro pins s σ H Q I h;refine wpAny_IfExp (cD (hc pins s σ H _ I h) λd s1 ⟨H1,I1,q1⟩=>?_);cases d with
 |true=>exact ha pins s1 σ H1 Q I1 q1
 |false=>exact hb pins s1 σ H1 Q I1 q1
end
noncomputable def lM(K:QG)(H:Hp)(a:RH)(xs:aE):Prop:=
 Rd H a (.lst xs) \/
  ∃(o:Obj)(its:Array RF)(n:Nat),K.lookup a=some o/\o.cls=.type "list"/\o.dict=none/\o.data=.seq its n/\its.size<=RQ/\Vals xs its.toList
noncomputable def nO(K:QG)(H:Hp)(a:RH)(xs:aE):Prop:=
 Rd H a (.tup xs) \/
  ∃(o:Obj)(its:Array RF)(n:Nat),K.lookup a=some o/\o.cls=.type "tuple"/\o.data=.seq its n/\its.size<=RQ/\Vals xs its.toList
noncomputable def JN:RF->Option V
 |.none=>some .non
 |.bool b=>some (.bl b)
 |.int i _=>some (.int i)
 |.str x _=>some (.str x)
 |.bytes b _=>some (.byt b)
 |.float b _=>some (.flt b)
 |.ref a=>some (.ref a)
 |.type n=>some (.ty n)
 |_=>none
theorem RelV.abs{x:V}{u:RF}(r:RelV x u):JN u=some x:=by
 cases x with
 |non=>cases r;rfl
 |bl _=>cases r;rfl
 |int _=>obtain⟨t,rfl⟩:=r;rfl
 |str _=>obtain⟨t,rfl⟩:=r;rfl
 |byt _=>obtain⟨t,rfl⟩:=r;rfl
 |flt _=>obtain⟨t,rfl⟩:=r;rfl
 |ref _=>cases r;rfl
 |ty _=>cases r;rfl
theorem RelV.inj{x y:V}{u:RF}(r:RelV x u)(q:RelV y u):x=y:=Option.some.inj (r.abs.symm.trans q.abs)
theorem Vals.inj:∀{xs ys:aE}{us:bb},Vals xs us->Vals ys us->xs=ys
 |_,_,_,.nil,.nil=>rfl
 |_,_,_,.cons r t,.cons r' t'=>by rw[r.inj r',Vals.inj t t']
section
variable{X:Cx}{pins:bc}{σ:St}{H:Hp}{s:RL}{a:RH}{xs ys:aE}
theorem lM.of{K:QG}(h:H a=some (.lst xs)):lM K H a xs:=.inl (.inl h)
theorem nO.of{K:QG}(h:H a=some (.tup xs)):nO K H a xs:=.inl (.inl h)
theorem Inv.list(I:Inv X pins σ H s)(h:lM X.K H a xs):∃its:bb,Vals xs its/\PlainL s.heap a its.toArray/\xs.length<=RQ:=by
 rcases h with h|⟨o,its,n,hk,hc,hd,hs,hz,r⟩
 ·obtain⟨z,its,n,r,e⟩:=h.ok I.hok;exact⟨its,r,⟨_,n,e,rfl,rfl,rfl⟩,z⟩
 ·refine⟨its.toList,r,⟨o,n,I.kIn a o hk,hc,hd,by simpa using hs⟩,?_⟩;have e:=r.length;simp only[Array.length_toList]at e;omega
theorem Inv.tuple(I:Inv X pins σ H s)(h:nO X.K H a xs):∃its:bb,Vals xs its/\IsTup s.heap a its.toArray/\xs.length<=RQ:=by
 rcases h with h|⟨o,its,n,hk,hc,hs,hz,r⟩
 ·obtain⟨z,its,r,p⟩:=h.ok I.hok;exact⟨its,r,p,z⟩
 ·refine⟨its.toList,r,⟨o,I.kIn a o hk,hc,n,by simpa using hs⟩,?_⟩;have e:=r.length;simp only[Array.length_toList]at e;omega
theorem Inv.list_inj(I:Inv X pins σ H s)(h:lM X.K H a xs)(h':lM X.K H a ys):xs=ys:=by
 obtain⟨its,r,⟨o,n,e,_,_,d⟩,_⟩:=I.list h;obtain⟨its',r',⟨o',n',e',_,_,d'⟩,_⟩:=I.list h';rw[e]at e';cases e';rw[d]at d';injection d' with d1 _
 have:its=its':=by simpa using congrArg Array.toList d1
 subst this;exact r.inj r'
theorem Inv.tuple_inj(I:Inv X pins σ H s)(h:nO X.K H a xs)(h':nO X.K H a ys):xs=ys:=by
 obtain⟨its,r,⟨o,e,_,n,d⟩,_⟩:=I.tuple h;obtain⟨its',r',⟨o',e',_,n',d'⟩,_⟩:=I.tuple h';rw[e]at e';cases e';rw[d]at d';injection d' with d1 _
 have:its=its':=by simpa using congrArg Array.toList d1
 subst this;exact r.inj r'
end
noncomputable abbrev Cx.wish(X:Cx)(E:bX):Cx:={X with xe:=E}
noncomputable abbrev Cx.nox(X:Cx):Cx:=X.wish λ_ _=>False
theorem Cx.Ok.wish{X:Cx}(ok:X.Ok)(E:bX):(X.wish E).Ok:=
 ⟨ok.mod,ok.kind,ok.glob,ok.blt,ok.above,ok.inj,ok.has,ok.cab,ok.hd,ok.frames,ok.stk,ok.exf,ok.bs,ok.bsz,ok.noex,ok.exfs,ok.funs,ok.frf⟩
theorem Cx.Ok.unwish{X:Cx}{E:bX}(ok:(X.wish E).Ok):X.Ok:=
 ⟨ok.mod,ok.kind,ok.glob,ok.blt,ok.above,ok.inj,ok.has,ok.cab,ok.hd,ok.frames,ok.stk,ok.exf,ok.bs,ok.bsz,ok.noex,ok.exfs,ok.funs,ok.frf⟩
section
variable{X:Cx}{pins:bc}{σ:St}{H:Hp}{s:RL}{E:bX}
theorem Inv.wish(I:Inv X pins σ H s)(E:bX):Inv (X.wish E) pins σ H s:=⟨I.ok.wish E,I.os,I.bare,I.base,I.loc,I.cell,I.free,I.freeC,I.pin,I.hok,I.len⟩
theorem Inv.unwish(I:Inv (X.wish E) pins σ H s):Inv X pins σ H s:=⟨I.ok.unwish,I.os,I.bare,I.base,I.loc,I.cell,I.free,I.freeC,I.pin,I.hok,I.len⟩
theorem SP.unwish{D:Ends}{f:Flow}{s':RL}(h:SP (X.wish E) pins D f s'):SP X pins D f s':=by
 cases f with
 |next=>obtain⟨σ',H',I,q⟩:=h;exact⟨σ',H',I.unwish,q⟩
 |brk=>obtain⟨σ',H',I,q⟩:=h;exact⟨σ',H',I.unwish,q⟩
 |cont=>obtain⟨σ',H',I,q⟩:=h;exact⟨σ',H',I.unwish,q⟩
 |ret u=>obtain⟨v,σ',H',I,r,q⟩:=h;exact⟨v,σ',H',I.unwish,r,q⟩
theorem t9.nox{st:dM}{t:TS}(h:t9 X.nox st t):t9 X st t:=λpins s σ H D I hw=>
 R0 (h pins s σ H D (I.wish _) hw) (λ_ _ q=>q.unwish) λ_ _ z=>False.elim z
end
section
variable{X:Cx}{st:RK}{rest:dM}{t u:TS}{e:RJ}{te:TE}{pos:Pos}
noncomputable def yZ:TS:=λD σ H=>D.nx σ H
noncomputable def J7(t u:TS):TS:=λD σ H=>t {D with nx:=u D} σ H
theorem Dh:t9 X [] yZ:=λ_ _ σ H _ I h=>R6 ⟨σ,H,I,h⟩
theorem sM(h1:PS X st t)(h2:t9 X rest u):t9 X (st::rest) (J7 t u):=by
 intro pins s σ H D I h;refine wpAny_execs_cons (cD (h1 pins s σ H {D with nx:=u D} I h) λf s1 q=>?_);cases f with
 |next=>
  obtain⟨σ',H',I',q⟩:=q;exact h2 pins s1 σ' H' D I' q
 |ret v=>exact q
 |brk=>exact q
 |cont=>exact q
theorem vy(h1:PS X st t):t9 X [st] t:=by
 intro pins s σ H D I h;refine wpAny_execs_cons (cD (h1 pins s σ H D I h) λf s1 q=>?_);cases f with
 |next=>exact R6 q
 |ret v=>exact q
 |brk=>exact q
 |cont=>exact q
theorem BG:PS X (.Pass pos) yZ:=λ_ _ σ H _ I h=>wpAny_Pass ⟨σ,H,I,h⟩
theorem Inv.quiet{pins:bc}{σ:St}{H:Hp}{s:RL}(I:Inv X pins σ H s):interactive X.env=false:=by simp[interactive,I.ok.kind]
theorem GB{x j pos pos'}:PS X (.Expr (.Constant (.str x) j pos) pos') yZ:=λ_ s σ H _ I h=>wpAny_Expr (Calls.Constant_str (show SP X _ _ .next {s with toks:=s.toks+1}from⟨σ,H,I.tok _,h⟩)) I.quiet
noncomputable def HV(te:TE):TS:=λD σ H=>te σ H λ_ H1=>D.nx σ H1
theorem vz(he:PE X e te)(hs:swapsWith e none pos.line X.env=pure false:=by rfl):PS X (.Expr e pos) (HV te):=by
 intro pins s σ H D I h;exact wpAny_Expr_any (cD (he pins s σ H _ I h) λv s1 ⟨x,H1,I1,r1,q1⟩=>⟨σ,H1,I1,q1⟩) I.quiet hs
noncomputable def K7(te:TE):TS:=λD σ H=>te σ H D.rt
theorem Fa(he:PE X e te):PS X (.Return (some e) pos) (K7 te):=by
 intro pins s σ H D I h;exact wpAny_Return_some (cD (he pins s σ H _ I h) λv s1 ⟨x,H1,I1,r1,q1⟩=>⟨x,σ,H1,I1,r1,q1⟩)
noncomputable def KO(c:TT)(t u:TS):TS:=λD σ H=>c σ H λb H1=>if b=true then t D σ H1 else u D σ H1
theorem Iu{c:RJ}{a b:dM}{tc:TT}(hc:PT X c tc)(ha:t9 X a t)(hb:t9 X b u):PS X (.If c a b pos) (KO tc t u):=by
 intro pins s σ H D I h;refine wpAny_If (cD (hc pins s σ H _ I h) λd s1 ⟨H1,I1,q1⟩=>?_);cases d with
 |true=>exact ha pins s1 σ H1 D I1 q1
 |false=>exact hb pins s1 σ H1 D I1 q1
end
noncomputable abbrev TG:=V->St->Hp->(St->Hp->Prop)->Prop
noncomputable abbrev Eg:=List V->St->Hp->(St->Hp->Prop)->Prop
noncomputable def PG(X:Cx)(target:RJ)(t:TG):Prop:=
 ∀(pins:bc)(s:RL)(σ:St)(H:Hp)(v:V)(u:RF)(Q:St->Hp->Prop),Inv X pins σ H s->RelV v u->t v σ H Q->
  RY (model X.prog X.w) X.A (assign target X.env u) (λ_ s'=>∃σ' H',Inv X pins σ' H' s'/\Q σ' H') X.xe s
noncomputable def Jb(X:Cx)(ts:aZ)(t:Eg):Prop:=
 ∀(pins:bc)(s:RL)(σ:St)(H:Hp)(vs:aE)(us:bb)(Q:St->Hp->Prop),Inv X pins σ H s->Vals vs us->t vs σ H Q->
  RY (model X.prog X.w) X.A (assignInOrder ((assignEach ts X.env).map (·.2)) us) (λ_ s'=>∃σ' H',Inv X pins σ' H' s'/\Q σ' H') X.xe s
section
variable{X:Cx}{pos:Pos}
noncomputable def qB(i:Nat):TG:=λv σ H Q=>Q (σ.set i (some v)) H
theorem Ct{i:Nat}{x:Str}(hN:X.N.Nodup)(hi:X.N[i]?=some x)(hx:Loc X.env.scope x)(hf:X.fn x=true\/X.env.scope.names.lookup x=some .local:=by first|exact .inl rfl|exact .inr rfl|assumption):PG X (.Name x pos) (qB i):=by
 intro pins s σ H v u Q I r h;exact wpAny_assign_Name (tD I hN hi hx r (λs' I'=>⟨_,H,I',h⟩) hf)
noncomputable def Lh:Eg:=λvs σ H Q=>vs=[]/\Q σ H
noncomputable def Hx(t:TG)(u:Eg):Eg:=λvs σ H Q=>∃v r,vs=v::r/\t v σ H λσ' H'=>u r σ' H' Q
theorem C8:Jb X [] Lh:=by
 intro pins s σ H vs us Q I r h;obtain⟨e,h⟩:=h;subst e;cases r;exact assignInOrder_nil ⟨σ,H,I,h⟩
theorem zD{e:RJ}{es:aZ}{t:TG}{u:Eg}(h1:PG X e t)(h2:Jb X es u)
  (hs:(assignEach (e::es) X.env).map (·.2)=assign e X.env::(assignEach es X.env).map (·.2):=by rfl):Jb X (e::es) (Hx t u):=by
 intro pins s σ H vs us Q I r h;obtain⟨v,vr,e1,h⟩:=h;subst e1;cases r with
 |cons r rr=>
  rw[hs];refine assignInOrder_cons (cD (h1 pins s σ H _ _ _ I r h) λ_ s1 ⟨σ1,H1,I1,q1⟩=>?_);exact h2 pins s1 σ1 H1 _ _ Q I1 rr q1
noncomputable def LA(K:QG)(n:Nat)(t:Eg):TG:=λv σ H Q=>∃a xs,v=.ref a/\nO K H a xs/\xs.length=n/\t xs σ H Q
theorem GY{es:aZ}{k:Nat}{t:Eg}{n:Nat}(hc:X.calm=true)(h:Jb X es t)
  (hn:(assignEach es X.env).length=n:=by rfl) (hst:(assignEach es X.env).findIdx? (·.1)=none:=by rfl):PG X (.Tuple es k pos) (LA X.K n t):=by
 intro pins s σ H v u Q I r hw;obtain⟨a,xs,e1,hq,hl,hw⟩:=hw;subst e1;cases r;obtain⟨its,rv,ht,hz⟩:=I.tuple hq;refine assign_Tuple_tuple (I.ok.hd hc) ht (by simp[hn,<-hl,rv.length]) hst λh' hx=>?_;have I1:Inv X pins σ H {s with heap:=h'}:=I.kept (t':=s.toks) λb o e=>hx b o (Ol (Rm e)) e;exact h pins _ σ H xs _ Q I1 (by simpa using rv) hw
noncomputable def yS(te:TE)(g:TG):TS:=λD σ H=>te σ H λx H1=>g x σ H1 D.nx
theorem EV{tg e:RJ}{te:TE}{g:TG}(he:PE X e te)(hg:PG X tg g)(hs:swapsWithSole [tg] e pos.line X.env=pure false:=by rfl)(hw:swappedStores [tg] e X.env=pure none:=by rfl)
  (h1:(assignEach [tg] X.env).map (·.2)=[assign tg X.env]:=by rfl):PS X (.Assign [tg] e pos) (yS te g):=by
 intro pins s σ H D I h;refine wpAny_Assign_stores (cD (he pins s σ H _ I h) λv s1 ⟨x,H1,I1,r1,q1⟩=>?_) hs hw;rw[h1];exact cD (hg pins s1 σ H1 x v _ I1 r1 q1) λ_ s2 q=>q
theorem yA{i:Nat}{x:Str}{e:RJ}{te:TE}{pos':Pos}(hN:X.N.Nodup)(hi:X.N[i]?=some x)(hx:Loc X.env.scope x)(he:PE X e te)(hs:swapsWith e (some (.Name x pos')) pos.line X.env=pure false:=by rfl)(hf:X.fn x=true\/X.env.scope.names.lookup x=some .local:=by first|exact .inl rfl|exact .inr rfl|assumption):
  PS X (.Assign [.Name x pos'] e pos) (yS te (qB i)):=by
 intro pins s σ H D I h;refine wpAny_Assign_Name (cD (he pins s σ H _ I h) λv s1 ⟨y,H1,I1,r1,q1⟩=>?_) hs;exact tD I1 hN hi hx r1 (λs2 I2=>⟨_,H1,I2,q1⟩) hf
end
structure It where
 go:Nat->Hp->Prop
 yld:Nat->Hp->V->Hp->Prop
 stop:Nat->Hp->Prop
noncomputable def pQ(X:Cx)(pins:bc)(H:Hp)(b:RH):Prop:=
 H b=none/\b≠X.env.locals/\b∉X.fs/\(b∈X.ex\/X.s₀.heap.objs.size<=b)/\(∀x c,X.env.cells.lookup x=some c->c≠b)/\∀p∈X.pn++pins,p.1≠b
theorem Inv.fpOk{X:Cx}{pins:bc}{σ:St}{H H':Hp}{s:RL}{b:RH}(I:Inv X pins σ H s)(hb:s.heap.objs.size<=b)(hn:H' b=none):pQ X pins H' b:=by
 refine⟨hn,Oy (Oi I.lt hb),I.nofs hb,.inr (Om I.sz hb),λx c e z=>?_,λp hp z=>?_⟩
 ·obtain⟨v,q⟩:=I.cell x c e;exact absurd (Oi q.lt (by rw[z];exact hb)) (Oj _)
 ·exact absurd (Oi (Rm (I.pin p hp).1) (by rw[z];exact hb)) (Oj _)
structure Turn(P:RN)(w:RM)(K:QG)(tg:RJ)(J:It)(fp:az)(it:RH)(tn:Nat->RP->Prop):Prop where
 mem:it∈fp
 obj:∀i h,tn i h->∀b∈fp,∃o,h.get? b=some o/\∀v,o.data≠.cell v
 keep:∀i h h',tn i h->(∀b∈fp,∀o,h.get? b=some o->h'.get? b=some o)->tn i h'
 item:∀(X:Cx),X.prog=P->X.w=w->X.K=K->X.calm=true->∀(i:Nat)(pins:bc)(s:RL)(σ:St)(H:Hp)(E:bX),Inv X pins σ H s->(∀b∈fp,pQ X pins H b)->tn i s.heap->J.go i H->
  RY (model P w) X.A (pyNext (.ref it)) (λr s1=>∃u,r=some u/\
   RY (model P w) X.A (letOwnedTupleGo tg (.ref it) u) (λ_ s2=>∃x H',Inv X pins σ H' s2/\RelV x u/\J.yld i H x H'/\tn (i+1) s2.heap/\∀b∈fp,H' b=none) E s1) E s
 done:∀(X:Cx),X.prog=P->X.w=w->X.K=K->X.calm=true->∀(i:Nat)(pins:bc)(s:RL)(σ:St)(H:Hp)(E:bX),Inv X pins σ H s->(∀b∈fp,pQ X pins H b)->tn i s.heap->J.stop i H->
  RY (model P w) X.A (pyNext (.ref it)) (λr s1=>r=none/\Inv X pins σ H s1) E s
 self:∀(A:RV)(i:Nat)(s:RL)(Q:bX)(E:bX),tn i s.heap->Q (.ref it) s->RY (model P w) A (pyIter (.ref it)) Q E s
noncomputable abbrev TI:=St->Hp->(It->Hp->Prop)->Prop
noncomputable def PIE(X:Cx)(pins:bc)(σ:St)(tg:RJ)(R:It->Hp->Prop)(itv:RF)(s2:RL):Prop:=
 ∃(it:RH)(fp:az)(tn:Nat->RP->Prop)(J:It)(H':Hp),itv=.ref it/\Inv X pins σ H' s2/\Turn X.prog X.w X.K tg J fp it tn/\tn 0 s2.heap/\(∀b∈fp,pQ X pins H' b)/\R J H'
noncomputable def PI(X:Cx)(tg iter:RJ)(wi:TI):Prop:=
 ∀(pins:bc)(s:RL)(σ:St)(H:Hp)(R:It->Hp->Prop),Inv X pins σ H s->wi σ H R->
  RY (model X.prog X.w) X.A (eval iter X.env) (λv s1=>RY (model X.prog X.w) X.A (pyIter v) (PIE X pins σ tg R) X.xe s1) X.xe s
theorem y4{M:RX}{A:RV}{E:bX}{s:RL}{tg:RJ}{it:RH}{u:RF}{o:Obj}{n:String}{vs:Array RF}{Q:Unit->jE}(ho:s.heap.get? it=some o)(hc:o.cls=.type n)(hd:o.data=.fields vs)
    (hn:["enumerate","zip","dict_itemiterator","dict_reverseitemiterator","odict_iterator","itertools.zip_longest","itertools.pairwise"].contains n=false) (hQ:Q () s):RY M A (letOwnedTupleGo tg (.ref it) u) Q E s:=by
  unfold letOwnedTupleGo;cases tg<;>first
    |exact R7 hQ
    | (cases u <;> first
        |exact R7 hQ
        | (refine R8 (wpAny_load ho ?_)
           rw[hc,hd];show RY M A (if(["enumerate","zip","dict_itemiterator","dict_reverseitemiterator","odict_iterator","itertools.zip_longest","itertools.pairwise"].contains n&&vs[0]?==some (rawInt _))=true then _ else _) Q E s;rw[if_neg (by intro h;rw[hn,Bool.false_and]at h;cases h)];exact R7 hQ))
noncomputable def Lp(K:QG)(a:RH):It:=
 ⟨λi H=>∃xs x,lM K H a xs/\xs[i]?=some x,λi H x H'=>H'=H/\∀xs,lM K H a xs->xs[i]?=some x,λi H=>∃xs,lM K H a xs/\xs.length<=i⟩
noncomputable def JX(K:QG)(a:RH):It:=
 ⟨λi H=>∃xs x,nO K H a xs/\xs[i]?=some x,λi H x H'=>H'=H/\∀xs,nO K H a xs->xs[i]?=some x,λi H=>∃xs,nO K H a xs/\xs.length<=i⟩
noncomputable def Ig(lo:Int)(n:Nat):It:=⟨λi _=>i<n,λi H x H'=>H'=H/\x=.int (lo+i),λi _=>n<=i⟩
theorem xn{P:RN}{w:RM}{K:QG}{tg:RJ}(a it:RH):Turn P w K tg (Lp K a) [it] it (λi h=>h.IsListIter it a i)where
 mem:=by simp
 obj:=λi h st b hb=>by
  have e:b=it:=by simpa using hb
  subst e;obtain⟨o,e,c,d⟩:=st;exact⟨o,e,λv z=>by rw[d]at z;cases z⟩
 keep:=λi h h' st k=>st.at λo e=>k it (by simp) o e
 item:=by
  intro X hP hw hK hc i pins s σ H E I hf st hg;subst hP hw hK;obtain⟨xs,x,hq,hx⟩:=hg;obtain⟨its,rv,p,hz⟩:=I.list hq;obtain⟨u,hu,ru⟩:=rv.get hx;obtain⟨f0,f1,f2,f3,f4,f5⟩:=hf it (by simp);refine wpAny_pyNext_list_item st p.isList (x:=u) (by simpa using hu) λh' st' sb=>?_;have I1:Inv X pins σ H {s with heap:=h'}:=I.turned (t':=s.toks) (λb o hb e=>(sb.2 b hb).trans e) f0 f1 f3 f4 f5;obtain⟨o,e,c,d⟩:=id st';exact⟨u,rfl,y4 (s:={s with heap:=h'}) e c d (by decide) ⟨x,H,I1,ru,⟨rfl,λys hy=>by rw[I.list_inj hy hq];exact hx⟩,st',λb hb=>(hf b hb).1⟩⟩
 done:=by
  intro X hP hw hK hc i pins s σ H E I hf st hg;subst hP hw hK;obtain⟨xs,hq,hx⟩:=hg;obtain⟨its,rv,p,hz⟩:=I.list hq;obtain⟨f0,f1,f2,f3,f4,f5⟩:=hf it (by simp);have hl:=rv.length;exact wpAny_pyNext_list_end (I.ok.hd hc) st p.isList (by simp;omega) λh' eb=>⟨rfl,I.turned (t':=s.toks) (λb o hb e=>eb b o hb e) f0 f1 f3 f4 f5⟩
 self:=λ_ _ _ _ _ st h=>wpAny_pyIter_listiter st h
theorem uS{P:RN}{w:RM}{K:QG}{tg:RJ}(a it:RH):Turn P w K tg (JX K a) [it] it (λi h=>h.IsTupleIter it a i)where
 mem:=by simp
 obj:=λi h st b hb=>by
  have e:b=it:=by simpa using hb
  subst e;obtain⟨o,e,c,d⟩:=st;exact⟨o,e,λv z=>by rw[d]at z;cases z⟩
 keep:=λi h h' st k=>st.at λo e=>k it (by simp) o e
 item:=by
  intro X hP hw hK hc i pins s σ H E I hf st hg;subst hP hw hK;obtain⟨xs,x,hq,hx⟩:=hg;obtain⟨its,rv,p,hz⟩:=I.tuple hq;obtain⟨u,hu,ru⟩:=rv.get hx;obtain⟨f0,f1,f2,f3,f4,f5⟩:=hf it (by simp);refine wpAny_pyNext_tuple_item st (show s.heap.IsTuple a its.toArray from p) (x:=u) (by simpa using hu) λh' st' sb=>?_;have I1:Inv X pins σ H {s with heap:=h'}:=I.turned (t':=s.toks) (λb o hb e=>(sb.2 b hb).trans e) f0 f1 f3 f4 f5;obtain⟨o,e,c,d⟩:=id st';exact⟨u,rfl,y4 (s:={s with heap:=h'}) e c d (by decide) ⟨x,H,I1,ru,⟨rfl,λys hy=>by rw[I.tuple_inj hy hq];exact hx⟩,st',λb hb=>(hf b hb).1⟩⟩
 done:=by
  intro X hP hw hK hc i pins s σ H E I hf st hg;subst hP hw hK;obtain⟨xs,hq,hx⟩:=hg;obtain⟨its,rv,p,hz⟩:=I.tuple hq;obtain⟨f0,f1,f2,f3,f4,f5⟩:=hf it (by simp);have hl:=rv.length;exact wpAny_pyNext_tuple_end (I.ok.hd hc) st (show s.heap.IsTuple a its.toArray from p) (by simp;omega) λh' eb=>⟨rfl,I.turned (t':=s.toks) (λb o hb e=>eb b o hb e) f0 f1 f3 f4 f5⟩
 self:=λ_ _ _ _ _ st h=>wpAny_pyIter_tupleiter st h
theorem u6{P:RN}{w:RM}{K:QG}{tg:RJ}(it:RH)(lo:Int)(n:Nat):Turn P w K tg (Ig lo n) [it] it (λi h=>IsRangeIter h it (lo+(i:Nat)*1) ((n:Int)-(i:Nat)) 1)where
 mem:=by simp
 obj:=λi h st b hb=>by
  have e:b=it:=by simpa using hb
  subst e;exact⟨_,st,λv z=>by
   have z':Data.fields _=Data.cell v:=z;cases z'⟩
 keep:=λi h h' st k=>k it (by simp) _ st
 item:=by
  intro X hP hw hK hc i pins s σ H E I hf st hg;subst hP hw hK;obtain⟨f0,f1,f2,f3,f4,f5⟩:=hf it (by simp);have W:=Walks.range (prog:=X.prog) (w:=X.w) (I.ok.hd hc) it lo 1 n;refine W.item i s _ _ hg st λv h' tk hv st' kk=>?_;obtain⟨t,rfl⟩:=hv;have I1:Inv X pins σ H {s with heap:=h',toks:=tk}:=I.turned (λb o hb e=>kk b o (by simpa using hb) e) f0 f1 f3 f4 f5;refine⟨_,rfl,y4 (s:={s with heap:=h',toks:=tk}) (n:="range_iterator") st' rfl rfl (by decide) ⟨.int (lo+i),H,I1,⟨t,?_⟩,⟨rfl,rfl⟩,st',λb hb=>(hf b hb).1⟩⟩;rw[Int.mul_one]
 done:=by
  intro X hP hw hK hc i pins s σ H E I hf st hg;subst hP hw hK;obtain⟨f0,f1,f2,f3,f4,f5⟩:=hf it (by simp);exact wpAny_pyNext_range_end (I.ok.hd hc) st (by have:n<=i:=hg;omega) λh' eb=>⟨rfl,I.turned (t':=s.toks) (λb o hb e=>eb b o hb e) f0 f1 f3 f4 f5⟩
 self:=λ_ _ _ _ _ st h=>wpAny_pyIter_rangeiter st h
section
variable{X:Cx}{tg:RJ}
noncomputable def IW(K:QG)(tl:TE):TI:=λσ H R=>tl σ H λx H1=>∃a,x=.ref a/\(∃xs,lM K H1 a xs)/\R (Lp K a) H1
noncomputable def La(K:QG)(tl:TE):TI:=λσ H R=>tl σ H λx H1=>∃a,x=.ref a/\(∃xs,nO K H1 a xs)/\R (JX K a) H1
theorem vq{l:RJ}{tl:TE}(hl:PE X l tl):PI X tg l (IW X.K tl):=by
 intro pins s σ H R I h;refine cD (hl pins s σ H _ I h) λv s1 ⟨x,H1,I1,r1,q1⟩=>?_;obtain⟨a,e,⟨xs,hq⟩,q⟩:=q1;subst e;cases r1;obtain⟨its,rv,p,hz⟩:=I1.list hq;refine R9 p.isList ?_;refine⟨s1.heap.objs.size,[s1.heap.objs.size],_,_,H1,rfl,I1.kept (t':=s1.toks) λb o e=>Ro _ e,xn a _,⟨_,Rp _ rfl,rfl,rfl⟩,λb hb=>?_,q⟩;have e:b=s1.heap.objs.size:=by simpa using hb
 subst e;exact I1.fpOk (Oz _) (I1.hok.fresh (Oz _))
theorem GC{l:RJ}{tl:TE}(hl:PE X l tl):PI X tg l (La X.K tl):=by
 intro pins s σ H R I h;refine cD (hl pins s σ H _ I h) λv s1 ⟨x,H1,I1,r1,q1⟩=>?_;obtain⟨a,e,⟨xs,hq⟩,q⟩:=q1;subst e;cases r1;obtain⟨its,rv,p,hz⟩:=I1.tuple hq;refine wpAny_pyIter_tuple (show s1.heap.IsTuple a its.toArray from p) ?_;refine⟨s1.heap.objs.size,[s1.heap.objs.size],_,_,H1,rfl,I1.kept (t':=s1.toks) λb o e=>Ro _ e,uS a _,⟨_,Rp _ rfl,rfl,rfl⟩,λb hb=>?_,q⟩;have e:b=s1.heap.objs.size:=by simpa using hb
 subst e;exact I1.fpOk (Oz _) (I1.hok.fresh (Oz _))
theorem sN{pins:bc}{σ:St}{H:Hp}{s:RL}{R:It->Hp->Prop}{E:bX}{lo hi:Int}{t u v:Tok}{tk:Nat}(I:Inv X pins σ H s)(h1:-(2^62)<=lo)(h2:lo<2^62)(h3:-(2^62)<=hi)(h4:hi<2^62)
  (q:R (Ig lo (hi-lo).toNat) H):RY (model X.prog X.w) X.A (pyIter (.ref s.heap.objs.size)) (PIE X pins σ tg R) E {s with heap:=s.heap.push {cls:=.type "range",data:=.fields #[.int lo t,.int hi u,.int 1 v]},toks:=tk}:=by
 refine wpAny_pyIter_range (IsRange.new ..) (small_one h1 h2 h3 h4) ?_;have I1:Inv X pins σ H {s with heap:=s.heap.push {cls:=.type "range",data:=.fields #[.int lo t,.int hi u,.int 1 v]},toks:=tk}:=I.kept λb o e=>Ro _ e;refine⟨(s.heap.push {cls:=.type "range",data:=.fields #[.int lo t,.int hi u,.int 1 v]}).objs.size,[(s.heap.push {cls:=.type "range",data:=.fields #[.int lo t,.int hi u,.int 1 v]}).objs.size],_,_,H,rfl,
  I1.kept (t':=tk) λb o e=>Ro _ e,u6 _ lo (hi-lo).toNat,?_,λb hb=>?_,q⟩
 ·have e1:lo+((0:Nat):Int)*1=lo:=by simp
  have e2:(((hi-lo).toNat:Nat):Int)-((0:Nat):Int)=Builtin.Range.rangeSize lo hi 1:=by rw[rangeSize_one];split<;>omega
  show IsRangeIter _ _ (lo+((0:Nat):Int)*1) ((((hi-lo).toNat:Nat):Int)-((0:Nat):Int)) 1;rw[e1,e2];exact Rp _ rfl
 ·have e:b=(s.heap.push {cls:=.type "range",data:=.fields #[.int lo t,.int hi u,.int 1 v]}).objs.size:=by simpa using hb
  subst e;exact I1.fpOk (Oz _) (I1.hok.fresh (Oz _))
noncomputable def Ht(ta:TA):TI:=λσ H R=>ta σ H λvs H1=>∃j:Int,vs=[.int j]/\-(2^62)<=j/\j<2^62/\R (Ig 0 j.toNat) H1
noncomputable def IT(ta:TA):TI:=λσ H R=>ta σ H λvs H1=>∃i j:Int,vs=[.int i,.int j]/\(-(2^62)<=i/\i<2^62/\-(2^62)<=j/\j<2^62)/\R (Ig i (j-i).toNat) H1
theorem w8{a:RJ}{ta:TA}{p pos:Pos}(hg:Gl X "range")(hm:X.mg "range"=none)(ha:PA X [a] ta)(hs:RZ [a] X.env=[(false,eval a X.env)]:=by rfl):PI X tg (.Call (.Name "range" p) [a] [] pos) (Ht ta):=by
 intro pins s σ H R I h;refine Call_ (jm I hg hm boot_range (Rv (cD (ha pos pins s σ H _ I h) λus s1 ⟨vs,H1,I1,r1,q1⟩=>?_) hs rfl));obtain⟨j,e,q1,q2,q⟩:=q1;subst e;cases r1 with
 |cons r rr=>
  cases rr;obtain⟨t,rfl⟩:=r;exact call_range_1 (sN I1 ‹0› ‹0› q1 q2 (by simpa using q))
theorem wM{a b:RJ}{ta:TA}{p pos:Pos}(hg:Gl X "range")(hm:X.mg "range"=none)(ha:PA X [a,b] ta)(hs:RZ [a,b] X.env=[(false,eval a X.env),(false,eval b X.env)]:=by rfl)(hs2:RZ [b] X.env=[(false,eval b X.env)]:=by rfl):
  PI X tg (.Call (.Name "range" p) [a,b] [] pos) (IT ta):=by
 intro pins s σ H R I h;refine Call_ (jm I hg hm boot_range (Rv (cD (ha pos pins s σ H _ I h) λus s1 ⟨vs,H1,I1,r1,q1⟩=>?_) (by rw[hs,hs2]) (by rw[hs2];rfl)));obtain⟨i,j,e,⟨q1,q2,q3,q4⟩,q⟩:=q1;subst e;cases r1 with
 |cons r rr=>
  cases rr with
  |cons r' rr=>
   cases rr;obtain⟨t,rfl⟩:=r;obtain⟨t',rfl⟩:=r';exact call_range_2 (sN I1 q1 q2 q3 q4 q)
noncomputable def JW(wi:TI)(g:TG)(tb:TS):TS:=λD σ H=>wi σ H λJ H1=>∃W:Nat->Nat->St->Hp->Prop,(∃m,W 0 m σ H1)/\∀i m σ H,W i m σ H->
 (J.stop i H/\D.nx σ H)\/(J.go i H/\∃N:St->Hp->Prop,(∀σ' H',N σ' H'->∃m',m'<m/\W (i+1) m' σ' H')/\∀x H',J.yld i H x H'->g x σ H' λσ2 H2=>tb {D with nx:=N,ct:=N,bk:=D.nx} σ2 H2)
noncomputable def o9(fp:az)(h:RP):bc:=fp.filterMap λb=>(h.get? b).map λo=>(b,o)
theorem iH{fp:az}{h:RP}{b:RH}{o:Obj}(hb:b∈fp)(e:h.get? b=some o):(b,o)∈o9 fp h:=List.mem_filterMap.mpr ⟨b,hb,by rw[e];rfl⟩
theorem wU{fp:az}{h:RP}{p:RH×Obj}(hp:p∈o9 fp h):p.1∈fp/\h.get? p.1=some p.2:=by
 obtain⟨b,hb,e⟩:=List.mem_filterMap.mp hp;cases q:h.get? b with
 |none=>rw[q]at e;cases e
 |some o=>
  rw[q]at e;have e':(b,o)=p:=Option.some.inj e;subst e';exact⟨hb,q⟩
theorem Inv.pinned{pins:bc}{σ:St}{H:Hp}{s:RL}{fp:az}(I:Inv X pins σ H s)(hf:∀b∈fp,pQ X pins H b)(ho:∀b∈fp,∃o,s.heap.get? b=some o/\∀v,o.data≠.cell v):Inv X (pins++o9 fp s.heap) σ H s:=
 I.pins_of λp hp=>(List.mem_append.mp hp).elim (λz=>I.pin p (OA _ z)) λz=>by
  obtain⟨hb,e⟩:=wU z;obtain⟨f0,f1,f2,_⟩:=hf p.1 hb;obtain⟨o,e',d⟩:=ho p.1 hb;rw[e]at e';cases e';exact⟨e,f0,f1,f2,d⟩
theorem Inv.unpinned{pins pl:bc}{σ:St}{H:Hp}{s:RL}(I:Inv X (pins++pl) σ H s):Inv X pins σ H s:=I.pins_of λp hp=>I.pin p (OA _ (Ov _ hp))
theorem Eu{iter:RJ}{body:dM}{wi:TI}{g:TG}{tb:TS}{pos:Pos}(hp:Sa (model X.prog X.w) X.A X.env X.xe)(hc:X.calm=true)(hi:PI X tg iter wi)(hg:PG X tg g)(hb:t9 X body tb)
  (hs:∀x,Sb iter X.env x=pure x:=by intro _;rfl):PS X (.For tg iter body [] pos) (JW wi g tb):=by
 intro pins s σ H D I h;refine wpAny_For (cD (hi pins s σ H _ I h) λv s1 h1=>cD h1 λitv s2 h2=>?_) hs;obtain⟨it,fp,tn,J,H2,e,I2,T,st2,f2,W,⟨m0,w0⟩,turn⟩:=h2;subst e;have stat:∀{H':Hp},(∀b∈fp,H' b=none)->∀b∈fp,pQ X pins H' b:=λhn b hb=>⟨hn b hb,(f2 b hb).2⟩
 refine codeAny_forLoop_any (λn s'=>∃i σ' H',Inv X pins σ' H' s'/\tn i s'.heap/\(∀b∈fp,H' b=none)/\W i n σ' H') ?_ m0 ⟨0,σ,H2,I2,st2,λb hb=>(f2 b hb).1,w0⟩;rintro n s3 ⟨i,σ3,H3,I3,st3,fr3,w3⟩;rcases turn i n σ3 H3 w3 with⟨stop,qn⟩|⟨go,N,hN,step⟩
 ·refine Sd hp (cD (T.done X rfl rfl rfl hc i pins s3 σ3 H3 X.xe I3 (stat fr3) st3 stop) λr s4 ⟨hr,I4⟩=>?_);subst hr;exact R6 ⟨σ3,H3,I4,qn⟩
 ·refine Sd hp (cD (T.item X rfl rfl rfl hc i pins s3 σ3 H3 X.xe I3 (stat fr3) st3 go) λr s4 ⟨u,hr,h4⟩=>?_);subst hr;refine Sd hp (cD h4 λ_ s5 ⟨x,H5,I5,r5,y5,st5,fr5⟩=>?_);have I5':=I5.pinned (stat fr5) (T.obj _ _ st5);refine Sd hp (cD (hg _ s5 σ3 H5 x u _ I5' r5 (step x H5 y5)) λ_ s6 ⟨σ6,H6,I6,q6⟩=>?_);refine Sd hp (cD (hb _ s6 σ6 H6 _ I6 q6) λf s7 q7=>?_);have again:∀{σ7:St}{H7:Hp},Inv X (pins++o9 fp s5.heap) σ7 H7 s7->N σ7 H7->∃m,m<n/\∃i σ' H',Inv X pins σ' H' s7/\tn i s7.heap/\(∀b∈fp,H' b=none)/\W i m σ' H':=λ{σ7 H7} I7 n7=>by
   obtain⟨m',hm,w7⟩:=hN σ7 H7 n7;refine⟨m',hm,i+1,σ7,H7,I7.unpinned,T.keep _ _ _ st5 λb hb o e=>(I7.pin (b,o) (OA _ (OA _ (iH hb e)))).1,λb hb=>?_,w7⟩;obtain⟨o,e,d⟩:=T.obj _ _ st5 b hb;exact(I7.pin (b,o) (OA _ (OA _ (iH hb e)))).2.1
  cases f with
  |next=>obtain⟨σ7,H7,I7,n7⟩:=q7;exact again I7 n7
  |cont=>obtain⟨σ7,H7,I7,n7⟩:=q7;exact again I7 n7
  |brk=>obtain⟨σ7,H7,I7,q7⟩:=q7;exact⟨σ7,H7,I7.unpinned,q7⟩
  |ret v=>obtain⟨x7,σ7,H7,I7,r7,q7⟩:=q7;exact⟨x7,σ7,H7,I7.unpinned,r7,q7⟩
end
noncomputable abbrev R2:=V->V->Hp->VK->Prop
noncomputable def gZ(X:Cx)(f:RF->RF->Sem RF)(r:R2):Prop:=
 ∀(pins:bc)(s:RL)(σ:St)(H:Hp)(x y:V)(v u:RF)(Q:VK),Inv X pins σ H s->RelV x v->RelV y u->r x y H Q->
  RY (model X.prog X.w) X.A (f v u) (EP X pins σ Q) X.xe s
noncomputable def Kw(X:Cx)(f:RF->Sem RF)(r:V->Hp->VK->Prop):Prop:=
 ∀(pins:bc)(s:RL)(σ:St)(H:Hp)(x:V)(v:RF)(Q:VK),Inv X pins σ H s->RelV x v->r x H Q->
  RY (model X.prog X.w) X.A (f v) (EP X pins σ Q) X.xe s
noncomputable def eJ(X:Cx)(f:RF)(r:aE->Hp->VK->Prop):Prop:=
 ∀(pins:bc)(s:RL)(σ:St)(H:Hp)(xs:aE)(us:bb)(Q:VK),Inv X pins σ H s->Vals xs us->r xs H Q->
  RY (model X.prog X.w) X.A (call f us) (EP X pins σ Q) X.xe s
noncomputable def KZ(X:Cx)(r:V->Hp->(Bool->Hp->Prop)->Prop):Prop:=
 ∀(pins:bc)(s:RL)(σ:St)(H:Hp)(x:V)(v:RF)(Q:Bool->Hp->Prop),Inv X pins σ H s->RelV x v->r x H Q->
  RY (model X.prog X.w) X.A (truthy v) (TP X pins σ Q) X.xe s
noncomputable def HK(r:R2)(ta tb:TE):TE:=λσ H Q=>ta σ H λx H1=>tb σ H1 λy H2=>r x y H2 Q
noncomputable def Ms(r:V->Hp->VK->Prop)(ta:TE):TE:=λσ H Q=>ta σ H λx H1=>r x H1 Q
noncomputable def rI(C:Int->Int->Prop)(g:Int->Int->V):R2:=λx y H Q=>∃i j,x=.int i/\y=.int j/\C i j/\Q (g i j) H
noncomputable def yM(g:Int->Int->V):R2:=λx y H Q=>∃i j,x=.int i/\y=.int j/\Q (g i j) H
noncomputable def rU(g:Int->V):V->Hp->VK->Prop:=λx H Q=>∃i,x=.int i/\Q (g i) H
section
variable{X:Cx}{a b c:RJ}{ta tb tc:TE}{pos:Pos}
theorem Fb(ha:PE X a ta)(hb:PE X b tb){pins:bc}{s:RL}{σ:St}{H:Hp}{R:V->V->Hp->Prop}(I:Inv X pins σ H s)
  (h:ta σ H λx H1=>tb σ H1 λy H2=>R x y H2) {Q:bX} {f:RF->RF->Sem RF}
  (hf:∀v u s2 x y H2,Inv X pins σ H2 s2->RelV x v->RelV y u->R x y H2->RY (model X.prog X.w) X.A (f v u) Q X.xe s2):
  RY (model X.prog X.w) X.A (eval a X.env) (λv s₁=>RY (model X.prog X.w) X.A (eval b X.env) (λu s₂=>RY (model X.prog X.w) X.A (f v u) Q X.xe s₂) X.xe s₁) X.xe s:=by
 refine cD (ha pins s σ H _ I h) λv s1 ⟨x,H1,I1,r1,q1⟩=>?_;refine cD (hb pins s1 σ H1 _ I1 q1) λu s2 ⟨y,H2,I2,r2,q2⟩=>?_;exact hf v u s2 x y H2 I2 r1 r2 q2
theorem IP{op:Operator}{r:R2}(ho:gZ X (Se op) r)(ha:PE X a ta)(hb:PE X b tb):PE X (.BinOp a op b pos) (HK r ta tb):=by
 intro pins s σ H Q I h;exact wpAny_BinOp (Fb ha hb I h λv u s2 x y H2 I2 rx ry q=>ho pins s2 σ H2 x y v u Q I2 rx ry q)
theorem Hq{op:UnaryOp}{r:V->Hp->VK->Prop}(ho:Kw X (unaryOp op) r)(ha:PE X a ta):PE X (.UnaryOp op a pos) (Ms r ta):=by
 intro pins s σ H Q I h;exact UnaryOp_ (cD (ha pins s σ H _ I h) λv s1 ⟨x,H1,I1,r1,q1⟩=>ho pins s1 σ H1 x v Q I1 r1 q1)
theorem Jd{f:RF->RF->Sem RF}{C:Int->Int->Prop}{g:Int->Int->Int}
  (rule:∀(i j:Int)(t u:Tok)(s:RL)(Q:bX)(E:bX),C i j->Q (.int (g i j) s.toks) {s with toks:=s.toks+1}->RY (model X.prog X.w) X.A (f (.int i t) (.int j u)) Q E s):
  gZ X f (rI C λi j=>.int (g i j)):=by
 intro pins s σ H x y v u Q I rx ry h;obtain⟨i,j,rfl,rfl,hc,q⟩:=h;obtain⟨t,rfl⟩:=rx;obtain⟨t',rfl⟩:=ry;exact rule i j t t' s _ _ hc ⟨.int (g i j),H,I.tok _,⟨_,rfl⟩,q⟩
theorem HE{f:RF->RF->Sem RF}{g:Int->Int->Int}
  (rule:∀(i j:Int)(t u:Tok)(s:RL)(Q:bX)(E:bX),Q (.int (g i j) s.toks) {s with toks:=s.toks+1}->RY (model X.prog X.w) X.A (f (.int i t) (.int j u)) Q E s):
  gZ X f (yM λi j=>.int (g i j)):=by
 intro pins s σ H x y v u Q I rx ry h;obtain⟨i,j,rfl,rfl,q⟩:=h;obtain⟨t,rfl⟩:=rx;obtain⟨t',rfl⟩:=ry;exact rule i j t t' s _ _ ⟨.int (g i j),H,I.tok _,⟨_,rfl⟩,q⟩
theorem DH{f:RF->RF->Sem RF}{g:Int->Int->Bool}
  (rule:∀(i j:Int)(t u:Tok)(s:RL)(Q:bX)(E:bX),Q (.bool (g i j)) s->RY (model X.prog X.w) X.A (f (.int i t) (.int j u)) Q E s):
  gZ X f (yM λi j=>.bl (g i j)):=by
 intro pins s σ H x y v u Q I rx ry h;obtain⟨i,j,rfl,rfl,q⟩:=h;obtain⟨t,rfl⟩:=rx;obtain⟨t',rfl⟩:=ry;exact rule i j t t' s _ _ ⟨.bl (g i j),H,I,rfl,q⟩
noncomputable def Ih(i j:Int):Prop:=0<=j/\j<=1000000/\i.natAbs<2^64
noncomputable def EY(i j:Int):Prop:=(-(2^64)<i/\i<2^64)\/(-(2^64)<j/\j<2^64)
theorem EY.ok{i j:Int}(h:EY i j):IntMulOk i j:=by
 rcases h with⟨h1,h2⟩|⟨h1,h2⟩
 ·exact .of_left (intBits_le_64 h1 h2)
 ·exact .of_right (intBits_le_64 h1 h2)
theorem Fo:gZ X (Se .Add) (yM λi j=>.int (i+j)):=HE λ_ _ _ _ _ _ _ q=>add_int q
theorem FD:gZ X (Se .Sub) (yM λi j=>.int (i-j)):=HE λ_ _ _ _ _ _ _ q=>sub_int q
theorem yX:gZ X (Se .Mult) (rI EY λi j=>.int (i*j)):=Jd λ_ _ _ _ _ _ _ hc q=>mul_int q hc.ok
theorem GU:gZ X (Se .Mod) (rI (λ_ j=>0<j) λi j=>.int (i%j)):=Jd λi j _ _ _ _ _ hc q=>by
 have h1:(0:Int)<j:=hc;exact mod_int' ‹0› (by rw[Int.fmod_eq_emod_of_nonneg i ‹0›];exact q)
theorem Ge:gZ X (Se .Pow) (rI Ih λi j=>.int (i^j.toNat)):=Jd λ_ _ _ _ _ _ _ hc q=>pow_int_small hc.1 hc.2.1 hc.2.2 q
theorem MC{f:RF->Sem RF}{g:Int->Int}
  (rule:∀(i:Int)(t:Tok)(s:RL)(Q:bX)(E:bX),Q (.int (g i) s.toks) {s with toks:=s.toks+1}->RY (model X.prog X.w) X.A (f (.int i t)) Q E s):
  Kw X f (rU λi=>.int (g i)):=by
 intro pins s σ H x v Q I rx h;obtain⟨i,rfl,q⟩:=h;obtain⟨t,rfl⟩:=rx;exact rule i t s _ _ ⟨.int (g i),H,I.tok _,⟨_,rfl⟩,q⟩
theorem Fg:Kw X (unaryOp .USub) (rU λi=>.int (-i)):=MC λ_ _ _ _ _ q=>neg_int q
end
section
variable{X:Cx}{a b c:RJ}{ta tb tc:TE}{pos:Pos}
theorem zj{pins:bc}{σ:St}{H:Hp}{s:RL}{Q:VK}{k k':Bool}(I:Inv X pins σ H s)(q:Q (.bl k) H)(e:k=k'):EP X pins σ Q (.bool k') s:=by
 subst e;exact⟨.bl k,H,I,rfl,q⟩
theorem Hv:gZ X (R3 .Lt) (yM λi j=>.bl (decide (i<j))):=DH λ_ _ _ _ _ _ _ q=>lt_int q
theorem nN:gZ X (R3 .LtE) (yM λi j=>.bl (decide (i<=j))):=DH λ_ _ _ _ _ _ _ q=>le_int q
theorem D4:gZ X (R3 .Gt) (yM λi j=>.bl (decide (j<i))):=DH λ_ _ _ _ _ _ _ q=>gt_int q
theorem DW:gZ X (R3 .GtE) (yM λi j=>.bl (decide (j<=i))):=DH λ_ _ _ _ _ _ _ q=>ge_int q
theorem xX:gZ X (R3 .Lt) (λx y H Q=>∃i j,x=.str i/\y=.str j/\Q (.bl (decide (i.cps.toList<j.cps.toList))) H):=by
 intro pins s σ H x y v u Q I rx ry h;obtain⟨i,j,rfl,rfl,q⟩:=h;obtain⟨t,rfl⟩:=rx;obtain⟨t',rfl⟩:=ry;exact lt_str (zj I q rfl)
theorem fO(b:RJ){op:R1}(h:op≠.In:=by decide)(h2:op≠.NotIn:=by decide):R4 op b=false:=by
 have e1:(op==CmpOp.In)=false:=by cases op<;>first|rfl|exact absurd rfl h
 have e2:(op==CmpOp.NotIn)=false:=by cases op<;>first|rfl|exact absurd rfl h2
 cases b<;>simp[R4,e1,e2]
theorem Cm{op:R1}{r:R2}(ho:gZ X (R3 op) r)(ha:PE X a ta)(hb:PE X b tb)(hm:R4 op b=false):PE X (.Compare a [op] [b] pos) (HK r ta tb):=by
 intro pins s σ H Q I h;exact wpAny_Compare1 (Fb ha hb I h λv u s2 x y H2 I2 rx ry q=>ho pins s2 σ H2 x y v u Q I2 rx ry q) hm
noncomputable def zE(t:TE):TT:=λσ H Q=>t σ H λx H'=>∃k,x=.bl k/\Q k H'
theorem DQ{op:R1}{r:R2}(ho:gZ X (R3 op) r)(ha:PE X a ta)(hb:PE X b tb)(hm:R4 op b=false):PT X (.Compare a [op] [b] pos) (zE (HK r ta tb)):=by
 intro pins s σ H Q I h;refine wpAny_isTrue_Compare1 (cD (ha pins s σ H _ I h) λv s1 ⟨x,H1,I1,r1,q1⟩=>cD (hb pins s1 σ H1 _ I1 q1) λu s2 ⟨y,H2,I2,r2,q2⟩=>
  cD (ho pins s2 σ H2 x y v u _ I2 r1 r2 q2) λc s3 ⟨z,H3,I3,r3,k,e,q3⟩=>?_) hm
 subst e;cases r3;exact R5 ⟨H3,I3,q3⟩
noncomputable def uY(r r':R2)(ta tb tc:TE):TE:=λσ H Q=>ta σ H λx H1=>tb σ H1 λy H2=>r x y H2 λz H3=>∃k,z=.bl k/\
 (if k=true then tc σ H3 λw' H4=>r' y w' H4 Q else Q (.bl false) H3)
theorem AO{op op':R1}{r r':R2}(ho:gZ X (R3 op) r)(ho':gZ X (R3 op') r')(ha:PE X a ta)(hb:PE X b tb)(hc:PE X c tc)
  (hm:lastMarks [op,op'] [b,c]=false:=by with_unfolding_all rfl):PE X (.Compare a [op,op'] [b,c] pos) (uY r r' ta tb tc):=by
 intro pins s σ H Q I h;refine Compare_chain (cD (ha pins s σ H _ I h) λv s1 ⟨x,H1,I1,r1,q1⟩=>chain_link (cD (hb pins s1 σ H1 _ I1 q1) λu s2 ⟨y,H2,I2,r2,q2⟩=>
  cD (ho pins s2 σ H2 x y v u _ I2 r1 r2 q2) λd s3 ⟨z,H3,I3,r3,k,e,q3⟩=>?_)) hm
 subst e;cases r3;refine R5 ?_;cases k with
 |false=>exact ite_ff ⟨.bl false,H3,I3,rfl,q3⟩
 |true=>exact ite_tt (chain_last (cD (hc pins s3 σ H3 _ I3 q3) λw' s4 ⟨z',H4,I4,r4,q4⟩=>ho' pins s4 σ H4 y z' u w' Q I4 r2 r4 q4))
theorem As{op op':R1}{r r':R2}(ho:gZ X (R3 op) r)(ho':gZ X (R3 op') r')(ha:PE X a ta)(hb:PE X b tb)(hc:PE X c tc)
  (hm:lastMarks [op,op'] [b,c]=false:=by with_unfolding_all rfl):PT X (.Compare a [op,op'] [b,c] pos) (zE (uY r r' ta tb tc)):=by
 intro pins s σ H Q I h;refine isTrue_chain (cD (ha pins s σ H _ I h) λv s1 ⟨x,H1,I1,r1,q1⟩=>test_link (cD (hb pins s1 σ H1 _ I1 q1) λu s2 ⟨y,H2,I2,r2,q2⟩=>
  cD (ho pins s2 σ H2 x y v u _ I2 r1 r2 q2) λd s3 ⟨z,H3,I3,r3,k,e,q3⟩=>?_)) hm
 subst e;cases r3;refine R5 ?_;cases k with
 |false=>
  obtain⟨k',e',q'⟩:=q3;cases e';exact ite_ff ⟨H3,I3,q'⟩
 |true=>
  refine ite_tt (test_last (cD (hc pins s3 σ H3 _ I3 q3) λw' s4 ⟨z',H4,I4,r4,q4⟩=>cD (ho' pins s4 σ H4 y z' u w' _ I4 r2 r4 q4) λd' s5 ⟨z2,H5,I5,r5,k2,e2,q5⟩=>?_));subst e2;cases r5;exact R5 ⟨H5,I5,q5⟩
noncomputable def HP(K:QG)(x:V)(H:Hp)(k:Bool):Prop:=
 match x with
 |.non=>k=false
 |.bl b=>k=b
 |.int i=>k=(i !=0)
 |.str y=>y.length<=RQ/\k=((y.length:Int) !=0)
 |.byt y=>y.size<=RQ/\k=((y.size:Int) !=0)
 |.ref p=>(∃xs,lM K H p xs/\k=!xs.isEmpty)\/(∃xs,nO K H p xs/\k=!xs.isEmpty)\/∃kvs,H p=some (.dK kvs)/\k=!kvs.isEmpty
 |_=>False
theorem ve{κ:Type}{kvs:List (κ×V)}{vs:List (κ×RF)}(r:KV kvs vs):(!vs.isEmpty)=!kvs.isEmpty:=by
 cases r<;>rfl
theorem pw{xs:aE}{its:bb}(r:Vals xs its):(!its.toArray.isEmpty)=!xs.isEmpty:=by
 cases r<;>simp
theorem mE:(RQ:Nat)<2^63:=by rw[Sf];decide
theorem FP:KZ X (λx H Q=>∃k,HP X.K x H k/\Q k H):=by
 intro pins s σ H x v Q I rx h;obtain⟨k,e,q⟩:=h;have hl:=mE;have hs:RQ=16777216:=Sf;cases x with
 |non=>
  cases rx;have e':k=false:=e;subst e';exact truthy_none ⟨H,I,q⟩
 |bl b=>
  cases rx;have e':k=b:=e;subst e';exact R5 ⟨H,I,q⟩
 |int i=>
  obtain⟨t,rfl⟩:=rx;have e':k=(i !=0):=e;subst e';exact PySem.P.truthy_int ⟨H,I,q⟩
 |str y=>
  obtain⟨t,rfl⟩:=rx;obtain⟨hy,e'⟩:y.length<=RQ/\k=((y.length:Int) !=0):=e;subst e';exact PySem.P.truthy_str ‹0› ⟨H,I.tok _,q⟩
 |byt y=>
  obtain⟨t,rfl⟩:=rx;obtain⟨hy,e'⟩:y.size<=RQ/\k=((y.size:Int) !=0):=e;subst e';exact PySem.W.truthy_bytes ‹0› ⟨H,I.tok _,q⟩
 |ref p=>
  cases rx;have e':(∃xs,lM X.K H p xs/\k=!xs.isEmpty)\/(∃xs,nO X.K H p xs/\k=!xs.isEmpty)\/∃kvs,H p=some (.dK kvs)/\k=!kvs.isEmpty:=e;rcases e' with⟨xs,hx,e'⟩|⟨xs,hx,e'⟩|⟨kvs,hx,e'⟩
  ·subst e';obtain⟨its,r,pl,hz⟩:=I.list hx;have hlen:=r.length;exact wpAny_truthy_list pl.isList (by simp only[OB];omega) ⟨H,I.tok _,by rw[pw r];exact q⟩
  ·subst e';obtain⟨its,r,pl,hz⟩:=I.tuple hx;have hlen:=r.length;exact truthy_tuple pl (by simp only[OB];omega) ⟨H,I.tok _,by rw[pw r];exact q⟩
  ·subst e';obtain⟨hz,hS,vs,r,m⟩:kvs.length<=RQ/\(p==sysModules)=false/\∃vs,KV kvs vs/\s.heap.DictOf (dq X.prog X.w) p vs:=I.hok p _ hx;have hlen:kvs.length=vs.length:=Paired.length r;exact wpAny_truthy_dict hS m ‹0› ⟨H,I.tok _,by rw[ve r];exact q⟩
 |_=>exact(show False from e).elim
theorem yE(ha:PE X a ta)(he:∀whole,isTrue a X.env whole=(do let v<-whole;standAt a.pos;holding [v] (truthy v))):
  PT X a (λσ H Q=>ta σ H λx H'=>∃k,HP X.K x H' k/\Q k H'):=by
 intro pins s σ H Q I h;exact isTrue_plain (cD (ha pins s σ H _ I h) λv s1 ⟨x,H1,I1,r1,q1⟩=>FP pins s1 σ H1 x v Q I1 r1 q1) (he _)
theorem uq:gZ X (Se .Add) (λx y H Q=>∃i j,x=.str i/\y=.str j/\i.length+j.length<=RQ/\Q (.str (i++j)) H):=by
 intro pins s σ H x y v u Q I rx ry h;obtain⟨i,j,rfl,rfl,hz,q⟩:=h;obtain⟨t,rfl⟩:=rx;obtain⟨t',rfl⟩:=ry;exact add_str (λt' tk=>⟨.str (i++j),H,I.tok _,⟨_,rfl⟩,q⟩) hz
theorem vals1{x:V}{us:bb}(r:Vals [x] us):∃u,us=[u]/\RelV x u:=by
 cases r with
 |cons r1 r2=>cases r2;exact⟨_,rfl,r1⟩
theorem vals2{x y:V}{us:bb}(r:Vals [x,y] us):∃u w',us=[u,w']/\RelV x u/\RelV y w':=by
 cases r with
 |cons r1 r2=>
  cases r2 with
  |cons r3 r4=>cases r4;exact⟨_,_,rfl,r1,r3⟩
theorem wB(hc:X.calm=true):eJ X (.builtin "max") (λxs H Q=>∃i j,xs=[.int i,.int j]/\Q (.int (if j>i then j else i)) H):=by
 intro pins s σ H xs us Q I r h;obtain⟨i,j,rfl,q⟩:=h;obtain⟨u,w',rfl,⟨t,rfl⟩,⟨t',rfl⟩⟩:=vals2 r;refine max_two_ints (I.ok.hd hc) λh' tk k=>⟨_,H,I.kept k,?_,q⟩
 by_cases hj:j>i
 ·rw[if_pos hj,if_pos hj];exact⟨_,rfl⟩
 ·rw[if_neg hj,if_neg hj];exact⟨_,rfl⟩
theorem wl(hc:X.calm=true):eJ X (.builtin "min") (λxs H Q=>∃i j,xs=[.int i,.int j]/\Q (.int (if j<i then j else i)) H):=by
 intro pins s σ H xs us Q I r h;obtain⟨i,j,rfl,q⟩:=h;obtain⟨u,w',rfl,⟨t,rfl⟩,⟨t',rfl⟩⟩:=vals2 r;refine min_two_ints (I.ok.hd hc) λh' tk k=>⟨_,H,I.kept k,?_,q⟩
 by_cases hj:j<i
 ·rw[if_pos hj,if_pos hj];exact⟨_,rfl⟩
 ·rw[if_neg hj,if_neg hj];exact⟨_,rfl⟩
theorem rY:eJ X (.type "str") (λxs H Q=>∃i,xs=[.int i]/\i.natAbs.log2<1920/\Q (.str (toString i)) H):=by
 intro pins s σ H xs us Q I r h;obtain⟨i,rfl,hz,q⟩:=h;obtain⟨u,rfl,t,rfl⟩:=vals1 r;exact PySem.P.str_of_int hz ⟨.str _,H,I.tok _,⟨_,rfl⟩,q⟩
end
structure xS(h:RP)(x dx C:RH)(mA:cS):Prop where
 obj:h.get? x=some (QE C dx)
 ns:h.Ns1 dx mA
 ne:dx≠x
theorem wK{h:RP}{dx:RH}{mA:cS}(n:h.Ns1 dx mA):∃od,h.get? dx=some od/\∀name,QH name od=some (mA name):=by
 obtain⟨o,es,ep,ho,hd,hk,_,hm⟩:=n;refine⟨o,ho,λname=>?_⟩;have e:=hm name;unfold nsFind findBy at e;rw[<-Array.find?_toList]at e;unfold QH;rw[hd];dsimp only;split
 ·rename_i y q;rw[q]at e;exact congrArg some e
 ·rename_i q;rw[q]at e;have a:es.toList.any (·.refKey)=false:=by
   rw[OC];intro y hy;obtain⟨z,t,hkey⟩:=hk y (Array.mem_toList_iff.mp hy);simp[DictEntry.refKey,hkey]
  have a':¬es.toList.any (·.refKey)=true:=by rw[a];exact OD
  rw[if_neg a'];exact congrArg some e
theorem xS.look{h:RP}{x dx C:RH}{mA:cS}(I:xS h x dx C mA):∃od,PySem.W.InstAt h x (QE C dx) C (some od)/\∀name,QH name od=some (mA name):=
 let ⟨od,ho,hl⟩:=wK I.ns
 ⟨od,⟨I.obj,rfl,rfl,ho⟩,hl⟩
section
variable{prog:RN}{w:RM}{A:RV}{E:bX}{s:RL}{K:QG}{x dx C f:RH}{mA:cS}{name:Str}{v:RF}
theorem Dr{expr:Bool}{Q:bX}(X:K.In s.heap)(I:xS s.heap x dx C mA)(hg:QI K C name=true)(hh:QJ K C=true)
  (ha:QK K (.ref C) name=some none) (hv:mA name=some v) (hv':QL v=true) (h:Q v {s with toks:=s.toks+1}):
  RY (model prog w) A (getAttr (.ref x) name expr) Q E s:=by
 obtain⟨od,J,hl⟩:=I.look;exact PySem.W.get_value X J (QM hg).1 (PySem.W.findObj_own hh ha rfl (by rw[hl,hv])) hv' h
theorem zO{pl:Sem Bool}{Q:RF×List RF->jE}(X:K.In s.heap)(I:xS s.heap x dx C mA)(hg:QI K C name=true)
  (hf:QK K (.ref C) name=some (some (.ref f))) (ht:QN K (.ref f)=true) (hv:mA name=none) (h:Q (.ref f,[.ref x]) s):
  RY (model prog w) A (getMethod (.ref x) name pl) Q E s:=by
 obtain⟨od,J,hl⟩:=I.look;exact PySem.W.method_fn X J (QM hg).1 (QM hg).2 hf (beq_iff_eq.mp ht) (by show(QH name od).map (·.isSome)=some false;rw[hl,hv];rfl) h
theorem Cq{ns:av}{Q:Unit->jE}(X:K.In s.heap)(I:xS s.heap x dx C mA)
  (hs:QK K (.ref C) "__setattr__"=some (some (.builtin "object.__setattr__"))) (hp:QO K C=true) (ht:QP K C name=some none) (hh:QJ K C=true)
  (hw:PySem.Within mA ns) (hsz:ns.length<=RQ)
  (h:∀h',xS h' x dx C (λy=>if y=name then some v else mA y)->Rn dx s.heap h'->Q () {s with heap:=h',toks:=s.toks+2}):
  RY (model prog w) A (setAttr (.ref x) name v) Q E s:=by
 obtain⟨od,J,hl⟩:=I.look;refine PySem.W.set_plain X J hs (PySem.W.osa_open (s:={s with toks:=s.toks+1}) (r:=none) X J hp ht λb=>?_);obtain⟨cd,hc,hd'⟩:=QQ hh;have hx:s.heap.get? x=some ⟨.ref C,some dx,.plain,#[]⟩:=I.obj;refine R8 (R7 (R8 (R8 (wpAny_loadPart hx (R8 (PySem.W.Looks.here (s:={s with toks:=s.toks+1}) (PySem.W.looks_clsIn X hc) ?_))))));rw[hd'];refine R7 (a:=some dx) (R8 (R7 (R8 ?_)));refine wpAny_nsSet1 (s:={s with toks:=s.toks+1}) I.ns λh' hn2 hs2=>?_;obtain⟨oD,esD,epD,hoD,hdD,hcD⟩:=hn2.count (PySem.Within.cons name v hw);refine R8 (wpAny_lookBehind hoD (by rw[hdD];exact pastItsLine_dict (Om hcD (by rw[OG];omega))) ?_);exact R7 (h _ ⟨(hs2.2 _ (Ne.symm I.ne)).trans I.obj,hn2,I.ne⟩ hs2)
theorem yD{R:Result->jE}{vs:bb}{kw:List (Str×RF)}(X:K.In s.heap)(hm:QR K C=true)
  (hi:QK K (.ref C) "__init__"=some (some (.ref f))) (hf:QS K (.ref f)=some (.type "function"))
  (h:Sg (model prog w) (A.under (.builtin "type.__call__" ⟨.ref C::vs,kw⟩)) (.call (.ref f) ⟨.ref (s.heap.objs.size+1)::vs,kw⟩) (PySem.W.InitBack (s.heap.objs.size+1) R)
   {s with heap:=(s.heap.push QT).push (QE C s.heap.objs.size)}):
  Sg (model prog w) A (.call (.ref C) ⟨vs,kw⟩) R s:=by
 obtain⟨hh,g,d,t,os⟩:=s;exact PySem.W.make_core (PySem.W.makes_of X hm) (PySem.W.looks_findIn X hi) (λself=>PySem.W.bind_fn X self hf) (.inl rfl) h
end
noncomputable def je(f:Str)(v:V):List (Str×V)->List (Str×V)
 |[]=>[(f,v)]
 |(g,x)::r=>if g=f then(g,v)::r else(g,x)::je f v r
theorem nS(f g:Str)(v:V):∀fs:List (Str×V),(je f v fs).lookup g=if g=f then some v else fs.lookup g
 |[]=>by
  show List.lookup g [(f,v)]=_;by_cases h:g=f
  ·have hb:(g==f)=true:=beq_iff_eq.mpr h;simp only[List.lookup,hb,if_pos h]
  ·have hb:(g==f)=false:=beq_eq_false_iff_ne.mpr h;simp only[List.lookup,hb,if_neg h]
 |(k,x)::r=>by
  have ih:=nS f g v r;rw[show je f v ((k,x)::r)=(if k=f then(k,v)::r else(k,x)::je f v r)from rfl];by_cases hk:k=f
  ·rw[if_pos hk];by_cases h:g=k
   ·have hb:(g==k)=true:=beq_iff_eq.mpr h;simp only[List.lookup,hb,if_pos (h.trans hk)]
   ·have hb:(g==k)=false:=beq_eq_false_iff_ne.mpr h;simp only[List.lookup,hb,if_neg (λe:g=f=>h (e.trans hk.symm))]
  ·rw[if_neg hk];by_cases h:g=k
   ·have hb:(g==k)=true:=beq_iff_eq.mpr h;simp only[List.lookup,hb,if_neg (λe:g=f=>hk (h.symm.trans e))]
   ·have hb:(g==k)=false:=beq_eq_false_iff_ne.mpr h;simp only[List.lookup,hb];exact ih
theorem my(f:Str)(v:V):∀fs:List (Str×V),f∈(je f v fs).map (·.1)/\∀g,g∈fs.map (·.1)->g∈(je f v fs).map (·.1)
 |[]=>⟨by simp[je],λg h=>by simp at h⟩
 |(k,x)::r=>by
  obtain⟨i1,i2⟩:=my f v r;rw[show je f v ((k,x)::r)=(if k=f then(k,v)::r else(k,x)::je f v r)from rfl];by_cases hk:k=f
  ·rw[if_pos hk];subst hk;exact⟨by simp,λg h=>by simpa using h⟩
  ·rw[if_neg hk];refine⟨?_,λg h=>?_⟩
   ·rw[OH];exact Ou _ i1
   ·rw[OH]at h ⊢;rcases List.mem_cons.mp h with e|e
    ·exact List.mem_cons.mpr (.inl e)
    ·exact Ou _ (i2 g e)
theorem nF(f:Str)(v:V):∀fs:List (Str×V),(je f v fs).length<=fs.length+1
 |[]=>by simp[je]
 |(k,x)::r=>by
  have ih:=nF f v r;rw[show je f v ((k,x)::r)=(if k=f then(k,v)::r else(k,x)::je f v r)from rfl];by_cases hk:k=f
  ·rw[if_pos hk,OG,OG];omega
  ·rw[if_neg hk,OG,OG];omega
theorem rC.some_of{v:V}{o:Option RF}(r:rC (some v) o):∃u,o=some u/\RelV v u:=by
 cases o with
 |none=>exact(show False from r).elim
 |some u=>exact⟨u,rfl,r⟩
theorem rC.none_of{o:Option RF}(r:rC none o):o=none:=by
 cases o with
 |none=>rfl
 |some u=>exact(show False from r).elim
theorem xG{v:V}{u:RF}(r:RelV v u):QL u=true:=by
 cases v with
 |non=>cases(show u=Value.none from r);rfl
 |bl b=>cases(show u=Value.bool b from r);rfl
 |int i=>obtain⟨t,e⟩:=(show∃t,u=Value.int i t from r);cases e;rfl
 |str x=>obtain⟨t,e⟩:=(show∃t,u=Value.str x t from r);cases e;rfl
 |byt b=>obtain⟨t,e⟩:=(show∃t,u=Value.bytes b t from r);cases e;rfl
 |flt b=>obtain⟨t,e⟩:=(show∃t,u=Value.float b t from r);cases e;rfl
 |ref a=>cases(show u=Value.ref a from r);rfl
 |ty n=>cases(show u=Value.type n from r);rfl
section
variable{P:RN}{w:RM}{H H':Hp}{h h':RP}{a C dx:RH}{fs fs':List (Str×V)}
theorem oa(hok:nA P w H h)(e:H a=some (.ins C dx fs)):∃mA,xS h a dx C mA/\(∀f,rC (fs.lookup f) (mA f))/\PySem.Within mA (fs.map (·.1))/\fs.length<=1000/\H dx=some (.own a):=by
 obtain⟨d,z,ne,ob,mA,n,r,q⟩:=(show dr P w H h a (.ins C dx fs)from hok a _ e)
 exact⟨mA,⟨ob,n,ne⟩,r,q,z,d⟩
end
structure jv(K:QG)(C:RH):Prop where
 pg:QI K C Str.empty=true
 hd:QJ K C=true
 po:QO K C=true
 sa:QK K (.ref C) "__setattr__"=some (some (.builtin "object.__setattr__"))
theorem jv.get{K:QG}{C:RH}(c:jv K C)(f:Str):QI K C f=true:=c.pg
noncomputable def dB(K:QG)(C:RH)(f:Str):Prop:=QK K (.ref C) f=some none
theorem dB.taker{K:QG}{C:RH}{f:Str}(n:dB K C f):QP K C f=some none:=by
 unfold QP;rw[show QK K (.ref C) f=some none from n];rfl
structure Meth(K:QG)(C:RH)(m:Str)(f:RH):Prop where
 at_:QK K (.ref C) m=some (some (.ref f))
 fn:QN K (.ref f)=true
 kp:QU K (.ref f)=true
section
variable{X:Cx}{pins:bc}{σ:St}{H:Hp}{s:RL}{a C dx:RH}{fs:List (Str×V)}{f:Str}{v:V}{A:RV}{E:bX}
theorem uM{b:Bool}{Q:bX}(I:Inv X pins σ H s)(e:H a=some (.ins C dx fs))(c:jv X.K C)(n:dB X.K C f)(l:fs.lookup f=some v)
  (h:∀u s',Inv X pins σ H s'->RelV v u->Q u s'):RY (model X.prog X.w) A (getAttr (.ref a) f b) Q E s:=by
 obtain⟨mA,O,r,_,_,_⟩:=oa I.hok e;obtain⟨u,hu,ru⟩:=rC.some_of (v:=v) (o:=mA f) (by rw[<-l];exact r f);exact Dr I.kIn O (c.get f) c.hd n hu (xG ru) (h u _ (I.tok _) ru)
theorem uG{m:Str}{g:RH}{pl:Sem Bool}{Q:RF×List RF->jE}(I:Inv X pins σ H s)(e:H a=some (.ins C dx fs))(c:jv X.K C)(k:Meth X.K C m g)(l:fs.lookup m=none)
  (h:Q (.ref g,[.ref a]) s):RY (model X.prog X.w) A (getMethod (.ref a) m pl) Q E s:=by
 obtain⟨mA,O,r,_,_,_⟩:=oa I.hok e;have hn:mA m=none:=rC.none_of (by rw[<-l];exact r m);exact zO I.kIn O (c.get m) k.at_ k.fn hn h
theorem uZ{y:V}{u:RF}{Q:Unit->jE}(I:Inv X pins σ H s)(e:H a=some (.ins C dx fs))(c:jv X.K C)(n:dB X.K C f)(hl:fs.length<1000)(ry:RelV y u)
  (h:∀s',Inv X pins σ (upd H a (.ins C dx (je f y fs))) s'->Q () s'):RY (model X.prog X.w) A (setAttr (.ref a) f u) Q E s:=by
 obtain⟨mA,O,r,wi,_,ho⟩:=oa I.hok e;have hz:(fs.map (·.1)).length<=RQ:=by rw[OI,Sf];omega
 refine Cq I.kIn O c.sa c.po n.taker c.hd wi hz λh' O' sb=>h _ ?_;have hd:∃o,h'.get? dx=some o:=let ⟨o,_,_,e',_⟩:=O'.ns;⟨o,e'⟩
 refine I.write (x:=a) (e:=dx) (by rw[e];exact True.intro) (.inr ho) (λb q hb z=>(sb.2 b hb).trans z) hd ?_;refine⟨by rw[aK O.ne];exact ho,?_,O.ne,O'.obj,_,O'.ns,λg=>?_,λg hg=>?_⟩
 ·have:=nF f y fs;omega
 ·show rC ((je f y fs).lookup g) (if g=f then some u else mA g);rw[nS];by_cases q:g=f
  ·rw[if_pos q,if_pos q];exact ry
  ·rw[if_neg q,if_neg q];exact r g
 ·by_cases q:g=f
  ·rw[q];exact(my f y fs).1
  ·refine(my f y fs).2 g (wi g λz=>hg ?_);show(if g=f then some u else mA g)=none;rw[if_neg q];exact z
theorem Inv.made(I:Inv X pins σ H s):Inv X pins σ (upd (upd H s.heap.objs.size (.own (s.heap.objs.size+1))) (s.heap.objs.size+1) (.ins C s.heap.objs.size []))
  {s with heap:=(s.heap.push QT).push (QE C s.heap.objs.size)}:=by
 have e1:(s.heap.push QT).get? s.heap.objs.size=some QT:=Rp s.heap rfl;have e2:((s.heap.push QT).push (QE C s.heap.objs.size)).get? (s.heap.objs.size+1)=some (QE C s.heap.objs.size):=by
  have:=Rp (s.heap.push QT) (o:=QE C s.heap.objs.size) rfl
  rwa [Rq]at this
 have e3:(s.heap.push QT).Ns s.heap.objs.size (λ_=>none):=⟨QT,#[],_,e1,rfl,(λe he=>absurd he (by simp)),λ_=>rfl⟩
 have I1:=I.laid (a:=s.heap.objs.size) (o:=.own (s.heap.objs.size+1)) (h':=s.heap.push QT) (t':=s.toks) (λb u q=>Ro _ q) (Oz _) ⟨_,e1⟩;refine I1.laid (a:=s.heap.objs.size+1) (o:=.ins C s.heap.objs.size []) (t':=s.toks) (λb u q=>Ro _ q) (OJ (Rq _ _)) ?_;have ne:s.heap.objs.size≠s.heap.objs.size+1:=Ol (Nat.lt_succ_self _);refine⟨by rw[aK ne,bi],OL _,ne,e2,λ_=>none,(Heap.Ns1.of_empty e3).at λo q=>Ro _ q,λ_=>True.intro,λy hy=>absurd rfl hy⟩
theorem BX{prog:RN}{w:RM}{env:Env}{e:RJ}{f:Str}{pos:Pos}{s:RL}{Q:bX}(hb:Sh e f env (eval e env)=eval e env)
  (h:RY (model prog w) A (eval e env) (λo s₁=>RY (model prog w) A (getAttr o f true) Q E s₁) E s):RY (model prog w) A (eval (.Attribute e f pos) env) Q E s:=
 Attribute_any_ h (by rw[arm_eval_Attribute,hb])
end
noncomputable def K9(K:QG)(ta:TE)(f:Str):TE:=λσ H Q=>ta σ H λx H1=>∃a C dx fs v,x=.ref a/\H1 a=some (.ins C dx fs)/\jv K C/\dB K C f/\fs.lookup f=some v/\Q v H1
noncomputable def LW(K:QG)(ta tv:TE)(f:Str):TS:=λD σ H=>tv σ H λy H1=>ta σ H1 λx H2=>∃a C dx fs,x=.ref a/\H2 a=some (.ins C dx fs)/\jv K C/\dB K C f/\fs.length<1000/\
 D.nx σ (upd H2 a (.ins C dx (je f y fs)))
section
variable{X:Cx}{o e value:RJ}{f:Str}{pos pos' tpos:Pos}{ta tv:TE}
theorem Fy(he:PE X e ta)(hb:Sh e f X.env (eval e X.env)=eval e X.env):PE X (.Attribute e f pos) (K9 X.K ta f):=by
 intro pins s σ H Q I h;refine BX hb (cD (he pins s σ H _ I h) λu s1 ⟨x,H1,I1,rx,a,C,dx,fs,v,ex,ea,c,n,l,q⟩=>?_);subst ex;obtain rfl:u=Value.ref a:=rx;exact uM I1 ea c n l λu' s2 I2 ru=>⟨v,H1,I2,ru,q⟩
theorem AQ(ha:PE X o ta)(hv:PE X value tv)(hs:swapsWith value (some (.Attribute o f pos')) pos.line X.env=pure false):PS X (.Assign [.Attribute o f pos'] value pos) (LW X.K ta tv f):=by
 intro pins s σ H D I h;refine plainObj_wpAny_Assign_Attribute (cD (hv pins s σ H _ I h) λu s1 ⟨y,H1,I1,ry,q⟩=>cD (ha pins s1 σ H1 _ I1 q) λov s2 h2=>?_) hs;obtain⟨x,H2,I2,rx,a,C,dx,fs,ex,ea,c,n,l,q2⟩:=h2;subst ex;obtain rfl:ov=Value.ref a:=rx;exact uZ I2 ea c n l ry λs3 I3=>⟨σ,_,I3,q2⟩
theorem tS{pl:Sem Bool}{m:Str}{apos:Pos}{args:aZ}{pins:bc}{s:RL}{σ:St}{H:Hp}{Q:bX}{te:TE}(he:PE X e te)(I:Inv X pins σ H s)
  (h:te σ H fun x H1=>∃ a C dx fs g,x=.ref a/\H1 a=some (.ins C dx fs)/\jv X.K C/\Meth X.K C m g/\fs.lookup m=none /\
   ∀s1,Inv X pins σ H1 s1->RY (model X.prog X.w) X.A (Si pos (.ref g) [.ref a] (backTo pos (RZ args X.env)) (backToKw pos (Sj [] X.env))) Q X.xe s1)
  (ht:eval (.Call (.Attribute e m apos) args [] pos) X.env=(do
   let ov<-eval e X.env
   standAt apos.atName
   let (f,first)<-holding [ov] (getMethod ov m pl)
   Si pos f first (backTo pos (RZ args X.env)) (backToKw pos (Sj [] X.env)))):
  RY (model X.prog X.w) X.A (eval (.Call (.Attribute e m apos) args [] pos) X.env) Q X.xe s:=by
 refine PySem.W.methodCall_KW (pl:=pl) (cD (he pins s σ H _ I h) λu s1 ⟨x,H1,I1,rx,a,C,dx,fs,g,ex,ea,c,k,l,q⟩=>?_) ht;subst ex;obtain rfl:u=Value.ref a:=rx;exact uG I1 ea c k l (q s1 I1)
end
structure fM(k:Nat)(A:RV):Prop where
 hd:A.handled=none
 dp:A.depth+3*k+5<recursionLimit
 un:A.units+16*k+200<Sl
theorem fM.mono{j k:Nat}{A:RV}(r:fM k A)(h:j<=k):fM j A:=⟨r.hd,by have:=r.dp;omega,by have:=r.un;omega⟩
theorem fM.deeper{k:Nat}{A:RV}(r:fM (k+1) A)(env:Env):fM k (A.deeper env):=
 ⟨r.hd,by have:=r.dp;show A.depth+1+3*k+5<_;omega,by have:=r.un;show A.units+3+16*k+200<_;omega⟩
theorem uw{A:RV}{C:RH}{us:bb}{kw:List (Str×RF)}:(A.under (.builtin "type.__call__" ⟨.ref C::us,kw⟩)).depth=A.depth+1:=by
 first|rfl|simp[Around.under,Code.weight,Code.isCreation,Code.isGuard,Code.isCaller,Code.frames,Code.isFrame,guardIds]
theorem uK{A:RV}{C:RH}{us:bb}{kw:List (Str×RF)}:(A.under (.builtin "type.__call__" ⟨.ref C::us,kw⟩)).units=A.units+1:=by
 first|rfl|simp[Around.under,Code.cUnits,Code.frames,Code.isFrame]
theorem fM.make{k:Nat}{A:RV}(r:fM (k+1) A)(C:RH)(us:bb)(kw:List (Str×RF)):fM k (A.under (.builtin "type.__call__" ⟨.ref C::us,kw⟩)):=
 ⟨r.hd,by have:=r.dp;rw[uw];omega,by have:=r.un;rw[uK];omega⟩
theorem fM.depth{k:Nat}{A:RV}(r:fM k A):A.depth<recursionLimit:=by have:=r.dp;omega
theorem fM.units{k:Nat}{A:RV}(r:fM k A):A.units+64<Sl:=by have:=r.un;omega
noncomputable def HU:TA:=λ_ H Q=>Q [] H
noncomputable def Ei(ta:TE)(tr:TA):TA:=λσ H Q=>ta σ H λx H1=>tr σ H1 λxs H2=>Q (x::xs) H2
section
variable{X:Cx}{e:RJ}{es:aZ}{te:TE}{t:TA}{pos:Pos}
theorem rG:PA X [] HU:=λ_ _ _ _ H Q I h=>Calls.spliced_nil ⟨[],H,I,.nil,h⟩
theorem jW(ha:PE X e te)(hr:PA X es t)(hs:RZ (e::es) X.env=(false,eval e X.env)::RZ es X.env:=by rfl):PA X (e::es) (Ei te t):=by
 intro pos pins s σ H Q I h;rw[hs];show RY _ _ (spliced ((false,eval e X.env)::backTo pos (RZ es X.env))) _ _ s;refine Calls.spliced_cons (cD (ha pins s σ H _ I h) λu s1 ⟨x,H1,I1,r1,q1⟩=>?_);exact cD (hr pos pins s1 σ H1 _ I1 q1) λus s2 ⟨xs,H2,I2,r2,q2⟩=>⟨x::xs,H2,I2,.cons r1 r2,q2⟩
noncomputable def L9(t:TA):TE:=λσ H Q=>t σ H λxs H1=>xs.length<=RQ/\∀p,H1 p=none->Q (.ref p) (upd H1 p (.tup xs))
noncomputable def LU(t:TA):TE:=λσ H Q=>t σ H λxs H1=>xs.length<=RQ/\∀p,H1 p=none->Q (.ref p) (upd H1 p (.lst xs))
theorem GR{x1}(h:PA X es t):PE X (.Tuple es x1 pos) (L9 t):=by
 intro pins s σ H Q I hq;refine wpAny_Tuple_spliced (cD (h pos pins s σ H _ I hq) λus s1 ⟨xs,H1,I1,r,z,q⟩=>⟨by rw[<-r.length];exact z,?_⟩);have hf:H1 s1.heap.objs.size=none:=I1.hok.fresh (Oz _);refine⟨.ref s1.heap.objs.size,upd H1 s1.heap.objs.size (.tup xs),I1.laid (t':=s1.toks) (λb u e=>Ro _ e) (Oz _) ?_,rfl,q _ hf⟩;exact⟨z,us,r,⟨_,Rp _ rfl,rfl,_,rfl⟩⟩
theorem zo(h:PA X es t):PE X (.List es pos) (LU t):=by
 intro pins s σ H Q I hq;refine wpAny_List_spliced (cD (h pos pins s σ H _ I hq) λus s1 ⟨xs,H1,I1,r,z,q⟩=>⟨by rw[<-r.length];exact z,?_⟩);have hf:H1 s1.heap.objs.size=none:=I1.hok.fresh (Oz _);refine⟨.ref s1.heap.objs.size,upd H1 s1.heap.objs.size (.lst xs),I1.laid (t':=s1.toks) (λb u e=>Ro _ e) (Oz _) ?_,rfl,q _ hf⟩;exact⟨z,us,0,r,Rp _ rfl⟩
end
noncomputable abbrev Sp:=List V->Hp->VK->XK->Prop
noncomputable abbrev uj:=List Env->Hp->RL->XK->bX
structure wj(P:RN)(w:RM)(K:QG)(mg:cS)(base:RP)(A:RV)(outer:List Env)(s:RL)(H:Hp):Prop where
 frames:A.frames=some outer
 mod:Mod K mg base
 bs:∀b o,base.get? b=some o->s.heap.get? b=some o/\H b=none
 bsz:base.objs.size<=s.heap.objs.size
 funs:s.heap.FunFrames base outer
 frf:∀b∈frs outer,H b=none
 hok:nA P w H s.heap
 bare:AllBare s.gens
noncomputable def CE(outer:List Env)(P:RN)(w:RM)(H:Hp)(s:RL)(Q:VK)(u:RF)(s':RL):Prop:=
 ∃v H',s'.os=s.os/\AllBare s'.gens/\Un (frs outer) [] H H' s.heap s'.heap/\nA P w H' s'.heap/\RelV v u/\Q v H'
noncomputable def CR(CX:uj)(outer:List Env)(P:RN)(w:RM)(H:Hp)(s:RL)(Q:VK)(E:XK)(r:Result)(s':RL):Prop:=
 match r with
 |.ok (.ret u)=>CE outer P w H s Q u s'
 |.ok _=>False
 |.error e=>CX outer H s E e s'
structure gz(P:RN)(w:RM)(K:QG)(mg:cS)(base:RP)(CX:uj)(k:Nat)(f:RH)(fd:Sn)(ps:av)(sp:Sp):Prop where
 len:∀vs H Q E,sp vs H Q E->vs.length=ps.length
 run:∀(A:RV)(outer:List Env)(s:RL)(H:Hp)(args:Args)(us:bb)(vs:aE)(Q:VK)(E:XK),fM k A->wj P w K mg base A outer s H->Sq s fd args (ps.zip us)->Vals vs us->sp vs H Q E->
  Sg (model P w) A (.call (.ref f) args) (CR CX outer P w H s Q E) s
theorem gz.mono{P:RN}{w:RM}{K:QG}{mg:cS}{base:RP}{CX:uj}{j k:Nat}{f:RH}{fd:Sn}{ps:av}{sp:Sp}(F:gz P w K mg base CX j f fd ps sp)(h:j<=k):
  gz P w K mg base CX k f fd ps sp:=⟨F.len,λA outer s H args us vs Q E hr=>F.run A outer s H args us vs Q E (hr.mono h)⟩
theorem wj.make{P:RN}{w:RM}{K:QG}{mg:cS}{base:RP}{A:RV}{outer:List Env}{s:RL}{H:Hp}(e:wj P w K mg base A outer s H)(C:RH)(us:bb)(kw:List (Str×RF)):
  wj P w K mg base (A.under (.builtin "type.__call__" ⟨.ref C::us,kw⟩)) outer s H:=⟨by first|exact e.frames|(simpa [Around.under,Code.envs,Code.isFrame,pushEnvs]using e.frames),e.mod,e.bs,e.bsz,e.funs,e.frf,e.hok,e.bare⟩
section
variable{X:Cx}{pins:bc}{σ:St}{H:Hp}{s s':RL}
theorem Inv.env0(I:Inv X pins σ H s):wj X.prog X.w X.K X.mg X.base X.A X.stack s H:=
 ⟨I.ok.frames,I.ok.mod,I.bs,Om I.ok.bsz I.sz,I.stack,I.stkFree,I.hok,I.bare⟩
theorem Inv.after{Q:VK}{u:RF}(I:Inv X pins σ H s)(h:CE X.stack X.prog X.w H s Q u s'):EP X pins σ Q u s':=by
 obtain⟨v,H',os,bare,un,hok,r,q⟩:=h;obtain⟨hh,g,d,t,os'⟩:=s';obtain rfl:os'=s.os:=os;exact⟨v,H',I.call (h':=hh) (g':=g) (d':=d) (t':=t) (ch:=[]) un hok bare (λb z=>absurd z (by simp)),r,q⟩
end
noncomputable def Ia(C:RH)(sp:Sp)(dvs:aE)(E:XK)(t:TA):TE:=λσ H Q=>t σ H λvs H1=>∀x dx,H1 x=none->H1 dx=none->dx≠x->
 sp (.ref x::(vs++dvs)) (upd (upd H1 dx (.own x)) x (.ins C dx [])) (λv H2=>v=.non/\Q (.ref x) H2) E
noncomputable def Binds(K:QG)(fd:Sn)(ps:av)(ds:bb):Prop:=
 ∀(s:RL)(us:bb),K.In s.heap->(us++ds).length=ps.length->Sq s fd ⟨us,[]⟩ (ps.zip (us++ds))
theorem Binds.all{K:QG}{fd:Sn}{ps:av}(h:∀us:bb,us.length=ps.length->bindArgs fd ⟨us,[]⟩=pure (ps.zip us)):Binds K fd ps []:=λs us _ hl=>by
 rw[OM]at hl ⊢;exact .of_eq (h us hl)
noncomputable def uL(CX:uj)(X:Cx)(E:XK):Prop:=∀(pins:bc)(σ:St)(H:Hp)(s:RL)(e:RF)(s':RL),Inv X pins σ H s->CX X.stack H s E e s'->X.xe e s'
section
variable{X:Cx}{CX:uj}{k:Nat}{f C:RH}{fd:Sn}{ps:av}{sp:Sp}{dvs:aE}{ds:bb}{E:XK}{x m:Str}{p pos apos:Pos}{e o:RJ}{es:aZ}{ta:TE}{t:TA}
structure Mk(K:QG)(C f:RH):Prop where
 makes:QR K C=true
 init:QK K (.ref C) "__init__"=some (some (.ref f))
 fn:QN K (.ref f)=true
 kp:QU K (.ref C)=true
theorem Ak{pins:bc}{σ:St}{H:Hp}{s:RL}{Q:VK}{us:bb}{vs:aE}(M:Mk X.K C f)(F:gz X.prog X.w X.K X.mg X.base CX k f fd ps sp)(hr:fM (k+1) X.A)(hb:Binds X.K fd ps ds)(hd:Vals dvs ds)
  (hx:uL CX X E) (I:Inv X pins σ H s) (r:Vals vs us)
  (h:∀x dx,H x=none->H dx=none->dx≠x->sp (.ref x::(vs++dvs)) (upd (upd H dx (.own x)) x (.ins C dx [])) (λv H2=>v=.non/\Q (.ref x) H2) E):
  RY (model X.prog X.w) X.A (call (.ref C) us) (EP X pins σ Q) X.xe s:=by
 have hq:=h (s.heap.objs.size+1) s.heap.objs.size (I.hok.fresh (Nat.le_succ _)) (I.hok.fresh (Oz _)) (Ol (Nat.lt_succ_self _));have I2:=Inv.made (C:=C) I;have r2:Vals (V.ref (s.heap.objs.size+1)::(vs++dvs)) (Value.ref (s.heap.objs.size+1)::(us++ds)):=.cons rfl (r.append hd);have hl:(Value.ref (s.heap.objs.size+1)::us++ds).length=ps.length:=by
  have e:=r2.length;rw[F.len _ _ _ _ hq]at e;exact e.symm
 refine Sr (yD (f:=f) I.kIn M.makes M.init (beq_iff_eq.mp M.fn) (Ss (F.run _ X.stack _ _ ⟨Value.ref (s.heap.objs.size+1)::us,[]⟩ (Value.ref (s.heap.objs.size+1)::(us++ds)) _ _ E (hr.make C us [])
  (I2.env0.make C us []) (hb _ (Value.ref (s.heap.objs.size+1)::us) I2.kIn hl) r2 hq) λr s' hq'=>?_))
 cases r with
 |error e=>exact hx pins σ _ _ e s' I2 hq'
 |ok fl=>
  cases fl with
  |ret u=>
   obtain⟨v,H',I3,rv,ev,q3⟩:=I2.after hq';subst ev;exact⟨rv,⟨V.ref (s.heap.objs.size+1),H',I3,rfl,q3⟩⟩
  |next=>exact False.elim hq'
  |brk=>exact False.elim hq'
  |cont=>exact False.elim hq'
theorem Ce(M:Mk X.K C f)(F:gz X.prog X.w X.K X.mg X.base CX k f fd ps sp)(hr:fM (k+1) X.A)(hg:Gl X x)(hm:X.mg x=some (.ref C))(hb:Binds X.K fd ps ds)(hd:Vals dvs ds)(hx:uL CX X E)
  (ha:PA X (e::es) t) (hdb:(x==("__debug__":Str))=false:=by decide) (he:RZ (e::es) X.env=(false,eval e X.env)::RZ es X.env:=by rfl) (hpl:(backTo pos (RZ es X.env)).any (·.1)=false:=by rfl):
  PE X (.Call (.Name x p) (e::es) [] pos) (Ia C sp dvs E t):=by
 intro pins s σ H Q I h;refine Su (so I hg hm ?_ hdb);refine QV (h₀:=X.base) I.ok.mod.kin M.kp (cD (ha pos pins s σ H _ I h) λus s1 ⟨vs,H1,I1,r,q⟩=>⟨I1.kIn,?_⟩) he hpl;exact Ak M F hr hb hd hx I1 r q
end
noncomputable def PK(X:Cx)(kws:List Sv)(t:TA):Prop:=
 ∀(pos:Pos)(pins:bc)(s:RL)(σ:St)(H:Hp)(Q:aE->Hp->Prop),Inv X pins σ H s->t σ H Q->RY (model X.prog X.w) X.A (evalAll ((backToKw pos (Sj kws X.env)).map (·.2))) (AP X pins σ Q) X.xe s
section
variable{X:Cx}{CX:uj}{k:Nat}{f C:RH}{fd:Sn}{ps ks:av}{sp:Sp}{E:XK}{x m:Str}{p pos apos kpos:Pos}{e o:RJ}{es:aZ}{kws:List Sv}{te ta:TE}{t tk:TA}{nm:Option Str}
theorem Fv:PK X [] HU:=λ_ _ _ _ H Q I h=>wpAny_evalAll_nil ⟨[],H,I,.nil,h⟩
theorem Di(ha:PE X e te)(hr:PK X kws t):PK X (⟨nm,e,kpos⟩::kws) (Ei te t):=by
 intro pos pins s σ H Q I h;show RY _ _ (evalAll ((do let v<-eval e X.env;standAt pos;pure v)::(backToKw pos (Sj kws X.env)).map (·.2))) _ _ s;refine wpAny_evalAll_cons (R8 (cD (ha pins s σ H _ I h) λu s1 ⟨x,H1,I1,r1,q1⟩=>R8 (Sw (R7 ?_))));exact cD (hr pos pins s1 σ H1 _ I1 q1) λus s2 ⟨xs,H2,I2,r2,q2⟩=>⟨x::xs,H2,I2,.cons r1 r2,q2⟩
variable{g:bb->bb->bb}{gV:aE->aE->aE}
end
structure b9(N P:av)(sc:RW):Prop where
 kind:sc.kind=.function
 co:sc.isCoroutine=false
 gen:sc.isGenerator=false
 nd:N.Nodup
 pre:N.take P.length=P
 par:∀x∈P,sc.names.lookup x=some .local\/sc.names.lookup x=some .cell
 nofree:∀y∈sc.names,y.2≠.free
theorem pW{kindOf:Str->Option RG}{x:Str}:∀{binds:List (Str×RF)}{m:cS},(∀v,(x,v)∉binds)->bindL kindOf binds m x=m x
 |[],_,_=>rfl
 |(n,v)::r,m,h=>by
  unfold bindL;rw[pW λw hw=>h w (Ou _ hw)];split
  ·have:x≠n:=(by rintro rfl;exact h v Ot);simp[this]
  ·rfl
theorem qx{kindOf:Str->Option RG}{x:Str}:∀{binds:List (Str×RF)}{m:cS},(∀v,(x,v)∉binds)->bindC kindOf binds m x=m x
 |[],_,_=>rfl
 |(n,v)::r,m,h=>by
  unfold bindC;rw[qx λw hw=>h w (Ou _ hw)];split
  ·rfl
  ·have:x≠n:=(by rintro rfl;exact h v Ot);simp[this]
theorem qY{kindOf:Str->Option RG}{x:Str}{v:RF}:∀{P:av}{vs:bb}{i:Nat}{m:cS},P.Nodup->P[i]?=some x->vs[i]?=some v->kindOf x=some .local->
  bindL kindOf (P.zip vs) m x=some v
 |[],_,_,_,_,h,_,_=>by simp at h
 |_::_,[],_,_,_,_,h,_=>by simp at h
 |p::P,w::vs,0,m,nd,h1,h2,hk=>by
  simp at h1 h2;subst h1;subst h2;show bindL kindOf ((p,w)::P.zip vs) m p=_;unfold bindL;rw[pW λv hv=>(List.nodup_cons.mp nd).1 (OO hv).1,if_pos hk];simp
 |p::P,w::vs,i+1,m,nd,h1,h2,hk=>by
  show bindL kindOf ((p,w)::P.zip vs) m x=_;unfold bindL;exact qY (i:=i) (List.nodup_cons.mp nd).2 (by simpa using h1) (by simpa using h2) hk
theorem qO{kindOf:Str->Option RG}{x:Str}{v:RF}:∀{P:av}{vs:bb}{i:Nat}{m:cS},P.Nodup->P[i]?=some x->vs[i]?=some v->kindOf x≠some .local->
  bindC kindOf (P.zip vs) m x=some v
 |[],_,_,_,_,h,_,_=>by simp at h
 |_::_,[],_,_,_,_,h,_=>by simp at h
 |p::P,w::vs,0,m,nd,h1,h2,hk=>by
  simp at h1 h2;subst h1;subst h2;show bindC kindOf ((p,w)::P.zip vs) m p=_;unfold bindC;rw[qx λv hv=>(List.nodup_cons.mp nd).1 (OO hv).1,if_neg hk];simp
 |p::P,w::vs,i+1,m,nd,h1,h2,hk=>by
  show bindC kindOf ((p,w)::P.zip vs) m x=_;unfold bindC;exact qO (i:=i) (List.nodup_cons.mp nd).2 (by simpa using h1) (by simpa using h2) hk
noncomputable def start(N:av)(vs:aE):St:=vs.map some++List.replicate (N.length-vs.length) none
noncomputable def jn(CX:uj)(P:RN)(w:RM)(K:QG)(mg:cS)(base:RP)(N:av)(qual:Str)(scope:RW)(f:RH)(cd:RF)(A:RV)(outer:List Env)(s:RL)(H:Hp)(E:XK):Cx where
 prog:=P
 w:=w
 K:=K
 mg:=mg
 base:=base
 A:=A.deeper (envOfC qual scope s.heap.objs.size f cd)
 N:=N
 s₀:=s
 H₀:=H
 env:=envOfC qual scope s.heap.objs.size f cd
 outer:=outer
 stack:=envOfC qual scope s.heap.objs.size f cd::outer
 ex:=[]
 calm:=true
 fn:=λ_=>true
 pn:=[]
 xe:=λe s'=>RY (model P w) (A.deeper (envOfC qual scope s.heap.objs.size f cd)) (leaving (envOfC qual scope s.heap.objs.size f cd) e) (λ_ s''=>CX outer H s E e s'') (λe' s''=>CX outer H s E e' s'') s'
theorem ub{sc:RW}{n:Nat}{x:Str}(h:sc.names.lookup x=some .cell):∃c,(cellsFrom n sc.names []).lookup x=some c:=by
 have q:=QW sc.names n [] (.inl h);exact Option.isSome_iff_exists.mp q
theorem ww{CX:uj}{P:RN}{w:RM}{K:QG}{mg:cS}{base:RP}{N ps:av}{qual:Str}{scope:RW}{f:RH}{cd:RF}{A:RV}{outer:List Env}{s s1:RL}{H:Hp}{E:XK}{us:bb}{vs:aE}
  (S:b9 N ps scope) (hd:A.handled=none) (e0:wj P w K mg base A outer s H) (hl:vs.length=ps.length) (r:Vals vs us)
  (x:InCallC s s.heap.objs.size (bindL (envOfC qual scope s.heap.objs.size f cd).kindOf (ps.zip us) λ_=>none) (cellsFrom (s.heap.objs.size+1) scope.names []) (bindC (envOfC qual scope s.heap.objs.size f cd).kindOf (ps.zip us) λ_=>none) s1):
  Inv (jn CX P w K mg base N qual scope f cd A outer s H E) [] (start N vs) H s1:=by
 have hpl:ps.length<=N.length:=by have:=congrArg List.length S.pre;rw[OQ]at this;omega
 obtain⟨h1,tk,rfl,hk⟩:=x.done;have noA:∀b:RH,b∉(jn CX P w K mg base N qual scope f cd A outer s H E).ex:=λb z=>absurd (show b∈([]:az)from z) (by simp);refine⟨⟨e0.mod,S.kind,rfl,rfl,Oz _,λy z c h1 h2=>?_,λy hy=>?_,λy c _ h=>?_,λ_=>hd,Around.frames_deeper e0.frames,.inr ⟨rfl,rfl⟩,λb z=>absurd z (noA b),e0.bs,e0.bsz,λb _ _=>noA b,λb z=>absurd z (noA b),e0.funs,e0.frf⟩,
  rfl,e0.bare,Un.kept hk,⟨_,x.toInCall.ns,λi y v h1 h2 h3=>?_⟩,λy c h=>⟨_,x.cell y c h⟩,e0.hok.fresh (Oz _),λy c h=>?_,λp hp=>absurd (show p∈([]:bc)from hp) (by simp),e0.hok.kept hk,?_⟩
 ·exact name_of_addr x.apart (PySem.mem_of_lookup h1) (PySem.mem_of_lookup h2)
 ·have hy:scope.names.lookup y=some .cell\/scope.names.lookup y=some .free:=hy;rcases hy with hy|hy
  ·exact ub hy
  ·exact absurd rfl (S.nofree _ (PySem.mem_of_lookup hy))
 ·exact Oo (x.above y c (PySem.mem_of_lookup h))
 ·have hi:i<vs.length:=by
   unfold start at h2;by_cases hi:i<vs.length
   ·exact hi
   ·rw[OS (by simpa using hi)]at h2;rw[OT]at h2;split at h2<;>cases h2
  have ha:vs[i]?=some v:=by
   unfold start at h2;rw[OU (by simpa using hi),OV]at h2;cases e:vs[i]? with
   |none=>rw[e]at h2;cases h2
   |some a=>rw[e]at h2;cases h2;rfl
  obtain⟨u,hu,rv⟩:=r.get ha;have hp:ps[i]?=some y:=by
   rw[<-S.pre,List.getElem?_take_of_lt ‹0›];exact h1
  have ndP:ps.Nodup:=by rw[<-S.pre];exact S.nd.sublist (List.take_sublist _ _)
  refine⟨u,rv,?_⟩;rcases S.par y (OW hp)with k|k
  ·exact .inl ⟨k,qY ndP hp hu k⟩
  ·obtain⟨c,e⟩:=ub (n:=s.heap.objs.size+1) k;refine .inr ⟨.inl k,c,e,?_⟩;have q:=x.cell y c e;rw[qO ndP hp hu (by show scope.names.lookup y≠_;rw[k];decide)]at q;exact q
 ·exact e0.hok.fresh (Oo (x.above y c (PySem.mem_of_lookup h)))
 ·unfold start;show _=N.length;rw[OX,OI,List.length_replicate];omega
theorem D7{CX:uj}{P:RN}{w:RM}{K:QG}{mg:cS}{base:RP}{k:Nat}{f:RH}{name qual:Str}{params:Arguments}{body:dM}{scope:RW}{dV kV doc pm cdv ct oc:RF}{an od:Option RH}
  {osl:Array (Option RF)} {N ps:av} {sp:Sp} (lk:K.lookup f=some ⟨oc,od,.func (QX name qual params body scope dV kV doc pm an cdv ct),osl⟩) (hcd:QY K cdv qual=true) (S:b9 N ps scope)
  (len:∀vs H Q E,sp vs H Q E->vs.length=ps.length)
  (hbody:∀ (A:RV) (outer:List Env) (s:RL) (H:Hp) (vs:aE) (Q:VK) (E:XK),fM k (A.deeper (envOfC qual scope s.heap.objs.size f cdv))->sp vs H Q E ->
   ∃t,t9 (jn CX P w K mg base N qual scope f cdv A outer s H E) body t/\t {nx:=λ_ H'=>Q .non H',rt:=Q} (start N vs) H):
  gz P w K mg base CX (k+1) f (QX name qual params body scope dV kV doc pm an cdv ct) ps sp:=by
 refine⟨len,λA outer s H args us vs Q E hr e0 hb r hsp=>?_⟩;have hl:=len _ _ _ _ hsp;have KX:K.In s.heap:=e0.mod.kin.keeps λb o e=>(e0.bs b o e).1;have lim:s.heap.NoLimit:=e0.mod.nolimit.keeps λb o e=>(e0.bs b o e).1;have hkind:∀y∈ps.zip us,scope.names.lookup y.1=some .local\/(scope.names.lookup y.1=some .cell/\((cellsFrom (s.heap.objs.size+1) scope.names []).lookup y.1).isSome=true):=λ⟨n,v⟩ hy=>by
  rcases S.par n (OO hy).1 with q|q
  ·exact .inl q
  ·exact .inr ⟨q,QW _ _ _ (.inl q)⟩
 refine codeAny_call_function hr.depth (KX _ _ lk) rfl S.co S.gen rfl (PySem.W.codeRec_of KX hcd) (hb _ _ _ _ ?_);refine wpAny_newFunctionEnv_cells S.kind hkind λenv he s1 x=>?_;subst he;refine⟨lim.keeps x.toInCall.keep,codeAny_func ?_⟩;obtain⟨t,ht,hq⟩:=hbody A outer s H vs Q E (hr.deeper _) hsp;have I:Inv (jn CX P w K mg base N qual scope f cdv A outer s H E) [] (start N vs) H s1:=ww S hr.hd e0 hl r x;refine R0 (ht [] s1 (start N vs) H _ I hq) (λfl s' hs=>?_) λe s' hs=>hs;have fin:∀{σ':St}{H':Hp}{v:V}{u:RF},Inv (jn CX P w K mg base N qual scope f cdv A outer s H E) [] σ' H' s'->RelV v u->Q v H'->CE outer P w H s Q u s':=
  λ{σ' H' v u} J rv q=>⟨v,H',J.os,J.bare,J.base,J.hok,rv,q⟩
 cases fl with
 |ret u=>
  obtain⟨v,σ',H',J,rv,q⟩:=hs;exact fin J rv q
 |next=>
  obtain⟨σ',H',J,q⟩:=hs;exact fin (v:=V.non) (u:=Value.none) J rfl q
 |brk=>
  obtain⟨_,_,_,q⟩:=hs;exact False.elim q
 |cont=>
  obtain⟨_,_,_,q⟩:=hs;exact False.elim q
section
variable{X:Cx}{x:Str}{p pos:Pos}{e:RJ}{es:aZ}{t:TA}{id T:String}{r:aE->Hp->VK->Prop}
noncomputable def K4(r:aE->Hp->VK->Prop)(t:TA):TE:=λσ H Q=>t σ H λvs H1=>r vs H1 Q
theorem oQ(hc:eJ X (.builtin id) r)(hg:Gl X x)(hm:X.mg x=none)(hv:RU x=some (.builtin id))(ha:PA X (e::es) t)(hn:x≠"__name__":=by decide)(hdb:(x==("__debug__":Str))=false:=by decide)
  (he:RZ (e::es) X.env=(false,eval e X.env)::RZ es X.env:=by rfl) (hpl:(backTo pos (RZ es X.env)).any (·.1)=false:=by rfl):PE X (.Call (.Name x p) (e::es) [] pos) (K4 r t):=by
 intro pins s σ H Q I h;refine Su (jm I hg hm hv ?_ hn hdb);exact PyProof.Rows.callWith_builtin1 (cD (ha pos pins s σ H _ I h) λus s1 ⟨vs,H1,I1,r1,q1⟩=>hc pins s1 σ H1 vs us Q I1 r1 q1) he hpl
theorem xL(hc:eJ X (.type T) r)(hg:Gl X x)(hm:X.mg x=none)(hv:RU x=some (.type T))(ha:PA X (e::es) t)(hn:x≠"__name__":=by decide)(hdb:(x==("__debug__":Str))=false:=by decide)
  (he:RZ (e::es) X.env=(false,eval e X.env)::RZ es X.env:=by rfl) (hpl:(backTo pos (RZ es X.env)).any (·.1)=false:=by rfl):PE X (.Call (.Name x p) (e::es) [] pos) (K4 r t):=by
 intro pins s σ H Q I h;refine Su (jm I hg hm hv ?_ hn hdb);exact Rv (cD (ha pos pins s σ H _ I h) λus s1 ⟨vs,H1,I1,r1,q1⟩=>hc pins s1 σ H1 vs us Q I1 r1 q1) he hpl
end
end L2
namespace HT
open PySem PyProof.Rows
theorem Iy(A:RV)(s:RL)(a:Int)(t:Tok)(c:Int)(u:Tok)(prog:RN)(w:RM)(E:RF->RL->Prop)(Q:RF->RL->Prop)(h:Q (.bool (decide (a<c))) s):
  RY (model prog w) A (richCompare .Lt (.int a t) (.int c u)) Q E s:=
 (PyProof.Rows.lt_int h:RY (model prog w) A (R3 .Lt (.int a t) (.int c u)) Q E s)
section
open PySem.SeqAt
open PySem.AutoSeq1 (wpAny_loadPart')
open PySem.MeetsSeq PySem.MeetsSeq2 PySem.MeetsSeq3
end
section
variable{prog:RN}{w:RM}{A:RV}{E:RF->RL->Prop}{s:RL}
theorem Jq{t b:RH}{vs ws:List RF}{Q:RF->RL->Prop}(ht:IsTup s.heap t vs.toArray)(hb:IsTup s.heap b ws.toArray)(hv:vs≠[])
  (h1:ws=[]->Q (.ref t) s) (h2:ws≠[]->Q (.ref s.heap.objs.size) {s with heap:=s.heap.push {cls:=.type "tuple",data:=.seq (vs++ws).toArray}})
  (hsz:vs.length+ws.length<=RQ):RY (model prog w) A (Se .Add (.ref t) (.ref b)) Q E s:=by
 obtain⟨⟨cls,dd,data,sl⟩,ho,hc,n,hd⟩:=id ht;obtain⟨⟨cls2,dd2,data2,sl2⟩,ho2,hc2,n2,hd2⟩:=id hb;simp only at hc hd hc2 hd2;subst hc hd hc2 hd2;have e:vs.toArray++ws.toArray=(vs++ws).toArray:=by simp
 by_cases hw:ws=[]
 ·exact Sx ⟨_,ho,rfl⟩ ⟨_,ho2,rfl⟩ Sy Sz RC RD (RE _ _)
   (tuple_addW1 t b vs.toArray ws.toArray n n2 dd dd2 sl sl2 (by simpa using hv) (by simp[hw])) ⟨ho,ho2,h1 hw⟩
 ·refine Sx ⟨_,ho,rfl⟩ ⟨_,ho2,rfl⟩ Sy Sz RC RD (RE _ _)
   (tuple_addW2 t b vs.toArray ws.toArray n n2 dd dd2 sl sl2 (by simpa using hv) (by simpa using hw) (by rw[OB,OB];exact hsz)) ⟨ho,ho2,?_⟩
  rw[e];exact h2 hw
noncomputable def sIx(n d:Nat):Option Int->Nat
 |none=>d
 |some v=>if v<0 then(v+(n:Int)).toNat else min v.toNat n
theorem HJ(n d:Nat):sIx n d none=d:=rfl
theorem Jz(n d k:Nat):sIx n d (some (k:Int))=min k n:=by
 show(if(k:Int)<0 then((k:Int)+(n:Int)).toNat else min (k:Int).toNat n)=min k n;rw[if_neg ‹0›,OY]
theorem Fi(n d:Nat)(hd:d<=n)(o:Option Int):sIx n d o<=n:=by
 cases o with
 |none=>exact hd
 |some v=>
  show(if v<0 then(v+(n:Int)).toNat else min v.toNat n)<=n;by_cases hv:v<0
  ·rw[if_pos hv];omega
  ·rw[if_neg hv];exact Nat.min_le_right _ _
theorem vk(v:Int)(n d:Nat):(if v<0 then max (v+(n:Int)) 0 else min v (n:Int))=((sIx n d (some v):Nat):Int):=by
 show(if v<0 then max (v+(n:Int)) 0 else min v (n:Int))=(((if v<0 then(v+(n:Int)).toNat else min v.toNat n):Nat):Int)
 by_cases hv:v<0
 ·simp only[if_pos hv];omega
 ·simp only[if_neg hv];omega
theorem uD(lo hi:Option Int)(n:Nat):Builtin.Slice.sliceAdjust lo hi 1 (n:Int)=(((sIx n 0 lo:Nat):Int),((sIx n n hi:Nat):Int)):=by
 have h1:¬((1:Int)<0):=by omega
 unfold Builtin.Slice.sliceAdjust;simp only[h1,if_false];refine Prod.ext ?_ ?_
 ·cases lo with
  |none=>rfl
  |some v=>exact vk v n 0
 ·cases hi with
  |none=>rfl
  |some v=>exact vk v n n
theorem uF(i j:Nat):Builtin.Slice.slicePlaces (i:Int) (j:Int) 1=j-i:=by
 unfold Builtin.Slice.slicePlaces;have h1:(1:Int)>0:=by omega
 simp only[h1,if_true,Int.ediv_one];split<;>omega
theorem oH{v:RF}{o:Option Int}{Q:Option Int->RL->Prop}(p:SA v o)(h:Q o s):RY (model prog w) A (Builtin.Slice.slicePartIndex v) Q E s:=by
 cases p with
 |none=>exact slicePart_none h
 |int i t=>exact slicePart_int h
theorem lY{sl:RH}{vl vu:RF}{lo hi:Option Int}{n:Nat}{Q:Int×Int×Nat->RL->Prop}(hs:s.heap.IsSliceOf sl vl vu .none)(pl:SA vl lo)(pu:SA vu hi)
  (h:Q (((sIx n 0 lo:Nat):Int),1,sIx n n hi-sIx n 0 lo) s):RY (model prog w) A (Builtin.Slice.sliceApplied (.ref sl) (pure (n:Int))) Q E s:=by
 obtain⟨os,hos,hcs,hds⟩:=id hs;unfold Builtin.Slice.sliceApplied Builtin.Slice.sliceFields;refine R8 (R8 (SD hos hds (x:=vl) rfl (R8 (SD hos hds (x:=vu) rfl (R8 (SD hos hds (x:=.none) rfl (R7 ?_)))))));refine R8 (slicePart_none ?_);show RY _ _ (if((1:Int)==0)=true then _ else _) _ _ s;rw[if_neg (by decide)];refine R8 (oH pl (R8 (oH pu (R8 (R7 ?_)))));show RY _ _ (match Builtin.Slice.sliceAdjust lo hi 1 (n:Int)with|(lo,hi)=>pure (lo,(1:Int),Builtin.Slice.slicePlaces lo hi 1)) _ _ s;rw[uD lo hi n];show RY _ _ (pure (((sIx n 0 lo:Nat):Int),(1:Int),Builtin.Slice.slicePlaces ((sIx n 0 lo:Nat):Int) ((sIx n n hi:Nat):Int) 1)) _ _ s;rw[uF];exact R7 h
theorem yO(xs:Array RF)(i k:Nat):((List.range k).filterMap λ(m:Nat)=>xs[((i:Int)+(m:Int)*1).toNat]?).toArray=((xs.toList.drop i).take k).toArray:=by
 have e:(λ(m:Nat)=>xs[((i:Int)+(m:Int)*1).toNat]?)=λm=>xs[i+m]?:=by
  funext m
  have:((i:Int)+(m:Int)*1).toNat=i+m:=by omega
  rw[this]
 rw[e]
 have:=pick_run xs i k
 rw[List.filterMap_map]at this;have e2:((λx=>xs[x]?)∘λx=>i+x)=λm=>xs[i+m]?:=rfl;rw[e2]at this;rw[this]
theorem vC{t sl:RH}{items:Array RF}{vl vu:RF}{lo hi:Option Int}{Q:RF->RL->Prop}(ht:IsTup s.heap t items)(hs:s.heap.IsSliceOf sl vl vu .none)(pl:SA vl lo)(pu:SA vu hi)
  (hw:¬(sIx items.size 0 lo=0/\sIx items.size items.size hi=items.size))
  (h:Q (.ref s.heap.objs.size) {s with heap:=s.heap.push {cls:=.type "tuple",data:=.seq ((items.toList.drop (sIx items.size 0 lo)).take (sIx items.size items.size hi-sIx items.size 0 lo)).toArray}})
  (hsz:items.size<=RQ):RY (model prog w) A (getItem (.ref t) (.ref sl)) Q E s:=by
 have htake:sizeOk (.seq ((items.toList.drop (sIx items.size 0 lo)).take (sIx items.size items.size hi-sIx items.size 0 lo)).toArray):=by
  show((items.toList.drop (sIx items.size 0 lo)).take (sIx items.size items.size hi-sIx items.size 0 lo)).toArray.size<=RQ;rw[OB,OQ,OZ,Array.length_toList];omega
 have hj:sIx items.size items.size hi<=items.size:=Fi _ _ (Oz _) hi;obtain⟨os,hos,hcs,hds⟩:=id hs;have hTs:s.TypeIs (.ref sl) "slice":=⟨os,hos,hcs⟩
 unfold getItem
 try with_reducible refine SE ?_
 first|refine R8 (R7 ?_)|skip
 refine R8 (wpAny_sequenceKey ht.typeIs (by decide) ?_);refine R8 (SG (name:=Str.ofString "__getitem__") ht.typeIs Rw
  (SH Rw ht.typeIs entry_tuple_getitem ?_ (args_tuple_getitem _ _)))
 show RY _ _ (Builtin.Tuple.tupleItemsOf (.ref t) >>= _) _ _ s;refine R8 (tupleItemsOf_ ht ?_);refine R8 (wpAny_typeOf hTs ?_);rw[if_pos (by decide)];refine R8 (lY hs pl pu ?_);have hno:¬((((sIx items.size 0 lo:Nat):Int)==0&&(1:Int)==1&&(sIx items.size items.size hi-sIx items.size 0 lo)==items.size)=true):=by
  intro q;rw[O0,O0]at q;have q1:((sIx items.size 0 lo:Nat):Int)=0:=eq_of_beq q.1.1;have q2:sIx items.size items.size hi-sIx items.size 0 lo=items.size:=eq_of_beq q.2;exact hw ⟨by omega,by omega⟩
 show RY _ _ (if(((sIx items.size 0 lo:Nat):Int)==0&&(1:Int)==1&&(sIx items.size items.size hi-sIx items.size 0 lo)==items.size)=true then _ else _) _ _ s;rw[if_neg hno,yO]
 first
  |exact R8 (m:=Builtin.Tuple.tupleExact _) (SJ (R7 ⟨_,rfl,R7 h⟩) htake)
  |exact R8 (m:=Builtin.Tuple.tupleExact _) (SJ (R8 (R7 (R7 ⟨_,rfl,R7 h⟩))) htake)
  |exact R8 (R8 (m:=Builtin.Tuple.tupleExact _) (SJ (R7 (R7 ⟨_,rfl,R7 h⟩)) htake))
  |exact R8 (R8 (m:=Builtin.Tuple.tupleExact _) (SJ (R7 ⟨_,rfl,R7 h⟩) htake))
end
end HT
namespace L2
open PySem PySem.Spec PyProof.Rows
noncomputable abbrev TO:=St->Hp->(dA->Hp->Prop)->Prop
noncomputable def PO(X:Cx)(e:Option RJ)(t:TO):Prop:=
 ∀(pins:bc)(s:RL)(σ:St)(H:Hp)(Q:dA->Hp->Prop),Inv X pins σ H s->t σ H Q->
  RY (model X.prog X.w) X.A (evalPart e X.env) (λu s'=>∃o H',Inv X pins σ H' s'/\SA u o/\Q o H') X.xe s
noncomputable def Ck:TO:=λ_ H Q=>Q none H
noncomputable def IG(t:TE):TO:=λσ H Q=>t σ H λx H1=>∃i,x=.int i/\Q (some i) H1
section
variable{X:Cx}{e:RJ}{te:TE}{lo hi:Option RJ}{tl th:TO}{pos p2:Pos}
theorem B3:PO X none Ck:=by
 intro pins s σ H Q I h;rw[evalPart_none];exact R7 ⟨none,H,I,.none,h⟩
theorem C1(h:PE X e te):PO X (some e) (IG te):=by
 intro pins s σ H Q I hw;rw[evalPart_some];refine cD (h pins s σ H _ I hw) λu s1 ⟨x,H1,I1,r1,q1⟩=>?_;obtain⟨i,rfl,q⟩:=q1;obtain⟨t,rfl⟩:=r1;exact⟨some i,H1,I1,.int i t,q⟩
noncomputable def Jy(X:Cx)(r:V->dA->dA->Hp->VK->Prop):Prop:=
 ∀(pins:bc)(s:RL)(σ:St)(H:Hp)(x:V)(v vl vu:RF)(lo hi:dA)(sl:RH)(Q:VK),Inv X pins σ H s->RelV x v->s.heap.IsSliceOf sl vl vu .none->SA vl lo->SA vu hi->r x lo hi H Q->
  ∃T id,typeLookup (.type T) "__getitem__"=pure (some (.builtin id))/\s.TypeIs v T/\RY (model X.prog X.w) X.A (getItem v (.ref sl)) (EP X pins σ Q) X.xe s
noncomputable def M9(r:V->dA->dA->Hp->VK->Prop)(te:TE)(tl th:TO):TE:=λσ H Q=>te σ H λx H1=>tl σ H1 λl H2=>th σ H2 λu H3=>r x l u H3 Q
theorem zB{r:V->dA->dA->Hp->VK->Prop}(hr:Jy X r)(he:PE X e te)(hl:PO X lo tl)(hu:PO X hi th):PE X (.Subscript e (.Slice lo hi none p2) pos) (M9 r te tl th):=by
 intro pins s σ H Q I h;refine Subscript_ (cD (he pins s σ H _ I h) λv s1 ⟨x,H1,I1,r1,q1⟩=>?_);refine wpAny_Slice (cD (hl pins s1 σ H1 _ I1 q1) λvl s2 ⟨l,H2,I2,pl,q2⟩=>cD (hu pins s2 σ H2 _ I2 q2) λvu s3 ⟨u,H3,I3,pu,q3⟩=>?_);rw[evalPart_none];refine R7 ?_;have I4:Inv X pins σ H3 {s3 with heap:=s3.heap.push {cls:=.type "slice",data:=.fields #[vl,vu,.none]}}:=I3.kept (t':=s3.toks) λb ob q=>Ro _ q;obtain⟨T,id,hT,ht,hg⟩:=hr pins {s3 with heap:=s3.heap.push {cls:=.type "slice",data:=.fields #[vl,vu,.none]}} σ H3 x v vl vu l u s3.heap.objs.size Q I4 r1 (Heap.IsSliceOf.new ..) pl pu q3;show RY (model X.prog X.w) X.A (subscriptTail e (.Slice lo hi none p2) v (.ref s3.heap.objs.size)) (EP X pins σ Q) X.xe {s3 with heap:=s3.heap.push {cls:=.type "slice",data:=.fields #[vl,vu,.none]}};exact tail_any (ops:=[.ref s3.heap.objs.size,v]) ht hT hg (by with_unfolding_all rfl)
noncomputable def t6(xs:aE)(lo hi:dA):aE:=(xs.drop (HT.sIx xs.length 0 lo)).take (HT.sIx xs.length xs.length hi-HT.sIx xs.length 0 lo)
theorem nV(xs:aE)(lo hi:dA):(t6 xs lo hi).length<=xs.length:=by
 unfold t6;rw[OQ,OZ];omega
noncomputable def KS(K:QG):V->dA->dA->Hp->VK->Prop:=λx lo hi H Q=>∃a xs,x=.ref a/\nO K H a xs/\
 ¬(HT.sIx xs.length 0 lo=0/\HT.sIx xs.length xs.length hi=xs.length)/\∀p,H p=none->Q (.ref p) (upd H p (.tup (t6 xs lo hi)))
theorem Gd:Jy X (KS X.K):=by
 intro pins s σ H x v vl vu lo hi sl Q I rx hs pl pu h;obtain⟨a,xs,rfl,hx,hw,q⟩:=h;cases rx;obtain⟨its,r,ht,hz⟩:=I.tuple hx;have hlen:its.toArray.size=xs.length:=by rw[OB];exact r.length.symm
 refine⟨"tuple",_,PyProof.Rows.slot_tuple_getitem.lookup,ht.typeIs,?_⟩;refine HT.vC ht hs pl pu (by rw[hlen];exact hw) ?_ (by rw[hlen];exact hz);rw[hlen];refine⟨.ref s.heap.objs.size,_,I.laid (t':=s.toks) (o:=.tup (t6 xs lo hi)) (λb ob q=>Ro _ q) (Oz _) ?_,rfl,q _ (I.hok.fresh (Oz _))⟩;exact⟨Om (nV xs lo hi) hz,_,(r.drop (HT.sIx xs.length 0 lo)).take (HT.sIx xs.length xs.length hi-HT.sIx xs.length 0 lo),IsTup.new _ _⟩
noncomputable def Hy(K:QG):R2:=λx y H Q=>∃a b xs ys,x=.ref a/\y=.ref b/\nO K H a xs/\nO K H b ys/\xs≠[]/\xs.length+ys.length<=RQ/\
 (ys=[]->Q (.ref a) H)/\(ys≠[]->∀p,H p=none->Q (.ref p) (upd H p (.tup (xs++ys))))
theorem Vals.nil_iff{xs:aE}{us:bb}(r:Vals xs us):us=[]↔xs=[]:=by
 cases r with
 |nil=>simp
 |cons _ _=>simp
theorem BV:gZ X (Se .Add) (Hy X.K):=by
 intro pins s σ H x y v u Q I rx ry h;obtain⟨a,b,xs,ys,rfl,rfl,ha,hb,hx,hz,q1,q2⟩:=h;cases rx;cases ry;obtain⟨its,r1,p1,_⟩:=I.tuple ha;obtain⟨its2,r2,p2,_⟩:=I.tuple hb;refine HT.Jq p1 p2 (λz=>hx (r1.nil_iff.mp z)) (λz=>⟨.ref a,H,I,rfl,q1 (r2.nil_iff.mp z)⟩) (λz=>?_) (by rw[<-r1.length,<-r2.length];exact hz);refine⟨.ref s.heap.objs.size,_,I.laid (t':=s.toks) (o:=.tup (xs++ys)) (λb ob q=>Ro _ q) (Oz _) ?_,rfl,q2 (λw=>z (r2.nil_iff.mpr w)) _ (I.hok.fresh (Oz _))⟩;exact⟨by rw[OX];exact hz,_,r1.append r2,IsTup.new _ _⟩
end
noncomputable def FJ(n:Nat)(i:Int):Option Nat:=if 0<=i then(if i<n then some i.toNat else none)else if -(n:Int)<=i then some (i+n).toNat else none
noncomputable def nH{α:Type}(xs:List α)(i:Int):Option α:=(FJ xs.length i).bind λj=>xs[j]?
theorem CW{n:Nat}{i:Int}{j:Nat}(h:FJ n i=some j):seqIndex? i n=some j/\j<n/\-(n:Int)<=i/\i<n:=by
 unfold FJ at h;by_cases h0:0<=i
 ·rw[if_pos h0]at h;by_cases h1:i<n
  ·rw[if_pos h1]at h;have e:i.toNat=j:=Option.some.inj h;exact⟨by rw[seqIndex_of h0 h1,e],by omega,by omega,h1⟩
  ·rw[if_neg h1]at h;cases h
 ·rw[if_neg h0]at h;by_cases h1:-(n:Int)<=i
  ·rw[if_pos h1]at h;have e:(i+n).toNat=j:=Option.some.inj h;exact⟨by rw[seqIndex_neg ‹0› h1,e],by omega,h1,by omega⟩
  ·rw[if_neg h1]at h;cases h
theorem rX{α:Type}{xs:List α}{i:Int}{v:α}(h:nH xs i=some v):∃j,seqIndex? i xs.length=some j/\xs[j]?=some v/\j<xs.length/\-(xs.length:Int)<=i/\i<xs.length:=by
 unfold nH at h;cases e:FJ xs.length i with
 |none=>rw[e]at h;cases h
 |some j=>
  rw[e]at h;obtain⟨h1,h2,h3,h4⟩:=CW e;exact⟨j,h1,h,h2,h3,h4⟩
noncomputable def sh(b:RJ):Prop:=∀o i,subscripted b false o i=operate [o,i] (getItem o i)
noncomputable def I0(X:Cx)(r:R2):Prop:=
 ∀(value slice:RJ)(pins:bc)(s:RL)(σ:St)(H:Hp)(x y:V)(v u:RF)(Q:VK),Inv X pins σ H s->RelV x v->RelV y u->r x y H Q->
  subscripted slice false v u=operate [v,u] (getItem v u)->RY (model X.prog X.w) X.A (subscriptTail value slice v u) (EP X pins σ Q) X.xe s
noncomputable def N1(X:Cx)(id:String)(r:V->aE->Hp->VK->Prop):Prop:=
 ∀(pins:bc)(s:RL)(σ:St)(H:Hp)(x:V)(xs:aE)(v:RF)(us:bb)(Q:VK),Inv X pins σ H s->RelV x v->Vals xs us->r x xs H Q->
  RY (model X.prog X.w) X.A (call (.builtin id) (v::us)) (EP X pins σ Q) X.xe s
section
variable{X:Cx}{a b:RJ}{ta tb:TE}{pos:Pos}
theorem Ib{r:R2}(hr:I0 X r)(ha:PE X a ta)(hb:PE X b tb)(hs:sh b):PE X (.Subscript a b pos) (HK r ta tb):=by
 intro pins s σ H Q I h;exact Subscript_ (Fb ha hb I h λv u s2 x y H2 I2 rx ry q=>hr a b pins s2 σ H2 x y v u Q I2 rx ry q (hs _ _))
noncomputable def KC(K:QG):R2:=λx y H Q=>∃p xs i v,x=.ref p/\y=.int i/\lM K H p xs/\nH xs i=some v/\Q v H
noncomputable def Kx(K:QG):R2:=λx y H Q=>∃p xs i v,x=.ref p/\y=.int i/\nO K H p xs/\nH xs i=some v/\Q v H
noncomputable def JR:R2:=λx y H Q=>∃z i c,x=.str z/\y=.int i/\z.length<=RQ/\nH z.cps.toList i=some c/\Q (.str ⟨#[c]⟩) H
theorem Cp:I0 X (KC X.K):=by
 intro value slice pins s σ H x y v u Q I rx ry h hs;obtain⟨p,xs,i,z,rfl,rfl,hq,he,q⟩:=h;cases rx;obtain⟨t,rfl⟩:=ry;obtain⟨its,r,pl,hz⟩:=I.list hq;obtain⟨j,h1,h2,h3,h4,h5⟩:=rX he;obtain⟨w,ew,rw'⟩:=r.get h2;have hl:=r.length;have hn:=mE;have fin:EP X pins σ Q w s:=⟨z,H,I,rw',q⟩
 by_cases h0:0<=i
 ·have hj:i.toNat=j:=by
   rw[seqIndex_of h0 h5]at h1;exact Option.some.inj h1
  exact item_listR pl.isList h0 ‹0› (by rw[hj];simpa using ew) fin hs
 ·have hj:(i+(its.toArray.size:Int)).toNat=j:=by
   rw[seqIndex_neg ‹0› h4]at h1;rw[OB,<-hl];exact Option.some.inj h1
  exact subscriptTail_builtinR (x:=w) pl.isList.typeIs slot_list_getitem.lookup
   (wpAny_getItem_list_neg (Q:=λr s'=>r=w/\EP X pins σ Q r s') pl.isList ‹0› (by rw[OB]<;>omega) ‹0› (by rw[hj];simpa using ew) ⟨rfl,fin⟩) hs
theorem Eo:I0 X (Kx X.K):=by
 intro value slice pins s σ H x y v u Q I rx ry h hs;obtain⟨p,xs,i,z,rfl,rfl,hq,he,q⟩:=h;cases rx;obtain⟨t,rfl⟩:=ry;obtain⟨its,r,pl,hz⟩:=I.tuple hq;obtain⟨j,h1,h2,h3,h4,h5⟩:=rX he;obtain⟨w,ew,rw'⟩:=r.get h2;have hl:=r.length;have hn:=mE;have fin:EP X pins σ Q w s:=⟨z,H,I,rw',q⟩
 exact subscriptTail_builtinR (x:=w) pl.typeIs slot_tuple_getitem.lookup
  (getItem_tuple (j:=j) (Q:=λr s'=>r=w/\EP X pins σ Q r s') pl ‹0› ‹0› (by rw[OB,<-hl];exact h1) (by simpa using ew) ⟨rfl,fin⟩) hs
theorem GJ:I0 X JR:=by
 intro value slice pins s σ H x y v u Q I rx ry h hs;obtain⟨z,i,c,rfl,rfl,hz,he,q⟩:=h;obtain⟨t,rfl⟩:=rx;obtain⟨t',rfl⟩:=ry;obtain⟨j,h1,h2,h3,h4,h5⟩:=rX he;have hl:z.cps.toList.length=z.length:=by simp[Str.length]
 rw[hl]at h1 h4 h5;have hn:=mE;exact tail_any (typeIs_str s z t) slot_str_getitem.lookup (getItem_str (c:=c) (by
  have e1:decide (i < -(2^63:Int))=false:=decide_eq_false ‹0›;have e2:decide (i>=2^63)=false:=decide_eq_false ‹0›;rw[e1,e2,Bool.or_false]) (by rw[h1];simpa using h2) ⟨.str ⟨#[c]⟩,H,I.tok _,⟨_,rfl⟩,q⟩) hs
theorem rm(lo hi:dA)(n:Nat):(sliceBounds lo hi none n).1=((HT.sIx n 0 lo:Nat):Int)/\(sliceBounds lo hi none n).2.1=((HT.sIx n n hi:Nat):Int)/\(sliceBounds lo hi none n).2.2=1:=by
 refine⟨?_,?_,rfl⟩
 ·cases lo with
  |none=>simp[sliceBounds,HT.sIx]
  |some i=>
   simp only[sliceBounds,HT.sIx,O1,show(1:Int)>0 by decide,if_true];by_cases h:i<0
   ·simp only[h,if_true]<;>omega
   ·simp only[h,if_false]<;>omega
 ·cases hi with
  |none=>simp[sliceBounds,HT.sIx]
  |some i=>
   simp only[sliceBounds,HT.sIx,O1,show(1:Int)>0 by decide,if_true];by_cases h:i<0
   ·simp only[h,if_true]<;>omega
   ·simp only[h,if_false]<;>omega
theorem pE(its:bb)(lo hi:dA):slicePick its.toArray lo hi none=((its.drop (HT.sIx its.length 0 lo)).take (HT.sIx its.length its.length hi-HT.sIx its.length 0 lo)).toArray:=by
 obtain⟨h1,h2,h3⟩:=rm lo hi its.toArray.size;unfold slicePick;rw[h1,h2,h3];simp only[sliceRange_one,pick_run,OB]<;>rfl
noncomputable def KA(K:QG):V->dA->dA->Hp->VK->Prop:=λx lo hi H Q=>∃a xs,x=.ref a/\lM K H a xs/\∀p,H p=none->Q (.ref p) (upd H p (.lst (t6 xs lo hi)))
theorem Dc:Jy X (KA X.K):=by
 intro pins s σ H x v vl vu lo hi sl Q I rx hs pl pu h;obtain⟨a,xs,rfl,hx,q⟩:=h;cases rx;obtain⟨its,r,ht,hz⟩:=I.list hx;have hlen:=r.length;refine⟨"list",_,slot_list_getitem.lookup,ht.isList.typeIs,?_⟩;refine wpAny_getItem_list_slice ht.isList hs pl pu .none (by simp) ?_ (by rw[OB]<;>omega);rw[pE,<-hlen];refine⟨.ref s.heap.objs.size,_,I.laid (t':=s.toks) (o:=.lst (t6 xs lo hi)) (λb ob q=>Ro _ q) (Oz _) ?_,rfl,q _ (I.hok.fresh (Oz _))⟩;exact⟨Om (nV xs lo hi) hz,_,0,(r.drop (HT.sIx xs.length 0 lo)).take (HT.sIx xs.length xs.length hi-HT.sIx xs.length 0 lo),Rp _ rfl⟩
noncomputable def yL:V->Bool
 |.non=>true
 |.bl _=>true
 |.int _=>true
 |.str _=>true
 |_=>false
noncomputable def KI:V->V->Bool
 |.non,.non=>true
 |.bl a,.bl b=>a==b
 |.bl a,.int b=>(if a then 1 else 0)==b
 |.int a,.bl b=>a==(if b then 1 else 0)
 |.int a,.int b=>a==b
 |.str a,.str b=>a==b
 |_,_=>false
theorem GV{A:RV}{s:RL}{y x:V}{u v:RF}(ry:RelV y u)(rx:RelV x v)(fy:yL y=true)(fx:yL x=true):SeqAt.EqAt A s u v (KI y x):=by
 cases y with
 |non=>
  cases ry;cases x with
  |non=>cases rx;exact SeqAt.EqAt.same _
  |bl b=>cases rx;exact SeqAt.EqAt.none_bool b
  |int b=>obtain⟨t,rfl⟩:=rx;exact SeqAt.EqAt.none_int b t
  |str b=>obtain⟨t,rfl⟩:=rx;exact SeqAt.EqAt.none_str b t
  |_=>exact absurd (show false=true from fx) OD
 |bl a=>
  cases ry;cases x with
  |non=>cases rx;exact SeqAt.EqAt.bool_none a
  |bl b=>cases rx;exact SeqAt.EqAt.bool_bool a b
  |int b=>obtain⟨t,rfl⟩:=rx;exact SeqAt.EqAt.bool_int a b t
  |str b=>obtain⟨t,rfl⟩:=rx;exact SeqAt.EqAt.bool_str a b t
  |_=>exact absurd (show false=true from fx) OD
 |int a=>
  obtain⟨t',rfl⟩:=ry;cases x with
  |non=>cases rx;exact SeqAt.EqAt.int_none a t'
  |bl b=>cases rx;exact SeqAt.EqAt.int_bool a t' b
  |int b=>obtain⟨t,rfl⟩:=rx;exact SeqAt.EqAt.int_int a t' b t
  |str b=>obtain⟨t,rfl⟩:=rx;exact SeqAt.EqAt.int_str a t' b t
  |_=>exact absurd (show false=true from fx) OD
 |str a=>
  obtain⟨t',rfl⟩:=ry;cases x with
  |non=>cases rx;exact SeqAt.EqAt.str_none a t'
  |bl b=>cases rx;exact SeqAt.EqAt.str_bool a t' b
  |int b=>obtain⟨t,rfl⟩:=rx;exact SeqAt.EqAt.str_int a t' b t
  |str b=>obtain⟨t,rfl⟩:=rx;exact SeqAt.EqAt.str_str a t' b t
  |_=>exact absurd (show false=true from fx) OD
 |_=>exact absurd (show false=true from fy) OD
theorem kZ:eJ X (.builtin "len") (λxs H Q=>∃p ys,xs=[.ref p]/\(lM X.K H p ys\/nO X.K H p ys)/\Q (.int ys.length) H):=by
 intro pins s σ H xs us Q I r h;obtain⟨p,ys,rfl,hq,q⟩:=h;obtain⟨u,rfl,rx⟩:=vals1 r;cases rx;have hn:=mE;rcases hq with hq|hq
 ·obtain⟨its,r',pl,hz⟩:=I.list hq;have hlen:=r'.length;exact Calls.call_len_list pl.isList (by simp only[OB]<;>omega) ⟨.int ys.length,H,I.tok _,⟨s.toks+1,by rw[OB,hlen]⟩,q⟩
 ·obtain⟨its,r',pl,hz⟩:=I.tuple hq;have hlen:=r'.length;exact len_tuple pl (by simp only[OB]<;>omega) ⟨.int ys.length,H,I.tok _,⟨s.toks+1,by rw[OB,hlen]⟩,q⟩
theorem sy:eJ X (.builtin "len") (λxs H Q=>∃z,xs=[.str z]/\z.length<=RQ/\Q (.int z.length) H):=by
 intro pins s σ H xs us Q I r h;obtain⟨z,rfl,hz,q⟩:=h;obtain⟨u,rfl,t,rfl⟩:=vals1 r;have hn:=mE;exact len_str ‹0› ⟨.int z.length,H,I.tok _,⟨_,rfl⟩,q⟩
theorem ku:eJ X (.type "tuple") (λxs H Q=>∃p ys,xs=[.ref p]/\((lM X.K H p ys/\∀l,H l=none->Q (.ref l) (upd H l (.tup ys)))\/(nO X.K H p ys/\Q (.ref p) H))):=by
 intro pins s σ H xs us Q I r h;obtain⟨p,ys,rfl,h⟩:=h;obtain⟨u,rfl,rx⟩:=vals1 r;cases rx;rcases h with⟨hq,q⟩|⟨hq,q⟩
 ·obtain⟨its,r',pl,hz⟩:=I.list hq;have hlen:=r'.length;refine call_tuple_list pl.isList (λh' kp=>?_) (by simp only[OB]<;>omega);have I1:Inv X pins σ H {s with heap:=h'}:=I.kept (t':=s.toks) kp;have I2:Inv X pins σ (upd H h'.objs.size (.tup ys)) {s with heap:=h'.push {cls:=.type "tuple",data:=.seq its.toArray}}:=
   I1.laid (t':=s.toks) (λb o e=>Ro _ e) (Oz _) (show dr X.prog X.w _ _ _ (.tup ys)from⟨hz,its,r',IsTup.new _ _⟩)
  exact⟨.ref h'.objs.size,_,I2,rfl,q _ (I1.hok.fresh (Oz _))⟩
 ·obtain⟨its,r',pl,hz⟩:=I.tuple hq;exact call_tuple_same pl ⟨.ref p,H,I,rfl,q⟩
noncomputable def Mx(K:QG)(T:String)(x:V)(H:Hp):Prop:=match x with
 |.str _=>T="str"
 |.int _=>T="int"
 |.ref p=>(T="list"/\∃xs,lM K H p xs)\/(T="tuple"/\∃o,K.lookup p=some o/\o.cls=.type "tuple"/\o.dict=none) \/
   (T="dict"/\((∃kvs,H p=some (.dK kvs))\/∃kvs,H p=some (.dT kvs)))\/(T="set"/\∃S n,H p=some (.set S n))
 |_=>False
theorem Gn{pins:bc}{σ:St}{H:Hp}{s:RL}{T:String}{x:V}{v:RF}(I:Inv X pins σ H s)(r:RelV x v)(ty:Mx X.K T x H):
  s.TypeIs v T/\∀a,v=.ref a->∃ob,s.heap.get? a=some ob/\ob.dict=none:=by
 cases x with
 |str z=>
  obtain⟨t,rfl⟩:=r;cases(show T="str"from ty);exact⟨typeIs_str s z t,λ_ e=>nomatch e⟩
 |int i=>
  obtain⟨t,rfl⟩:=r;cases(show T="int"from ty);exact⟨typeIs_int s i t,λ_ e=>nomatch e⟩
 |ref p=>
  cases r;rcases ty with⟨rfl,xs,hq⟩|⟨rfl,o,hk,hc,hd⟩|⟨rfl,hk⟩|⟨rfl,S,n,hk⟩
  ·obtain⟨its,_,pl,_⟩:=I.list hq;refine⟨pl.isList.typeIs,λa e=>?_⟩;cases e;obtain⟨o,n,e,c,hd,_⟩:=pl;exact⟨o,e,hd⟩
  ·refine⟨⟨o,I.kIn p o hk,hc⟩,λa e=>?_⟩;cases e;exact⟨o,I.kIn _ o hk,hd⟩
  ·have z:∃o,s.heap.get? p=some o/\o.ExactDict:=by
    rcases hk with⟨kvs,hk⟩|⟨kvs,hk⟩
    ·obtain⟨_,_,_,_,o,_,_,e,ex,_⟩:=I.hok p _ hk;exact⟨o,e,ex⟩
    ·obtain⟨_,_,_,_,o,_,_,e,ex,_⟩:=I.hok p _ hk;exact⟨o,e,ex⟩
   obtain⟨o,e,ex⟩:=z;refine⟨⟨o,e,ex.1⟩,λa e2=>?_⟩;cases e2;exact⟨o,e,ex.2.1⟩
  ·obtain⟨o,_,_,_,e,ex,_⟩:=I.hok p _ hk;refine⟨⟨o,e,ex.1⟩,λa e2=>?_⟩;cases e2;exact⟨o,e,ex.2.1⟩
 |_=>exact False.elim ty
noncomputable def Nk(K:QG)(T:String)(r:V->aE->Hp->VK->Prop)(to:TE)(t:TA):TE:=λσ H Q=>to σ H λx H1=>Mx K T x H1/\t σ H1 λxs H2=>r x xs H2 Q
variable{o e:RJ}{es:aZ}{to:TE}{t:TA}{name:Str}{apos cpos:Pos}{T id:String}{r:V->aE->Hp->VK->Prop}
theorem HI(pa:PlainAttrs T)(slot:Slot T name id)(hty:typeOf (.builtin id)=pure (.type "method_descriptor"))(hm:N1 X id r)(ho:PE X o to)(ha:PA X (e::es) t)
  (hbase:Sh o name X.env (eval o X.env)=eval o X.env:=by rfl)
  (hfew:((backTo cpos (RZ (e::es) X.env)).all (fun x=>!x.1) && (backToKw cpos (Sj [] X.env)).all (fun x=>x.1.isSome)
   && decide ((e::es).length+([]:List Sv).length+(if([]:List Sv).isEmpty then 0 else 1)<30))=true:=by rfl)
  (hline:(apos.endLine==cpos.line)=true:=by rfl) (hs:RZ (e::es) X.env=(false,eval e X.env)::RZ es X.env:=by rfl) (hplain:(backTo cpos (RZ es X.env)).any (·.1)=false:=by rfl):
  PE X (.Call (.Attribute o name apos) (e::es) [] cpos) (Nk X.K T r to t):=by
 intro pins s σ H Q I h;refine wpAny_Call_method_late hbase hfew hline rfl (cD (ho pins s σ H _ I h) λv s1 ⟨x,H1,I1,r1,ty,q1⟩=>?_);obtain⟨h1,h2⟩:=Gn I1 r1 ty;refine⟨T,id,pa,slot,hty,h1,h2,?_⟩;have hA:=ha cpos pins s1 σ H1 _ I1 q1;rw[hs]at hA ⊢;refine Calls.callWith_builtin (by show(false||(backTo cpos (RZ es X.env)).any (·.1))=false;rw[hplain]<;>rfl) (Calls.evalArgs_plain ?_);exact cD hA λus s2 ⟨vs,H2,I2,r2,q2⟩=>hm pins s2 σ H2 x vs v us Q I2 r1 r2 q2
end
noncomputable def Mr(X:Cx)(id:String)(r:V->aE->Hp->VK->Prop):Prop:=
 ∀(pins:bc)(s:RL)(σ:St)(H:Hp)(x:V)(xs:aE)(v:RF)(us:bb)(Q:VK),Inv X pins σ H s->RelV x v->Vals xs us->r x xs H Q->
  RY (model X.prog X.w) X.A (call (.builtin id) (v::us)) (EP X pins σ Q) X.xe s
theorem Vals.one:∀{x:V}{us:bb},Vals [x] us->∃u,us=[u]/\RelV x u
 |_,_,.cons r .nil=>⟨_,rfl,r⟩
section
variable{X:Cx}{pins:bc}{σ:St}{H:Hp}{s:RL}{l b:RH}{xs ys zs:aE}
theorem Inv.lset{its its':bb}{n:Nat}{f:Array RF->Array RF}{t':Nat}(I:Inv X pins σ H s)(hH:H l=some (.lst xs))
  (e:s.heap.get? l=some {cls:=.type "list",data:=.seq its.toArray n}) (hf:f its.toArray=its'.toArray) (hv:Vals ys its') (hz:ys.length<=RQ):
  Inv X pins σ (upd H l (.lst ys)) {s with heap:=s.heap.update l (Obj.mapSeq f),toks:=t'}:=by
 have q:=PySem.IsL.update e f;rw[hf]at q;refine I.write (x:=l) (e:=l) (by rw[hH];exact trivial) (.inl rfl) (λb' u hb hu=>(Rr s.heap (Obj.mapSeq f) (Ne.symm hb)).trans hu) ⟨_,q⟩ ?_;exact⟨hz,its',_,hv,q⟩
theorem Inv.lnew{its:bb}{t':Nat}(I:Inv X pins σ H s)(hv:Vals ys its)(hz:ys.length<=RQ):
  Inv X pins σ (upd H s.heap.objs.size (.lst ys)) {s with heap:=s.heap.push {cls:=.type "list",data:=.seq its.toArray},toks:=t'}:=
 I.laid (λ_ _ q=>Ro _ q) (Oz _) ⟨hz,its,0,hv,Rp _ rfl⟩
theorem Inv.fresh(I:Inv X pins σ H s):H s.heap.objs.size=none:=I.hok.fresh (Oz _)
theorem Inv.lstM(I:Inv X pins σ H s)(hH:H l=some (.lst xs)):xs.length<=RQ/\∃(its:bb)(n:Nat),Vals xs its/\xs.length=its.length/\s.heap.get? l=some {cls:=.type "list",data:=.seq its.toArray n}:=by
 obtain⟨z,its,n,r,e⟩:=I.hok l _ hH;exact⟨z,its,n,r,r.length,e⟩
end
section
variable{X:Cx}
noncomputable def vN:V->aE->Hp->VK->Prop:=λx vs H Q=>∃l xs y,x=.ref l/\vs=[y]/\H l=some (.lst xs)/\xs.length<RQ/\Q .non (upd H l (.lst (xs++[y])))
theorem qt:Mr X "list.append" vN:=by
 intro pins s σ H x vs v us Q I rx rv h;obtain⟨l,xs,y,rfl,rfl,hH,hz,q⟩:=h;cases rx;obtain⟨u,rfl,ru⟩:=rv.one;obtain⟨z,its,n,r,hl,e⟩:=I.lstM hH;refine call_meets F.slot_list_append ⟨_,e,rfl⟩ F.entry_list_append (F.args_list_append_2 _ _) (PySem.list_append l its.toArray n u (by rw[OB];omega)) ⟨e,?_⟩;refine⟨.non,_,I.lset (its':=its++[u]) hH e (by simp) (r.append (.cons ru .nil)) ?_,rfl,q⟩;rw[OX,O2];omega
end
end L2
namespace Att
open PySem PySem.W PySem.Calls PyProof.Rows
theorem nW{P:Params}{h:RP}:∀(ns:List Int)(vs:List RF),WellAll P h vs (ns.map WData.int)->IntsAre vs ns:=by
 intro ns
 induction ns with
 |nil=>
  intro vs w;rw[O3]at w;cases w;exact .nil
 |cons n ns ih=>
  intro vs w;rw[OH]at w;cases w with
  |cons a b=>
   cases a;exact .cons _ _ (ih _ b)
theorem xJ{l:OpenLaw}{n:Nat}(hn:l.most=some n){P:Params}{h:RP}{args:List WData}{vals:List RF}
  (hpre:l.row.toRowW.claim.pre args=true) (hwl:WellAll P h vals args):
  ∃a vs ns,vals=[Value.ref a]/\args=[WData.list (ns.map WData.int)]/\h.get? a=some {cls:=.type "list",data:=.seq vs.toArray}/\IntsAre vs ns/\ns.length<=n:=by
 have hsh:WShape.hasAll [] args [.list .int]=true:=(pre_splitW hpre).1;have hc:l.pre.holds [] {args:=args}=true:=(pre_splitW hpre).2;obtain⟨d,r,rfl,h1,h2⟩:=hasAllW_cons hsh;obtain rfl:=hasAllW_nil h2;obtain⟨xs,rfl,h3⟩:=hasW_list h1;obtain⟨ns,rfl⟩:=items_int h3;have hlen:ns.length<=n:=by
  unfold OpenLaw.pre at hc;have h4:(WTm.not (.lt (.lit (.int (n:Int))) (.len (.arg 0)))).holds [] {args:=[.list (ns.map .int)]}=true:=by
   have h4:=(holds_andW hc).1;rw[hn]at h4;exact h4
  have h5:=condW_of h4 (w_not (w_lt w_lit (w_len_list (w_arg rfl))));rw[OI]at h5;refine Nat.le_of_not_lt λq=>?_;have q':(n:Int)<((ns.length:Nat):Int):=by omega
  first
   |(rw[decide_eq_true q']at h5;exact absurd h5 (by decide))
   |(simp at h5;omega)
 cases hwl with
 |cons w1 w2=>
  cases w2;cases w1 with
  |list ho hall=>exact⟨_,_,ns,rfl,rfl,ho,nW ns _ hall,hlen⟩
theorem wY(l:OpenLaw)(args:List WData):l.row.toRowW.claim.post args (.bool true) args=true:=
 postW_of (r:=l.row.toRowW) (X:=(true==true))
  (show WShape.has [] (.bool true) .bool=true by first|rfl|decide|simp[WShape.has,WShape.arms,WShape.armsAll])
  (show(WTm.eq .res (.lit (.bool true))).value [] {args:=args,res:=some (.bool true),after:=args}=some (.bool (true==true))from w_eq_bool (w_res rfl) w_lit) rfl
theorem DV{l:OpenLaw}{n:Nat}{q:RN}{loose:List Str}{XP:(Str->Option RF)->RP->Prop}{YP:RM->RP->Prop}{d:DefRec}
  (hn:l.most=some n) (hdf:d.params.defaults=[])
  (call:∀ (w:RM) (s₀ s₁:RL) (mg mb:Str->Option RF) (fa:RH) (o:Obj) (pm cd doc:RF) (a:RH) (vs:List RF) (ns:List Int),
   Ground q loose [] XP w s₀ mg mb s₁.heap->YP w s₁.heap->
   s₁.heap.get? fa=some o->o.data=.func (docDef d.name d.params d.body d.scope pm cd doc)->s₁.heap.CodeRec cd d.name->mg d.name=some (.ref fa)->
   s₁.heap.get? a=some {cls:=.type "list",data:=.seq vs.toArray}->IntsAre vs ns->ns.length<=n->s₁.gens=#[]->
   Sg (model l.prog w) callerA (.call (.ref fa) ⟨[.ref a],[]⟩) (λr s'=>r=.ok (.ret (.bool true))/\OldK s₁.heap s'.heap/\s'.os=s₁.os/\AllBare s'.gens) s₁):
  WalkO q loose XP YP l.row.toRowW d [] (λf vs=>PySem.call f vs):=by
 intro w s₀ s₁ mg mb G Y fa o pm cd doc dV kV ho hd hcd hD hmg hg args vals as hpre hlay hrd hwl hlo;obtain rfl:dV=.none:=Dflts.none hD hdf;obtain rfl:kV=.none:=Dflts.noKw hD;obtain⟨a,vs,ns,rfl,rfl,hobj,hints,hlen⟩:=xJ hn hpre hwl;refine enter_call (Ss (call w s₀ s₁ mg mb fa o pm cd doc a vs ns G Y ho (fd_plain hd) hcd hmg hobj hints hlen hg) λr s' hq=>?_);obtain⟨rfl,h2,h3,h4⟩:=hq;exact⟨.inl ⟨.bool true,.bool true,[],rfl,λ_=>rfl,.bool true,wY l _,λ_=>⟨List.Pairwise.nil,λ_ hm=>(nomatch hm)⟩⟩,h2,h3,h4⟩
section
variable{prog:RN}{w:RM}{A:RV}{E:RF->RL->Prop}{s:RL}{K:Frag}
end
end Att
namespace L2
open PySem PySem.Spec PyProof.Rows
theorem qe:∀{vs:bb}{ns:List Int},IntsAre vs ns->Vals (ns.map V.int) vs
 |_,_,.nil=>.nil
 |_,_,.cons n t h=>.cons ⟨t,rfl⟩ (qe h)
noncomputable def Only(H:Hp):Prop:=∀b,H b=none\/∃o xs,H b=some (.frz o (.lst xs))
theorem yz{P:RN}{w:RM}{K:QG}{mg mb:cS}{CX:uj}{k:Nat}{fa a:RH}{fd:Sn}{x:Str}{sp:Sp}{s₁:RL}{vs:bb}{ns:List Int}
  (KX:K.In s₁.heap) (hns:s₁.heap.Ns RT mg) (hb:s₁.heap.Ns builtinsNs mb) (hbb:∀x:Str,x≠"__name__"->mb x=RU x) (hlim:s₁.heap.NoLimit) (hg:s₁.gens=#[])
  (ha:s₁.heap.get? a=some {cls:=.type "list",data:=.seq vs.toArray}) (hi:IntsAre vs ns) (hl:ns.length<=RQ) (hr:fM k callerA)
  (F:∀base:RP,K.In base->base.Ns RT mg->gz P w K mg base CX k fa fd [x] sp) (hbind:∀(s:RL)(u:RF),Sq s fd ⟨[u],[]⟩ [(x,u)])
  (hsp:∀H:Hp,Only H->lM K H a (ns.map V.int)->sp [.ref a] H (λv _=>v=.bl true) λ_ _ _=>False)
  (hCX:∀H e s',CX [] H s₁ (λ_ _ _=>False) e s'->False):
  Sg (model P w) callerA (.call (.ref fa) ⟨[.ref a],[]⟩) (λr s'=>r=.ok (.ret (.bool true))/\OldK s₁.heap s'.heap/\s'.os=s₁.os/\AllBare s'.gens) s₁:=by
 have rv:=qe hi;have lenV:=hi.length;have core:∀H:Hp,Only H->lM K H a (ns.map V.int)->nA P w H s₁.heap->(∀b,H b≠none->b=a)->(H a≠none->K.lookup a=none)->
   Sg (model P w) callerA (.call (.ref fa) ⟨[.ref a],[]⟩) (λr s'=>r=.ok (.ret (.bool true))/\OldK s₁.heap s'.heap/\s'.os=s₁.os/\AllBare s'.gens) s₁:=by
  intro H hO hS hok hA hK;have base_of:∀{b:RH}{o:Obj},s₁.heap.get? b=some o->H b=none->(sj s₁.heap H).get? b=some o:=λe n=>zN e n;have noA:∀{b:RH}{o:Obj}{es:Array DictEntry}{ep:Nat},s₁.heap.get? b=some o->o.data=.dict es ep->H b=none:=λ{b o es ep} e d=>by
   cases q:H b with
   |none=>rfl
   |some u=>
    have e':b=a:=hA b (by rw[q];simp);subst e';rw[ha]at e;cases e;have d':Data.seq vs.toArray _=Data.dict es ep:=d;cases d'
  have nsK:∀{b:RH}{m:cS},s₁.heap.Ns b m->(sj s₁.heap H).Ns b m:=λ{b m} ⟨o,es,ep,e,d,r⟩=>⟨o,es,ep,base_of e (noA e d),d,r⟩
  have hKb:K.In (sj s₁.heap H):=λb o e=>base_of (KX b o e) (by
   cases q:H b with
   |none=>rfl
   |some u=>
    have e':b=a:=hA b (by rw[q];simp);subst e';rw[hK (by rw[q];simp)]at e;cases e)
  have hM:Mod K mg (sj s₁.heap H):=⟨hKb,nsK hns,⟨mb,nsK hb,hbb⟩,let ⟨mc,h1,h2⟩:=hlim;⟨mc,nsK h1,h2⟩⟩
  have e0:wj P w K mg (sj s₁.heap H) callerA [] s₁ H:=⟨rfl,hM,λb o e=>B9 e,OJ (we _ _),trivial,λb hb=>absurd (show b∈([]:az)from hb) (by simp),hok,.of_eq hg⟩
  refine Ss ((F _ hKb (nsK hns)).run callerA [] s₁ H ⟨[.ref a],[]⟩ [.ref a] [.ref a] _ _ hr e0 (hbind s₁ (.ref a)) (.cons rfl .nil) (hsp H hO hS)) λr s' h=>?_;cases r with
  |error e=>exact(hCX H e s' h).elim
  |ok fl=>
   cases fl with
   |next=>exact False.elim h
   |brk=>exact False.elim h
   |cont=>exact False.elim h
   |ret u=>
    obtain⟨v,H',os,bare,un,hok',r',q⟩:=h;have q':v=.bl true:=q;subst q';obtain rfl:u=Value.bool true:=r';refine⟨rfl,OldK.of_keep λb o e=>?_,os,bare⟩;cases q:H b with
    |none=>exact un.keep b o e q (by intro z;exact absurd (show b∈([]:az)from z) (by simp)) (by simp)
    |some u=>
     rcases hO b with z|⟨ob,xs,z⟩
     ·rw[q]at z;cases z
     ·have z2:=un.frzs b ob _ z;obtain⟨e1,_⟩:=hok b _ z;obtain⟨e2,_⟩:=hok' b _ z2;rw[e]at e1;cases e1;exact e2
 cases hk:K.lookup a with
 |some o=>
  have e:=KX a o hk;rw[ha]at e;cases e;refine core (λ_=>none) (λ_=>.inl rfl) (.inr ⟨_,vs.toArray,_,hk,rfl,rfl,rfl,by rw[OB,lenV];exact hl,by simpa using rv⟩) (λb u z=>by have z':(none:Option HO)=some u:=z;cases z') (λb z=>absurd rfl z) λz=>absurd rfl z
 |none=>
  refine core (λb=>if b=a then some (.frz {cls:=.type "list",data:=.seq vs.toArray} (.lst (ns.map V.int)))else none) (λb=>?_) (.inl (.inr ⟨{cls:=.type "list",data:=.seq vs.toArray},if_pos rfl⟩)) (λb u z=>?_) (λb z=>?_) λ_=>hk
  ·by_cases hb:b=a
   ·exact .inr ⟨_,_,if_pos hb⟩
   ·exact .inl (if_neg hb)
  ·by_cases hb:b=a
   ·have z':=(if_pos hb).symm.trans z;cases z';subst hb;exact⟨ha,by rw[OI];exact hl,vs,_,rv,ha⟩
   ·have z':=(if_neg hb).symm.trans z;cases z'
  ·by_cases hb:b=a
   ·exact hb
   ·exact absurd (if_neg hb) z
theorem Jt{l:QZ}{n k:Nat}{q:RN}{loose:av}{XP:(cS)->RP->Prop}{YP:RM->RP->Prop}{d:DefRec}{K:Params->QG}{CX:RM->uj}{sp:RM->Sp}{x:Str}
  (hn:l.most=some n) (hn2:n<=RQ) (hdf:d.params.defaults=[]) (hr:fM k callerA)
  (hY:∀(w:RM)(h:RP),YP w h->(K w.params).In h)
  (F:∀ (w:RM) (mg:cS) (fa:RH) (h:RP),(K w.params).In h->h.Ns RT mg->mg d.name=some (.ref fa) ->
   ∃fd:Sn,(∀(s:RL)(u:RF),Sq s fd ⟨[u],[]⟩ [(x,u)])/\
    ∀base:RP,(K w.params).In base->base.Ns RT mg->gz l.prog w (K w.params) mg base (CX w) k fa fd [x] (sp w))
  (hsp:∀(w:RM)(H:Hp)(a:RH)(ns:List Int),ns.length<=n->Only H->lM (K w.params) H a (ns.map V.int)->sp w [.ref a] H (λv _=>v=.bl true) λ_ _ _=>False)
  (hCX:∀(w:RM)(H:Hp)(s:RL)(e:RF)(s':RL),CX w [] H s (λ_ _ _=>False) e s'->False):
  PySem.W.WalkO q loose XP YP l.row.toRowW d [] (λf vs=>PySem.call f vs):=by
 refine Att.DV hn hdf λw s₀ s₁ mg mb fa o pm cd doc a vs ns G Y ho hd hcd hmg hobj hints hlen hg=>?_;have KX:=hY w _ Y;obtain⟨fd,hb,hF⟩:=F w mg fa _ KX G.T.g hmg;exact yz KX G.T.g G.T.b G.T.builtins G.T.nolimit hg hobj hints (Om hlen hn2) hr hF hb (λH hO hS=>hsp w H a ns hlen hO hS) λH e s'=>hCX w H s₁ e s'
noncomputable def inClass(s:RK)(j:Nat):RK:=match s with
 |.ClassDef _ _ _ body _ _ _ _ _ _ _=>body.getD j (.Pass ⟨0,0,0,0⟩)
 |_=>.Pass ⟨0,0,0,0⟩
noncomputable def iM(s:RK):Arguments:=match s with
 |.FunctionDef _ a _ _ _ _ _ _ _ _=>a
 |_=>{posonlyargs:=[],args:=[],vararg:=none,kwonlyargs:=[],kw_defaults:=[],kwarg:=none,defaults:=[]}
noncomputable def dS(s:RK):dM:=match s with
 |.FunctionDef _ _ b _ _ _ _ _ _ _=>b
 |_=>[]
noncomputable def aw(s:RK):RW:=match s with
 |.FunctionDef _ _ _ _ _ _ sc _ _ _=>sc
 |_=>{kind:=.function,names:=[],isGenerator:=false,isCoroutine:=false}
noncomputable abbrev Jr:uj:=λ_ _ _ _ _ _=>False
noncomputable abbrev E0:XK:=λ_ _ _=>False
structure n9(K:QG)(x qual:Str)(st:RK)(f:RH)(fd:Sn):Prop where
 ex:∃(oc:RF)(od:Option RH)(kV doc pm:RF)(an:Option RH)(cdv ct:RF)(osl:Array (Option RF)),
  fd=QX x qual (iM st) (dS st) (aw st) .none kV doc pm an cdv ct/\K.lookup f=some ⟨oc,od,.func fd,osl⟩/\QY K cdv qual=true
 kp:QU K (.ref f)=true
section
variable{P:RN}{w:RM}{K:QG}{mg:cS}{base:RP}
theorem n9.ok{x qual:Str}{st:RK}{f:RH}{fd:Sn}{N ps:av}{k:Nat}{sp:Sp}(F:n9 K x qual st f fd)(S:b9 N ps (aw st))(len:∀vs H Q E,sp vs H Q E->vs.length=ps.length)
  (hbody:∀ (cdv:RF) (A:RV) (outer:List Env) (s:RL) (H:Hp) (vs:aE) (Q:VK) (E:XK),fM k (A.deeper (envOfC qual (aw st) s.heap.objs.size f cdv))->sp vs H Q E ->
   ∃t,t9 (jn Jr P w K mg base N qual (aw st) f cdv A outer s H E).nox (dS st) t/\t {nx:=λ_ H'=>Q .non H',rt:=Q} (start N vs) H):gz P w K mg base Jr (k+1) f fd ps sp:=by
 obtain⟨oc,od,kV,doc,pm,an,cdv,ct,osl,rfl,lk,hcd⟩:=F.ex;refine D7 lk hcd S len λA outer s H vs Q E hr hsp=>?_;obtain⟨t,h,q⟩:=hbody cdv A outer s H vs Q E hr hsp;exact⟨t,h.nox,q⟩
theorem n9.binds{x qual:Str}{st:RK}{f:RH}{fd:Sn}{ps:av}(F:n9 K x qual st f fd)
  (h:∀(kV doc pm:RF)(an:Option RH)(cdv ct:RF)(us:bb),us.length=ps.length->bindArgs (QX x qual (iM st) (dS st) (aw st) .none kV doc pm an cdv ct) ⟨us,[]⟩=pure (ps.zip us)):Binds K fd ps []:=by
 obtain⟨oc,od,kV,doc,pm,an,cdv,ct,osl,rfl,lk,hcd⟩:=F.ex;exact .all (h kV doc pm an cdv ct)
theorem aW{x qual:Str}{st:RK}{f:RH}{oc:RF}{od an:Option RH}{osl:Array (Option RF)}{kV doc pm cdv ct:RF}(l:K.lookup f=some ⟨oc,od,.func (QX x qual (iM st) (dS st) (aw st) .none kV doc pm an cdv ct),osl⟩)
  (c:QY K cdv qual=true) (k:QU K (.ref f)=true):n9 K x qual st f (QX x qual (iM st) (dS st) (aw st) .none kV doc pm an cdv ct):=⟨⟨oc,od,kV,doc,pm,an,cdv,ct,osl,rfl,l,c⟩,k⟩
end
section
variable{X:Cx}
theorem pv(i:Nat){x:Str}{pos:Pos}(hN:X.N[i]?=some x:=by rfl)(hv:Ha X.env.scope x:=by first|exact Or.inl rfl|exact Or.inr (Or.inl rfl)|exact Or.inr (Or.inr rfl))(hd:(x==("__debug__":Str))=false:=by decide)
  (hcd:(x==("__classdict__":Str))=false:=by decide):PE X (.Name x pos) (uA i):=GO hN hv hd hcd
end
theorem sW{A B:Prop}(h:B):if false=true then A else B:=by
 rw[if_neg OD];exact h
theorem sQ{A B:Prop}(h:A):if true=true then A else B:=by
 rw[if_pos rfl];exact h
noncomputable def aP(H H':Hp):Prop:=∀b o,H b=some o->H' b=some o
theorem aP.refl(H:Hp):aP H H:=λ_ _ h=>h
theorem aP.trans{H H1 H2:Hp}(a:aP H H1)(b:aP H1 H2):aP H H2:=λc o h=>b c o (a c o h)
theorem aP.free{H H':Hp}(e:aP H H'){l:RH}(h:H' l=Option.none):H l=Option.none:=by
 cases q:H l with
 |none=>rfl
 |some o=>
  rw[e l o q]at h;cases h
theorem aP.seq{K:QG}{H H':Hp}{a:RH}{xs:aE}(e:aP H H')(h:lM K H a xs):lM K H' a xs:=by
 rcases h with(h|⟨o,h⟩)|h
 ·exact .inl (.inl (e _ _ h))
 ·exact .inl (.inr ⟨o,e _ _ h⟩)
 ·exact .inr h
section
variable{κ:Type}[DecidableEq κ]
noncomputable def lG(kvs:List (κ×V))(k:κ):Option V:=(kvs.find? λkv=>decide (kv.1=k)).map (·.2)
noncomputable def putK(kvs:List (κ×V))(k:κ)(v:V):List (κ×V):=
 if(kvs.any λkv=>decide (kv.1=k))=true then kvs.map (λkv=>if kv.1=k then(kv.1,v)else kv)else kvs++[(k,v)]
theorem oG{p:κ×V}{r:List (κ×V)}{k:κ}(e:p.1=k):lG (p::r) k=some p.2:=by simp[lG,O5,e]
theorem oI{p:κ×V}{r:List (κ×V)}{k:κ}(e:¬p.1=k):lG (p::r) k=lG r k:=by simp[lG,O5,e]
theorem tL(kvs:List (κ×V))(k:κ)(v:V):(putK kvs k v).length<=kvs.length+1:=by
 unfold putK;split
 ·rw[OI];omega
 ·rw[OX,OG,O6];omega
theorem rC.isSome_eq{o:Option V}{u:Option RF}(r:rC o u):o.isSome=u.isSome:=by
 cases o with
 |none=>cases u with
  |none=>rfl
  |some _=>exact(show False from r).elim
 |some _=>cases u with
  |none=>exact(show False from r).elim
  |some _=>rfl
theorem KV.val{kvs:List (κ×V)}{vs:List (κ×RF)}(r:KV kvs vs)(k:κ):rC (lG kvs k) (valueAt vs k):=by
 unfold KV at r
 induction r with
 |nil=>exact True.intro
 |@cons p q ps qs h t ih=>
  obtain⟨h1,h2⟩:=h;by_cases e:p.1=k
  ·have e':q.1=k:=h1.symm.trans e;have b:valueAt (q::qs) k=some q.2:=(by simp[valueAt,O5,e']);rw[oG e,b];exact h2
  ·have e':¬q.1=k:=λz=>e (h1.trans z);have b:valueAt (q::qs) k=valueAt qs k:=(by simp[valueAt,O5,e']);rw[oI e,b];exact ih
theorem KV.any{kvs:List (κ×V)}{vs:List (κ×RF)}(r:KV kvs vs)(k:κ):(kvs.any λkv=>decide (kv.1=k))=vs.any λkv=>decide (kv.1=k):=by
 unfold KV at r
 induction r with
 |nil=>rfl
 |cons h t ih=>rw[O7,O7,ih,h.1]
theorem KV.repl{kvs:List (κ×V)}{vs:List (κ×RF)}(r:KV kvs vs)(k:κ){y:V}{u:RF}(ry:RelV y u):
  KV (kvs.map λkv=>if kv.1=k then(kv.1,y)else kv) (vs.map λkv=>if kv.1=k then(kv.1,u)else kv):=by
 unfold KV at r ⊢
 induction r with
 |nil=>exact .nil
 |@cons p q ps qs h t ih=>
  rw[OH,OH];refine .cons ?_ ih;obtain⟨h1,h2⟩:=h;by_cases e:p.1=k
  ·rw[if_pos e,if_pos (h1.symm.trans e)];exact⟨h1,ry⟩
  ·rw[if_neg e,if_neg (λz=>e (h1.trans z))];exact⟨h1,h2⟩
theorem KV.put{kvs:List (κ×V)}{vs:List (κ×RF)}(r:KV kvs vs)(k:κ){y:V}{u:RF}(ry:RelV y u):KV (putK kvs k y) (stored vs k u):=by
 unfold putK stored;rw[r.any k];by_cases e:(vs.any λkv=>decide (kv.1=k))=true
 ·rw[if_pos e,if_pos e];exact r.repl k ry
 ·rw[if_neg e,if_neg e];exact Paired.snoc r ⟨rfl,ry⟩
theorem KV.length{kvs:List (κ×V)}{vs:List (κ×RF)}(r:KV kvs vs):kvs.length=vs.length:=Paired.length r
end
theorem v8{P:RN}{w:RM}{k:Key}{u:RF}(r:RelV (kV k) u):(dq P w).is k u=true:=by
 cases k with
 |inl i=>obtain⟨t,e⟩:=(show∃t,u=Value.int i t from r);subst e;exact sS P w i t
 |inr x=>obtain⟨t,e⟩:=(show∃t,u=Value.str x t from r);subst e;exact sV P w x t
theorem qg{P:RN}{w:RM}:∀{ks:List Key}{us:bb},Vals (ks.map kV) us->ItemsAre (dq P w) ks us
 |[],_,r=>by rw[O3]at r;cases r;exact .nil
 |k::ks,_,r=>by
  rw[OH]at r;cases r with
  |cons h t=>exact .cons (v8 h) (qg t)
noncomputable abbrev KT(H:Hp):List (List Key×V)->List (List Key×RH×RF)->Prop:=RO λp q=>p.1=q.1/\H q.2.1=some (.tup (p.1.map kV))/\RelV p.2 q.2.2
theorem KT.val{H:Hp}{kvs:List (List Key×V)}{xs:List (List Key×RH×RF)}(r:KT H kvs xs)(k:List Key):rC (lG kvs k) ((atKey xs k).map (·.2)):=by
 induction r with
 |nil=>exact True.intro
 |@cons p q ps qs h t ih=>
  obtain⟨h1,_,h2⟩:=h;by_cases e:p.1=k
  ·have e':q.1=k:=h1.symm.trans e;have b:atKey (q::qs) k=some q.2:=(by simp[atKey,O5,e']);rw[oG e,b];exact h2
  ·have e':¬q.1=k:=λz=>e (h1.trans z);have b:atKey (q::qs) k=atKey qs k:=(by simp[atKey,O5,e']);rw[oI e,b];exact ih
section
variable{P:RN}{w:RM}{H:Hp}{h:RP}{a:RH}
theorem Ej{u:HO}(ok:nA P w H h)(e:Rd H a u):dr P w H h a u:=e.ok ok
theorem vE{kvs:List (Key×V)}(ok:nA P w H h)(e:Rd H a (.dK kvs)):kvs.length<=RQ/\(a==sysModules)=false/\∃vs,KV kvs vs/\h.DictOf (dq P w) a vs:=
 show dr P w H h a (.dK kvs)from Ej ok e
theorem Hh{kvs:List (Key×V)}(ok:nA P w H h)(e:H a=some (.dK kvs)):kvs.length<=RQ/\(a==sysModules)=false/\∃vs,KV kvs vs/\h.DictOf (dq P w) a vs:=vE ok (.inl e)
theorem uE{ks:List Key}(ok:nA P w H h)(e:H a=some (.tup (ks.map kV))):(tupleKind (dq P w)).is h ks a:=by
 obtain⟨_,its,r,o,h1,h2,n,h3⟩:=(show dr P w H h a (.tup (ks.map kV))from ok a _ e)
 exact⟨o,its.toArray,n,h1,h2,h3,by simpa using qg r⟩
theorem Aa{kvs:List (List Key×V)}(ok:nA P w H h)(e:Rd H a (.dT kvs)):kvs.length<=RQ/\(a==sysModules)=false/\
  ∃xs,KT H kvs xs/\h.DictOfH (tupleKind (dq P w)) a xs:=by
 obtain⟨z,y,xs,r,o,es,ep,h1,h2,h3,h4,h5⟩:=(show dr P w H h a (.dT kvs)from Ej ok e)
 refine⟨z,y,xs,r,o,es,ep,h1,h2,h3,h4,λx hx=>?_,h5⟩;have all:∀{l:List (List Key×V)}{m:List (List Key×RH×RF)},KT H l m->∀x∈m,(tupleKind (dq P w)).is h x.1 x.2.1:=by
  intro l m q
  induction q with
  |nil=>intro x hx;exact nomatch hx
  |@cons p q ps qs hq t ih=>
   intro x hx;rcases List.mem_cons.mp hx with e|hx
   ·subst e;exact uE ok (by rw[<-hq.1];exact hq.2.1)
   ·exact ih x hx
 exact all r x hx
end
noncomputable def xZ(H:Hp)(a:RH)(y:V)(r:Option V):Prop:=
 (∃kvs k,Rd H a (.dK kvs)/\y=kV k/\r=lG kvs k)\/∃kvs k b,Rd H a (.dT kvs)/\y=.ref b/\H b=some (.tup (k.map kV))/\r=lG kvs k
theorem xZ.k{H:Hp}{a:RH}{kvs:List (Key×V)}{k:Key}(e:H a=some (.dK kvs)):xZ H a (kV k) (lG kvs k):=.inl ⟨kvs,k,.inl e,rfl,rfl⟩
section
variable{X:Cx}{pins:bc}{σ:St}{H:Hp}{s:RL}{a:RH}{y v:V}{u r:RF}{o:Option V}{A:RV}{E:bX}
theorem Inv.big(I:Inv X pins σ H s):sysModules<s.heap.objs.size:=by
 have h:RT<s.heap.objs.size:=(I.mod.glob.keeps I.bk).lt;exact O8 (by decide) h
theorem xB{Q:bX}(hu:A.units+1<Sl)(I:Inv X pins σ H s)(g:xZ H a y (some v))(ry:RelV y u)(h:∀w' s',Inv X pins σ H s'->RelV v w'->Q w' s'):
  RY (model X.prog X.w) A (getItem (.ref a) u) Q E s:=by
 rcases g with⟨kvs,k,e,ey,l⟩|⟨kvs,k,b,e,ey,eb,l⟩
 ·subst ey;obtain⟨z,hd,vs,rel,dd⟩:=vE I.hok e;obtain⟨w',hw,rw'⟩:=rC.some_of (v:=v) (o:=valueAt vs k) (by rw[l];exact rel.val k);exact wpAny_getItem_of (v8 ry) dd.mapOf hw (h w' _ (I.tok _) rw')
 ·subst ey;cases(show u=Value.ref b from ry);obtain⟨z,hd,xs,rel,dd⟩:=Aa I.hok e;obtain⟨w',hw,rw'⟩:=rC.some_of (v:=v) (o:=(atKey xs k).map (·.2)) (by rw[l];exact rel.val k);obtain⟨p,hp,hp2⟩:=Option.map_eq_some_iff.mp hw;refine wpAny_getItem_heap (tupleKind_room_in1 hu) (uE I.hok eb) dd hp ?_;rw[hp2];exact h w' _ (I.tok _) rw'
theorem C7{Q:bX}(hu:A.units+1<Sl)(I:Inv X pins σ H s)(g:xZ H a y o)(ry:RelV y u)(h:∀s',Inv X pins σ H s'->Q (.bool (!o.isSome)) s'):
  RY (model X.prog X.w) A (R3 .NotIn u (.ref a)) Q E s:=by
 rcases g with⟨kvs,k,e,ey,l⟩|⟨kvs,k,b,e,ey,eb,l⟩
 ·subst ey;obtain⟨z,hd,vs,rel,dd⟩:=vE I.hok e;refine wpAny_notIn_of (v8 ry) hd dd.mapOf ?_;rw[<-(rel.val k).isSome_eq,<-l];exact h _ (I.tok _)
 ·subst ey;cases(show u=Value.ref b from ry);obtain⟨z,hd,xs,rel,dd⟩:=Aa I.hok e;refine wpAny_notIn_heap (tupleKind_room_in1 hu) (uE I.hok eb) hd dd ?_;have q:=(rel.val k).isSome_eq;rw[Option.isSome_map]at q;rw[<-q,<-l];exact h _ (I.tok _)
theorem rL{h':RP}{t':Nat}{ob:HO}(I:Inv X pins σ H s)(mu:Hl (H a))(hs:Rn a s.heap h')(he:∃q,h'.get? a=some q)(new:dr X.prog X.w (upd H a ob) h' a ob):
  Inv X pins σ (upd H a ob) {s with heap:=h',toks:=t'}:=
 I.write (x:=a) (e:=a) mu (.inl rfl) (λb q hb z=>(hs.2 b hb).trans z) he new
theorem EE{P:RN}{w:RM}{H':Hp}{h':RP}{kvs:List (Key×V)}{vs:List (Key×RF)}(z:kvs.length<=RQ)(hd:(a==sysModules)=false)(rel:KV kvs vs)(dd:h'.DictOf (dq P w) a vs):
  dr P w H' h' a (.dK kvs):=⟨z,hd,vs,rel,dd⟩
end
noncomputable def GQ(i:RJ):Prop:=∀ov iv,subscripted i false ov iv=operate [ov,iv] (getItem ov iv)
theorem CG{prog:RN}{w:RM}{A:RV}{E:bX}{s:RL}{env:Env}{value slice:RJ}{pos:Pos}{T id:String}{Q:bX}
  (hl:typeLookup (.type T) "__getitem__"=pure (some (.builtin id))) (hs:GQ slice)
  (h:RY (model prog w) A (eval value env) (λo s₁=>RY (model prog w) A (eval slice env) (λi s₂=>s₂.TypeIs o T/\RY (model prog w) A (getItem o i) Q E s₂) E s₁) E s):
  RY (model prog w) A (eval (.Subscript value slice pos) env) Q E s:=by
 refine Subscript_ (R0 h (λo s₁ h₁=>R0 h₁ (λi s₂ h₂=>?_) λ_ _ x=>x) λ_ _ x=>x);obtain⟨hT,h₂⟩:=h₂;unfold subscriptTail;refine R8 ?_;rw[getitemInPython_of_ne hT.not_modules];refine R8 (wpAny_specialOf hT hl ?_);have fin:RY (model prog w) A (subscripted slice false o i) (λr s₃=>RY (model prog w) A (letTemporaryGo value o r >>= λ_=>pure r) Q E s₃) E s₂:=by
  rw[hs o i];exact wpAny_operating (R0 h₂ (λr s₃ h₃=>R8 (wpAny_letTemporaryGo (R7 h₃))) λ_ _ x=>x)
 first
  |exact R7 (R8 fin)
  |exact R8 (R7 (R8 fin))
  |exact R8 fin
theorem ui{X:Cx}{pins:bc}{σ:St}{H:Hp}{s:RL}{a:RH}{y:V}{o:Option V}(I:Inv X pins σ H s)(g:xZ H a y o):s.TypeIs (.ref a) "dict":=by
 rcases g with⟨kvs,k,e,_,_⟩|⟨kvs,k,b,e,_,_,_⟩
 ·obtain⟨_,_,vs,_,dd⟩:=vE I.hok e;exact dd.typeIs
 ·obtain⟨_,_,xs,_,dd⟩:=Aa I.hok e;exact dd.typeIs
noncomputable def HB(td ty:TE):TE:=λσ H Q=>td σ H λx H1=>ty σ H1 λy H2=>∃a v,x=.ref a/\xZ H2 a y (some v)/\Q v H2
section
variable{X:Cx}{o i e value:RJ}{pos pos' tpos:Pos}{td ty tv:TE}
theorem CV(hu:X.A.units+1<Sl)(ho:PE X o td)(hi:PE X i ty)(hs:GQ i):PE X (.Subscript o i pos) (HB td ty):=by
 intro pins s σ H Q I h;refine CG PySem.F.slot_dict_getitem.lookup hs (cD (ho pins s σ H _ I h) λu s1 ⟨x,H1,I1,rx,q1⟩=>cD (hi pins s1 σ H1 _ I1 q1) λiv s2 ⟨y,H2,I2,ry,a,v,ex,g,q2⟩=>?_);subst ex;obtain rfl:u=Value.ref a:=rx;exact⟨ui I2 g,xB hu I2 g ry λw' s3 I3 rw'=>⟨v,H2,I3,rw',q2⟩⟩
end
theorem yK{P:RN}{w:RM}{H:Hp}(h:RP)(hb:sysModules<h.objs.size):dr P w H (h.push {cls:=.type "dict",data:=.dict #[]}) h.objs.size (.dK []):=
 ⟨OL _,beq_eq_false_iff_ne.mpr (Ne.symm (Ol hb)),[],.nil,Heap.DictOf.new h⟩
noncomputable def rB:List (TE×TE)->St->Hp->(List (V×V)->Hp->Prop)->Prop
 |[],_,H,Q=>Q [] H
 |(tk,tv)::r,σ,H,Q=>tk σ H λx H1=>tv σ H1 λy H2=>rB r σ H2 λps H3=>Q ((x,y)::ps) H3
noncomputable abbrev VV:List (V×V)->List (RF×RF)->Prop:=RO λp q=>RelV p.1 q.1/\RelV p.2 q.2
noncomputable def G9(X:Cx)(pos:Pos)(keys:List (Option RJ))(values:aZ)(trs:List (TE×TE)):Prop:=
 ∀(pins:bc)(s:RL)(σ:St)(H:Hp)(Q:List (V×V)->Hp->Prop),Inv X pins σ H s->rB trs σ H Q->
  RY (model X.prog X.w) X.A (evalPairs (pairTrees keys values X.env pos)) (λvs s'=>∃ps H',Inv X pins σ H' s'/\VV ps vs/\Q ps H') X.xe s
theorem oj{X:Cx}{pos:Pos}:G9 X pos [] [] []:=λpins s σ H Q I h=>pairTrees_nil_walk ⟨[],H,I,.nil,h⟩
theorem gx{X:Cx}{pos:Pos}{k v:RJ}{ks:List (Option RJ)}{vs:aZ}{tk tv:TE}{trs:List (TE×TE)}(hk:PE X k tk)(hv:PE X v tv)(hr:G9 X pos ks vs trs):
  G9 X pos (some k::ks) (v::vs) ((tk,tv)::trs):=λpins s σ H Q I h=>
 pairTrees_cons_walk (cD (hk pins s σ H _ I h) λu s1 ⟨x,H1,I1,rx,q1⟩=>cD (hv pins s1 σ H1 _ I1 q1) λw2 s2 ⟨y,H2,I2,ry,q2⟩=>
  cD (hr pins s2 σ H2 _ I2 q2) λws s3 ⟨ps,H3,I3,rel,q3⟩=>⟨(x,y)::ps,H3,I3,.cons ⟨rx,ry⟩ rel,q3⟩)
noncomputable def iL(kvs more:List (Key×V)):List (Key×V):=more.foldl (λacc kv=>putK acc kv.1 kv.2) kvs
theorem KV.merge:∀{more:List (Key×V)}{rs:List (Key×RF)}{kvs:List (Key×V)}{vs:List (Key×RF)},KV more rs->KV kvs vs->KV (iL kvs more) (merged vs rs):=by
 intro more rs kvs vs r;unfold KV at r
 induction r generalizing kvs vs with
 |nil=>intro q;exact q
 |@cons p q ps qs h t ih=>
  intro r0;have e:KV (putK kvs p.1 p.2) (stored vs q.1 q.2):=by
   have:=r0.put p.1 h.2
   rw[<-h.1];exact this
  exact ih e
theorem kF:∀(more kvs:List (Key×V)),(iL kvs more).length<=kvs.length+more.length
 |[],kvs=>by show kvs.length<=kvs.length+0;omega
 |p::r,kvs=>by
  have h1:=kF r (putK kvs p.1 p.2);have h2:=tL kvs p.1 p.2;show(iL (putK kvs p.1 p.2) r).length<=_;rw[OG];omega
theorem pj{P:RN}{w:RM}:∀{kvs:List (Key×V)}{ws:List (RF×RF)},VV (kvs.map λkv=>(kV kv.1,kv.2)) ws->∃rs,Carries (dq P w) ws rs/\KV kvs rs
 |[],_,r=>by rw[O3]at r;cases r;exact⟨[],True.intro,.nil⟩
 |p::kvs,_,r=>by
  rw[OH]at r;cases r with
  |@cons a b as bs h t=>
   obtain⟨rs,c,q⟩:=pj (P:=P) (w:=w) t;obtain⟨b1,b2⟩:=b;exact⟨(p.1,b2)::rs,⟨v8 h.1,rfl,c⟩,.cons ⟨rfl,h.2⟩ q⟩
noncomputable def Ii(trs:List (TE×TE)):TE:=λσ H Q=>∀p,H p=none->rB trs σ (upd H p (.dK [])) λps H2=>H2 p=some (.dK [])/\∃kvs:List (Key×V),ps=kvs.map (λkv=>(kV kv.1,kv.2))/\kvs.length<=15/\Q (.ref p) (upd H2 p (.dK (iL [] kvs)))
theorem vY{X:Cx}{pos:Pos}{keys:List (Option RJ)}{values:aZ}{trs:List (TE×TE)}(h:G9 X pos keys values trs)(hall:keys.all (·.isSome)=true)(hl:keys.length=values.length)(h0:keys≠[])
  (h15:keys.length<=15):PE X (.Dict keys values pos) (Ii trs):=by
 intro pins s σ H Q I q;have hn:=I.hok.fresh (Oz s.heap.objs.size);have I1:=I.laid (a:=s.heap.objs.size) (o:=.dK []) (h':=s.heap.push {cls:=.type "dict",data:=.dict #[]}) (t':=s.toks) (λ_ _ q=>Ro _ q) (Oz _) (yK s.heap I.big);refine wpAny_Dict_walk (knd:=dq X.prog X.w) hall hl h0 h15 (cD (h pins _ σ _ _ I1 (q _ hn)) λws s2 ⟨ps,H2,I2,rel,e,kvs,ep,lk,q2⟩=>?_);subst ep;obtain⟨rs,c,rk⟩:=pj (P:=X.prog) (w:=X.w) rel;obtain⟨z,hd,vs0,r0,dd⟩:=Hh I2.hok e;cases r0;refine⟨rs,c,dd,λh' dd' hs=>⟨.ref s.heap.objs.size,_,?_,rfl,q2⟩⟩;have hz:(iL [] kvs).length<=RQ:=by
  have h1:=kF kvs [];rw[O6]at h1;rw[Sf];omega
 have he:∃q,h'.get? s.heap.objs.size=some q:=let ⟨q,_,_,hq,_⟩:=dd';⟨q,hq⟩
 exact rL I2 (by rw[e];exact True.intro) hs he (EE hz hd (rk.merge .nil) dd')
noncomputable def cZ(cells:mH):oS->mH->mH
 |[],acc=>acc
 |(n,k)::r,acc=>if k=.free then(match cells.lookup n with|some c=>cZ cells r ((n,c)::acc)|none=>cZ cells r acc)else cZ cells r acc
theorem kg{cells:mH}:∀(names:oS)(acc:mH),(∀x c,acc.lookup x=some c->cells.lookup x=some c)->
  ∀x c,(cZ cells names acc).lookup x=some c->cells.lookup x=some c
 |[],acc,h=>h
 |(n,k)::r,acc,h=>by
  unfold cZ;by_cases hk:k=.free
  ·rw[if_pos hk];cases e:cells.lookup n with
   |none=>exact kg r acc h
   |some c0=>
    refine kg r _ λx c q=>?_;rw[O9]at q;cases hx:x==n with
    |true=>
     rw[hx]at q;have e1:x=n:=(by simpa using hx);cases q;rw[e1];exact e
    |false=>rw[hx]at q;exact h x c q
  ·rw[if_neg hk];exact kg r acc h
theorem iO{cells:mH}:∀(names:oS)(acc:mH)(x:Str),(acc.lookup x).isSome=true->((cZ cells names acc).lookup x).isSome=true
 |[],acc,x,h=>h
 |(n,k)::r,acc,x,h=>by
  unfold cZ;by_cases hk:k=.free
  ·rw[if_pos hk];cases e:cells.lookup n with
   |none=>exact iO r acc x h
   |some c0=>
    refine iO r _ x ?_;rw[O9];cases hx:x==n with
    |true=>rfl
    |false=>exact h
  ·rw[if_neg hk];exact iO r acc x h
theorem iG{cells:mH}:∀(names:oS)(acc:mH)(x:Str),(x,NameKind.free)∈names->(∃c,cells.lookup x=some c)->((cZ cells names acc).lookup x).isSome=true
 |[],acc,x,h,_=>absurd h (by simp)
 |(n,k)::r,acc,x,h,hc=>by
  unfold cZ;rcases List.mem_cons.mp h with e|h
  ·cases e;rw[if_pos rfl];obtain⟨c,e⟩:=hc;rw[e];refine iO r _ _ ?_;rw[O9];simp
  ·by_cases hk:k=.free
   ·rw[if_pos hk];cases e:cells.lookup n with
    |none=>exact iG r acc x h hc
    |some c0=>exact iG r _ x h hc
   ·rw[if_neg hk];exact iG r acc x h hc
theorem kW{scope:RW}{env:Env}(h:∀p∈scope.names,p.2=.free->∃c,env.cells.lookup p.1=some c):closureFor scope env=pure (cZ env.cells scope.names []):=by
 have go:∀(names:oS)(acc:mH),(∀p∈names,p.2=.free->∃c,env.cells.lookup p.1=some c)->
   (forIn names acc λx cs=>(match x with|(name,kind)=>if(kind==NameKind.free)=true then do let a<-cellOf env name;pure (ForInStep.yield ((name,a)::cs))else pure (ForInStep.yield cs):Sem (ForInStep mH)))=pure (cZ env.cells names acc):=by
  intro names
  induction names with
  |nil=>intro acc _;rfl
  |cons p r ih=>
   intro acc hp;obtain⟨n,k⟩:=p;rw[Pa];by_cases hk:k=.free
   ·obtain⟨c,e⟩:=hp (n,k) Ot hk;subst hk;have e2:cellOf env n=pure c:=(by unfold cellOf;rw[e]);simp only[beq_self_eq_true,if_true,e2,pure_bind];rw[ih _ λq hq=>hp q (Ou _ hq)]
    conv=>rhs;rw[cZ]
    simp[e]
   ·have hb:(k==NameKind.free)=false:=(by simpa using hk);simp only[hb,Pb,if_false,pure_bind];rw[ih _ λq hq=>hp q (Ou _ hq)]
    conv=>rhs;rw[cZ,if_neg hk]
 have:=go scope.names [] h
 unfold closureFor;simp only[];rw[this];rfl
noncomputable def cg(X:Cx)(scope:RW)(N:av)(cl:mH)(C:RH)(fp:az)(s:RL)(H:Hp)(E:bX):Cx where
 prog:=X.prog
 w:=X.w
 K:=X.K
 mg:=X.mg
 base:=X.base
 A:=X.A
 N:=N
 s₀:=s
 H₀:=H
 env:=compEnvC scope cl C X.env
 outer:=X.stack
 stack:=X.stack
 ex:=fp
 fn:=λ_=>false
 calm:=X.calm
 pn:=[]
 xe:=E
noncomputable def se(XN N:av)(names:oS)(ix:fI):Bool:=
 decide (ix.length=N.length)&&(N.zip ix).all λp=>match p.2 with
  |some i=>decide (XN[i]?=some p.1)&&decide (names.lookup p.1=some .free)
  |none=>true
noncomputable def inBlock(ix:fI)(σ:St):St:=ix.map λo=>match o with
 |some i=>(σ[i]?).getD none
 |none=>none
theorem se.len{XN N:av}{names:oS}{ix:fI}(h:se XN N names ix=true):ix.length=N.length:=by
 unfold se at h;rw[O0]at h;exact of_decide_eq_true h.1
theorem se.at_{XN N:av}{names:oS}{ix:fI}(h:se XN N names ix=true){j i:Nat}{x:Str}(h1:N[j]?=some x)(h2:ix[j]?=some (some i)):XN[i]?=some x/\names.lookup x=some .free:=by
 unfold se at h;rw[O0]at h;have hm:(x,some i)∈N.zip ix:=by
  have e:(N.zip ix)[j]?=some (x,some i):=by rw[List.getElem?_zip_eq_some];exact⟨h1,h2⟩
  exact OW e
 have q:=List.all_eq_true.mp h.2 _ hm;simp only[O0]at q;exact⟨of_decide_eq_true q.1,of_decide_eq_true q.2⟩
theorem jj{env:Env}:∀{names:oS}{x:Str}{k:RG},
  (names.map λ(n,k)=>if(k==NameKind.free&&env.scope.kind==.function&&env.kindOf n==some .cell)then(n,NameKind.cell)else(n,k)).lookup x=some k->
  names.lookup x=some k\/(names.lookup x=some .free/\k=.cell)
 |[],_,_,h=>by simp at h
 |(n,k0)::r,x,k,h=>by
  have ih:=@jj env r x k
  replace h:List.lookup x ((if(k0==NameKind.free&&env.scope.kind==.function&&env.kindOf n==some .cell)=true then(n,NameKind.cell)else(n,k0))::(r.map λ(n,k)=>if(k==NameKind.free&&env.scope.kind==.function&&env.kindOf n==some .cell)then(n,NameKind.cell)else(n,k)))=some k:=h
  by_cases hc:(k0==NameKind.free&&env.scope.kind==.function&&env.kindOf n==some .cell)=true
  ·rw[if_pos hc]at h;have hk0:k0=.free:=by
    simp only[O0]at hc
    simpa using hc.1.1
   cases hx:x==n with
   |true=>
    simp only[O9,hx]at h;simp only[O9,hx];cases h;exact .inr ⟨by rw[hk0],rfl⟩
   |false=>
    simp only[O9,hx]at h ⊢;exact ih h
  ·rw[if_neg hc]at h;cases hx:x==n with
   |true=>
    simp only[O9,hx]at h ⊢;exact .inl h
   |false=>
    simp only[O9,hx]at h ⊢;exact ih h
noncomputable def Ff(X:Cx)(ifs:aZ)(t:TT):Prop:=
 ∀(pins:bc)(s:RL)(σ:St)(H:Hp)(Q:Bool->Hp->Prop),Inv X pins σ H s->t σ H Q->
  RY (model X.prog X.w) X.A (forIn ifs true λc r=>if r=true then do let ok<-isTrue c X.env (eval c X.env);pure (ForInStep.yield ok)else pure (ForInStep.yield r)) (TP X pins σ Q) X.xe s
noncomputable def IJ:TT:=λ_ H Q=>Q true H
theorem Ci{X:Cx}:Ff X [] IJ:=λ_ _ _ H _ I h=>wpAny_tests_nil ⟨H,I,h⟩
theorem CP{X:Cx}{c:RJ}{t:TT}(h:PT X c t):Ff X [c] t:=λpins s σ H Q I q=>wpAny_tests_one (h pins s σ H Q I q)
theorem jw{prog:RN}{w:RM}{A:RV}{R:Result->jE}{s:RL}{elt target iter:RJ}{ifs:aZ}{scope:RW}{pos:Pos}{it acc:RF}{env:Env}(I:Nat->jE)
  (turn:∀ n s,I n s->RY (model prog w) A (pyNext it) (fun r s₁=>match r with
   |none=>R (.ok .next) s₁
   |some v=>RY (model prog w) A (letOwnedTupleGo target it v) (λ_ s₁'=>RY (model prog w) A (assign target env v) (λ_ s₂=>
     RY (model prog w) A (forIn ifs true λc r=>if r=true then do let ok<-isTrue c env (eval c env);pure (ForInStep.yield ok)else pure (ForInStep.yield r)) (λok s₃=>
      if ok=true then RY (model prog w) A (eval elt env) (λx s₄=>
       RY (model prog w) A (call (.builtin "list.append") [acc,x]) (λ_ s₅=>∃m,m<n/\I m s₅) (notedBy (model prog w) A env λe s'=>R (.error e) s') s₄) (notedBy (model prog w) A env λe s'=>R (.error e) s') s₃
      else∃m,m<n/\I m s₃) (notedBy (model prog w) A env λe s'=>R (.error e) s') s₂) (notedBy (model prog w) A env λe s'=>R (.error e) s') s₁') (notedBy (model prog w) A env λe s'=>R (.error e) s') s₁) (notedBy (model prog w) A env λe s'=>R (.error e) s') s)
  (n:Nat) (h:I n s):
  Sg (model prog w) A (.compLoop (.ListComp elt [⟨target,iter,ifs,0⟩] scope pos) 0 it acc env) R s:=by
 refine codeAny_loop rfl I (λn s hI=>?_) n h;show RY _ A ((compTurn (.ListComp elt [⟨target,iter,ifs,0⟩] scope pos) 0 it acc env).onRaise (λx=>do noteFrame x env;theTreesLotGoes x)) _ _ s;refine wpAny_noted ?_;rw[compTurn_list];refine R8 (Sw (R8 (R0 (turn n s hI) (λr s₁ h₁=>?_) λ_ _ h'=>h')));cases r with
 |none=>exact R7 h₁
 |some v=>
  refine R8 (R0 h₁ (λ_ s₁' h₁'=>?_) λ_ _ h'=>h');refine R8 (R0 h₁' (λ_ s₂ h₂=>R8 (R0 h₂ (λok s₃ h₃=>?_) λ_ _ h'=>h')) λ_ _ h'=>h');cases ok with
  |false=>exact R7 ⟨rfl,h₃⟩
  |true=>
   exact R8 (R8 (R0 h₃ (λx s₄ h₄=>R8 (R0 h₄ (λ_ s₅ h₅=>R7 (R7 ⟨rfl,h₅⟩)) λ_ _ h'=>h')) λ_ _ h'=>h'))
noncomputable def Jl(wi:TI)(g:TG)(tc:TT)(te:TE)(ix:fI):TE:=λσ H Q=>
 wi σ H λJ H1=>∀D,H1 D=none->∃W:Nat->Nat->St->Hp->Prop,(∃m,W 0 m (inBlock ix σ) (upd H1 D (.lst [])))/\
  ∀i m σ' H',W i m σ' H'->(J.stop i H'/\Q (.ref D) H') \/
   (J.go i H'/\∀ x H2,J.yld i H' x H2->g x σ' H2 fun σ3 H3=>tc σ3 H3 fun b H4 =>
    if b=true then te σ3 H4 λv H5=>∃acc,H5 D=some (.lst acc)/\acc.length<RQ/\∃m',m'<m/\W (i+1) m' σ3 (upd H5 D (.lst (acc++[v])))
    else∃m',m'<m/\W (i+1) m' σ3 H4)
section
variable{X:Cx}{elt tg iter:RJ}{ifs:aZ}{scope:RW}{pos:Pos}{N:av}{ix:fI}{wi:TI}{g:TG}{tc:TT}{te:TE}
theorem o8{pins:bc}{σ:St}{s2:RL}{H2:Hp}{it:RH}{fp:az}{tn:Nat->RP->Prop}{J:It}{Q:V->Hp->Prop}{E:bX}{RR:RF->RH->Result->jE}
    (hc:X.calm=true) (hcell:∀y∈scope.names,y.2≠.cell) (hkind:scope.kind=.function)
    (hfr:∀y∈scope.names,y.2=.free->X.env.scope.names.lookup y.1=some .cell\/X.env.scope.names.lookup y.1=some .free)
    (hix:se X.N N scope.names ix=true)
    (hb:∀cl C fp s H E,PG (cg X scope N cl C fp s H E) tg g/\Ff (cg X scope N cl C fp s H E) ifs tc/\PE (cg X scope N cl C fp s H E) elt te)
    (I2:Inv X pins σ H2 s2) (T:Turn X.prog X.w X.K tg J fp it tn) (st2:tn 0 s2.heap) (f2:∀b∈fp,pQ X pins H2 b)
    (q:∀ D,H2 D=none->∃ W:Nat->Nat->St->Hp->Prop,(∃ m,W 0 m (inBlock ix σ) (upd H2 D (.lst []))) /\
      ∀i m σ' H',W i m σ' H'->(J.stop i H'/\Q (.ref D) H') \/
        (J.go i H'/\∀ x H3,J.yld i H' x H3->g x σ' H3 fun σ3 H3=>tc σ3 H3 fun b H4 =>
          if b=true then te σ3 H4 λv H5=>∃acc,H5 D=some (.lst acc)/\acc.length<RQ/\∃m',m'<m/\W (i+1) m' σ3 (upd H5 D (.lst (acc++[v])))
          else∃m',m'<m/\W (i+1) m' σ3 H4))
    (hRR:∀D C H' s' m,H2 D=none->s2.heap.objs.size<=C->H' C=none->s'.heap.Ns C m->(∀h',Rn C s'.heap h'->Inv X pins σ H' {s' with heap:=h'})->Q (.ref D) H'->RR (.ref D) C (.ok .next) s'):
    RY (model X.prog X.w) X.A (newList []) (λacc s₃=>RY (model X.prog X.w) X.A (newFunctionEnv scope X.env.globals (cZ X.env.cells scope.names []) [] X.env.qual none .none (some X.env)) (λcenv s₄=>
      Sg (model X.prog X.w) X.A (.compStart (.ListComp elt [⟨tg,iter,ifs,0⟩] scope pos) 0 (.ref it) acc {cenv with scope:=relabel scope X.env}) (RR acc cenv.locals) s₄) E s₃) E s2:=by
  refine SJ (wpAny_newFunctionEnv hcell (by intro y hy;simp at hy) (λh₁ hns₁ hsb₁=>?_) hkind);dsimp only at hns₁ hsb₁ ⊢;have I3:Inv X pins σ (upd H2 s2.heap.objs.size (.lst [])) {s2 with heap:=s2.heap.push {cls:=.type "list",dict:=none,data:=.seq ([]:bb).toArray},toks:=s2.toks}:=I2.lnew (its:=[]) (t':=s2.toks) .nil (OL _);generalize hs3:({s2 with heap:=s2.heap.push {cls:=.type "list",dict:=none,data:=.seq ([]:bb).toArray},toks:=s2.toks}:RL)=s3 at I3;have eh3:s2.heap.push {cls:=.type "list",dict:=none,data:=.seq ([]:bb).toArray}=s3.heap:=by rw[<-hs3]
  rw[eh3]at hns₁ hsb₁ ⊢;have hC3:s3.heap.objs.size=s2.heap.objs.size+1:=by rw[<-eh3,Rq]
  have hD:H2 s2.heap.objs.size=none:=I2.fresh;obtain⟨W,⟨m0,w0⟩,turn⟩:=q s2.heap.objs.size hD;generalize hH3:upd H2 s2.heap.objs.size (.lst [])=H3 at I3 w0;have old:∀b o,s3.heap.get? b=some o->h₁.get? b=some o:=λb o e=>hsb₁.extBut b o (Ol (Rm e)) (Ro _ e);have fpH3:∀b∈fp,H3 b=none:=λb hb'=>by
    rw[<-hH3,aK]
    ·exact(f2 b hb').1
    · obtain⟨o,e,_⟩:=T.obj _ _ st2 b hb'
      exact Ol (Rm e)
  have fpLt:∀b∈fp,b<s3.heap.objs.size:=λb hb'=>by
    obtain⟨o,e,_⟩:=T.obj _ _ st2 b hb';rw[hC3];exact Nat.lt_succ_of_lt (Rm e)
  have hfree:∀p∈scope.names,p.2=.free->∃c,X.env.cells.lookup p.1=some c:=λp hp hk=>I2.ok.has p.1 (hfr p hp hk);have csub:∀x c,(cZ X.env.cells scope.names []).lookup x=some c->X.env.cells.lookup x=some c:=kg scope.names [] (λx c e=>by simp at e);have names':∀x k,(relabel scope X.env).names.lookup x=some k->scope.names.lookup x=some k\/(scope.names.lookup x=some .free/\k=.cell):=λx k h=>jj h;have ok:(cg X scope N (cZ X.env.cells scope.names []) s3.heap.objs.size fp s3 H3 (notedBy (model X.prog X.w) X.A (compEnvC scope (cZ X.env.cells scope.names []) s3.heap.objs.size X.env) λe s'=>RR (.ref s2.heap.objs.size) s3.heap.objs.size (.error e) s')).Ok:=
    { mod:=I3.ok.mod
      kind:=hkind
      glob:=I3.ok.glob
      blt:=I3.ok.blt
      above:=Oz _
      inj:=λx y c h1 h2=>I3.ok.inj x y c (csub x c h1) (csub y c h2)
      has:=λx hx=>by
        have fr:scope.names.lookup x=some .free:=by
          rcases hx with hx|hx
          · rcases names' x .cell hx with h|⟨h,_⟩
            ·exact absurd rfl (hcell _ (PySem.mem_of_lookup h))
            ·exact h
          · rcases names' x .free hx with h|⟨_,h⟩
            ·exact h
            ·cases h
        have hm:=PySem.mem_of_lookup fr;exact Option.isSome_iff_exists.mp (iG scope.names [] x hm (hfree _ hm rfl))
      cab:=λx c h _=>by cases h
      hd:=I3.ok.hd
      frames:=I3.ok.frames
      stk:=.inl rfl
      exf:=λb hb'=>⟨Ol (fpLt b hb'),λx c e=>(f2 b hb').2.2.2.2.1 x c (csub x c e)⟩
      bs:=λb o e=>I3.bs b o e
      bsz:=Om I3.ok.bsz I3.sz
      noex:=λb o e hb'=>by
        obtain⟨_,_,_,h4,_⟩:=f2 b hb';rcases h4 with h4|h4
        ·exact I3.ok.noex b o e h4
        ·exact absurd (Oi (Rm (I3.ok.bs b o e).1) h4) (Oj _)
      exfs:=λb hb' hs=>by
        obtain⟨_,h2,h3,_⟩:=f2 b hb';rcases List.mem_cons.mp (I3.stkSub b hs)with e|e
        ·exact h2 e
        ·exact h3 e
      funs:=I3.stack
      frf:=λb hb'=>I3.stkFree b hb'}
  generalize hE:(notedBy (model X.prog X.w) X.A (compEnvC scope (cZ X.env.cells scope.names []) s3.heap.objs.size X.env) λe s'=>RR (.ref s2.heap.objs.size) s3.heap.objs.size (.error e) s')=E' at ok;obtain⟨hg,htc,hel⟩:=hb (cZ X.env.cells scope.names []) s3.heap.objs.size fp s3 H3 E';have Istart:∀tk,Inv (cg X scope N (cZ X.env.cells scope.names []) s3.heap.objs.size fp s3 H3 E') [] (inBlock ix σ) H3 {s3 with heap:=h₁,toks:=tk}:=λtk=>by
    refine⟨ok,rfl,I3.bare,Un.kept old,⟨_,hns₁,λj x v e1 e2 _=>?_⟩,λx c e=>?_,I3.fresh,λx c e=>I3.freeC x c (csub x c e),λp hp=>absurd (show p∈([]:bc)from hp) (by simp),I3.hok.kept old,?_⟩
    ·
      unfold inBlock at e2;rw[OV]at e2;cases q1:ix[j]? with
      |none=>rw[q1]at e2;simp at e2
      |some o=>
        rw[q1]at e2;cases o with
        |none=>simp at e2
        |some i=>
          obtain⟨n1,n2⟩:=se.at_ hix e1 q1;have e2':(σ[i]?).getD none=some v:=Option.some.inj e2;have e3:σ[i]?=some (some v):=by
            cases q2:σ[i]? with
            |none=>rw[q2]at e2';simp at e2'
            |some o2=>rw[q2]at e2';simpa using e2'
          obtain⟨m,hn,hl⟩:=I3.loc;have hm:=PySem.mem_of_lookup n2;have hk:=hfr _ hm rfl;have hv:Ha X.env.scope x:=by
            rcases hk with hk|hk
            ·exact .inr (.inl hk)
            ·exact .inr (.inr hk)
          obtain⟨u,r,l⟩:=hl i x v n1 e3 hv;refine⟨u,r,.inr ?_⟩;rcases l with⟨kl,_⟩|⟨_,c,hcx,hcell'⟩
          · have kl':X.env.scope.names.lookup x=some .local:=kl
            rcases hk with hk|hk
            ·rw[kl']at hk;cases hk
            ·rw[kl']at hk;cases hk
          · obtain⟨c',hc'⟩:=Option.isSome_iff_exists.mp (iG (cells:=X.env.cells) scope.names [] x hm ⟨c,hcx⟩)
            have ec:c'=c:=Option.some.inj ((csub x c' hc').symm.trans hcx);subst ec;refine⟨?_,c',hc',?_⟩
            ·
              show(relabel scope X.env).names.lookup x=some .cell\/(relabel scope X.env).names.lookup x=some .free;have gen:∀names:oS,names.lookup x=some .free->((names.map λ(n,k)=>if(k==NameKind.free&&X.env.scope.kind==.function&&X.env.kindOf n==some .cell)then(n,NameKind.cell)else(n,k)).lookup x=some .cell\/(names.map λ(n,k)=>if(k==NameKind.free&&X.env.scope.kind==.function&&X.env.kindOf n==some .cell)then(n,NameKind.cell)else(n,k)).lookup x=some .free):=by
                intro names
                induction names with
                |nil=>intro h;simp at h
                |cons p r ih=>
                  obtain⟨n,k⟩:=p;intro h;show List.lookup x ((if(k==NameKind.free&&X.env.scope.kind==.function&&X.env.kindOf n==some .cell)=true then(n,NameKind.cell)else(n,k))::_)=_\/List.lookup x ((if(k==NameKind.free&&X.env.scope.kind==.function&&X.env.kindOf n==some .cell)=true then(n,NameKind.cell)else(n,k))::_)=_;cases hx:x==n with
                  |true=>
                    simp only[O9,hx]at h;by_cases hcc:(k==NameKind.free&&X.env.scope.kind==.function&&X.env.kindOf n==some .cell)=true
                    ·rw[if_pos hcc];left;simp only[O9,hx]
                    ·rw[if_neg hcc];right;simp only[O9,hx];exact h
                  |false=>
                    simp only[O9,hx]at h;by_cases hcc:(k==NameKind.free&&X.env.scope.kind==.function&&X.env.kindOf n==some .cell)=true
                    ·rw[if_pos hcc];simp only[O9,hx];exact ih h
                    ·rw[if_neg hcc];simp only[O9,hx];exact ih h
              exact gen scope.names n2
            ·exact hcell'.keeps old
    · obtain⟨v,z⟩:=I3.cell x c (csub x c e)
      exact⟨v,z.keeps old⟩
    · show(inBlock ix σ).length=N.length
      unfold inBlock;rw[OI];exact se.len hix
  have stat:∀{H':Hp},(∀b∈fp,H' b=none)->∀b∈fp,pQ (cg X scope N (cZ X.env.cells scope.names []) s3.heap.objs.size fp s3 H3 E') [] H' b:=λhn b hb'=>
    ⟨hn b hb',(ok.exf b hb').1,ok.exfs b hb',.inl hb',(ok.exf b hb').2,λp hp=>absurd (show p∈([]:bc)from hp) (by simp)⟩
  have tn1:tn 0 h₁:=T.keep _ _ _ st2 λb hb' o e=>old b o (by rw[<-eh3];exact Ro _ e);have loop:∀tk,Sg (model X.prog X.w) X.A (.compLoop (.ListComp elt [⟨tg,iter,ifs,0⟩] scope pos) 0 (.ref it) (.ref s2.heap.objs.size) (compEnvC scope (cZ X.env.cells scope.names []) s3.heap.objs.size X.env))
      (RR (.ref s2.heap.objs.size) s3.heap.objs.size) {s3 with heap:=h₁,toks:=tk}:=by
    intro tk;refine jw (λn s'=>∃i σ' H',Inv (cg X scope N (cZ X.env.cells scope.names []) s3.heap.objs.size fp s3 H3 E') [] σ' H' s'/\tn i s'.heap/\(∀b∈fp,H' b=none)/\W i n σ' H') ?_ m0 ⟨0,_,_,Istart tk,tn1,fpH3,w0⟩;rintro n s5 ⟨i,σ5,H5,I5,st5,fr5,w5⟩;rw[hE];rcases turn i n σ5 H5 w5 with⟨stop,qn⟩|⟨go,step⟩
    · refine cD (T.done (cg X scope N (cZ X.env.cells scope.names []) s3.heap.objs.size fp s3 H3 E') rfl rfl rfl hc i [] s5 σ5 H5 _ I5 (stat fr5) st5 stop) λr s6 ⟨hr,I6⟩=>?_
      subst hr;obtain⟨m6,hn6,_⟩:=I6.loc;refine hRR s2.heap.objs.size s3.heap.objs.size H5 s6 m6 hD (by rw[hC3];exact Nat.le_succ _) I6.free hn6 (λh' sb=>?_) qn;have ne:∀b o,s3.heap.get? b=some o->b≠s3.heap.objs.size:=λb o e=>Ol (Rm e);refine I3.call' (s':={s6 with heap:=h'}) (H':=H5) (ch:=fp) I6.os ⟨λb o e n hb' hx=>?_,λb o e n hb' hx=>?_,λb o e n hx=>?_,λb o e hx=>?_,I6.base.tups,I6.base.frzs,I6.base.tbls⟩ ?_ I6.bare λb hb'=>?_
      ·exact(sb.2 b (ne b o e)).trans (I6.base.keep b o e n hb' hx)
      · obtain⟨sl,e1⟩:=I6.base.slot b o e n hb' hx
        exact⟨sl,(sb.2 b (ne b o e)).trans e1⟩
      ·exact I6.base.free b o e n hx
      · obtain⟨o',e1⟩:=I6.base.there b o e hx
        exact⟨o',(sb.2 b (ne b o e)).trans e1⟩
      · intro b ob e
        have hfreeC:H5 s3.heap.objs.size=none:=I6.free;refine(I6.hok b ob e).stay (λc v hcc q=>(sb.2 c ?_).trans q) (λ_ q=>q) λ_ _ q=>q;rintro rfl;rcases hcc with rfl|hcc
        ·rw[hfreeC]at e;cases e
        ·rw[hfreeC]at hcc;cases hcc
      · obtain⟨_,h2',_,h4',h5',h6'⟩:=f2 b hb'
        exact⟨h4',h2',h5',h6'⟩
    · refine cD (T.item (cg X scope N (cZ X.env.cells scope.names []) s3.heap.objs.size fp s3 H3 E') rfl rfl rfl hc i [] s5 σ5 H5 _ I5 (stat fr5) st5 go) λr s6 ⟨u,hr,h6⟩=>?_
      subst hr;refine cD h6 λ_ s7 ⟨x,H7,I7,r7,y7,st7,fr7⟩=>?_;have I7':=I7.pinned (stat fr7) (T.obj _ _ st7);refine cD (hg _ s7 σ5 H7 x u _ I7' r7 (step x H7 y7)) λ_ s8 ⟨σ8,H8,I8,q8⟩=>?_;refine cD (htc _ s8 σ8 H8 _ I8 q8) λb s9 ⟨H9,I9,q9⟩=>?_;have again:∀{σ':St}{H':Hp}{s':RL}{m':Nat},Inv (cg X scope N (cZ X.env.cells scope.names []) s3.heap.objs.size fp s3 H3 E') ([]++o9 fp s7.heap) σ' H' s'->m'<n->W (i+1) m' σ' H'->
          ∃m,m<n/\∃i σ' H',Inv (cg X scope N (cZ X.env.cells scope.names []) s3.heap.objs.size fp s3 H3 E') [] σ' H' s'/\tn i s'.heap/\(∀b∈fp,H' b=none)/\W i m σ' H':=λ{σ' H' s' m'} I' hm w'=>by
        refine⟨m',hm,i+1,σ',H',I'.unpinned,T.keep _ _ _ st7 λb hb' o e=>(I'.pin (b,o) (OA _ (OA _ (iH hb' e)))).1,λb hb'=>?_,w'⟩;obtain⟨o,e,d⟩:=T.obj _ _ st7 b hb';exact(I'.pin (b,o) (OA _ (OA _ (iH hb' e)))).2.1
      cases b with
      |false=>
        rw[if_neg OD]at q9 ⊢;obtain⟨m',hm,w9⟩:=q9;exact again I9 hm w9
      |true=>
        rw[if_pos rfl]at q9 ⊢;refine cD (hel _ s9 σ8 H9 _ I9 q9) λy s10 ⟨v,H10,I10,r10,q10⟩=>?_;obtain⟨acc,ha,hz,m',hm,w10⟩:=q10;refine cD (qt _ s10 σ8 H10 (.ref s2.heap.objs.size) [v] (.ref s2.heap.objs.size) [y] (λ_ H'=>H'=upd H10 s2.heap.objs.size (.lst (acc++[v]))) I10 rfl (.cons r10 .nil) ⟨_,acc,v,rfl,rfl,ha,hz,rfl⟩) λ_ s11 ⟨_,H11,I11,_,Hf⟩=>?_;subst Hf;exact again I11 hm w10
  subst hs3;exact codeAny_compStart_list (loop _) (T.self _ 0 _ _ _ tn1 (loop _))
theorem D8(hc:X.calm=true)(hcell:∀y∈scope.names,y.2≠.cell)(hkind:scope.kind=.function)(hnames:∀y∈scope.names,y.2=.local->scope.names.lookup y.1=some .local)
  (hfr:∀y∈scope.names,y.2=.free->X.env.scope.names.lookup y.1=some .cell\/X.env.scope.names.lookup y.1=some .free)
  (hix:se X.N N scope.names ix=true) (hi:PI X tg iter wi)
  (hb:∀cl C fp s H E,PG (cg X scope N cl C fp s H E) tg g/\Ff (cg X scope N cl C fp s H E) ifs tc/\PE (cg X scope N cl C fp s H E) elt te)
  (hs:∀x,Sb iter X.env x=pure x:=by intro _;rfl):PE X (.ListComp elt [⟨tg,iter,ifs,0⟩] scope pos) (Jl wi g tc te ix):=by
 intro pins s σ H Q I h;rw[eval_ListComp];refine SK (use:=none) rfl hs (kW λp hp hk=>I.ok.has p.1 (hfr p hp hk)) hkind hnames (cD (hi pins s σ H _ I h) λv s1 h1=>cD h1 λitv s2 h2=>?_);obtain⟨it,fp,tn,J,H2,e,I2,T,st2,f2,q⟩:=h2;subst e;refine o8 (Q:=Q) (RR:=λacc C=>compPost (model X.prog X.w) X.A X.xe none (EP X pins σ Q) acc C) hc hcell hkind hfr hix hb I2 T st2 f2 q ?_;intro D C H' s' m _ _ _ hn hI hq;exact⟨m,hn,λh' sb=>⟨.ref D,H',hI h' sb,rfl,hq⟩⟩
theorem DT{i:Nat}{y:Str}{py spos:Pos}(hN:X.N.Nodup)(hi':X.N[i]?=some y)(hx:Loc X.env.scope y)
  (hc:X.calm=true) (hcell:∀y∈scope.names,y.2≠.cell) (hkind:scope.kind=.function) (hnames:∀y∈scope.names,y.2=.local->scope.names.lookup y.1=some .local)
  (hfr:∀y∈scope.names,y.2=.free->X.env.scope.names.lookup y.1=some .cell\/X.env.scope.names.lookup y.1=some .free)
  (hix:se X.N N scope.names ix=true) (hi:PI X tg iter wi)
  (hb:∀cl C fp s H E,PG (cg X scope N cl C fp s H E) tg g/\Ff (cg X scope N cl C fp s H E) ifs tc/\PE (cg X scope N cl C fp s H E) elt te)
  (hsw:swapsWith (.ListComp elt [⟨tg,iter,ifs,0⟩] scope pos) (some (.Name y py)) spos.line X.env=pure true:=by rfl)
  (hs:∀x,Sb iter X.env x=pure x:=by intro _;rfl)
  (hf:X.fn y=true\/X.env.scope.names.lookup y=some .local:=by first|exact .inl rfl|exact .inr rfl|assumption):
  PS X (.Assign [.Name y py] (.ListComp elt [⟨tg,iter,ifs,0⟩] scope pos) spos) (yS (Jl wi g tc te ix) (qB i)):=by
 intro pins s σ H D0 I h;rw[exec_Assign_Name_used _ _ _ _ hsw];refine R8 (Sw (R8 ?_));show RY _ X.A (do let _<-comprehension (.ListComp elt [⟨tg,iter,ifs,0⟩] scope pos) scope X.env _ (newList []) false (eval iter X.env) (some (assign (.Name y py) X.env))) _ _ s;refine R8 (cD (SK (use:=some (assign (.Name y py) X.env)) (Q:=λ_ s'=>SP X pins D0 .next s') rfl hs (kW λp hp hk=>I.ok.has p.1 (hfr p hp hk)) hkind hnames
  (cD (hi pins s σ H _ I h) λv s1 h1=>cD h1 λitv s2 h2=>?_)) λ_ s' hq=>R7 (R7 hq))
 obtain⟨it,fp,tn,J,H2,e,I2,T,st2,f2,q⟩:=h2;subst e;refine o8 (Q:=λv H'=>qB i v σ H' D0.nx) (RR:=λacc C=>compPost (model X.prog X.w) X.A X.xe (some (assign (.Name y py) X.env)) (λ_ s'=>SP X pins D0 .next s') acc C) hc hcell hkind hfr hix hb I2 T st2 f2 q ?_;intro D C H' s' m _ hC hfree hn hI hq;have I':Inv X pins σ H' s':=hI s'.heap (.refl ..);have nL:C≠X.env.locals:=Oy (Oi I2.lt hC);have nC:∀x c,X.env.cells.lookup x=some c->c≠C:=λx c e z=>by
  obtain⟨v,q⟩:=I2.cell x c e;exact absurd (Oi q.lt (by rw[z];exact hC)) (Oj _)
 have nP:∀p∈X.pn++pins,p.1≠C:=λp hp z=>absurd (Oi (Rm (I2.pin p hp).1) (by rw[z];exact hC)) (Oj _);show RY _ X.A (assign (.Name y py) X.env (.ref D)) _ _ _;refine wpAny_assign_Name (rd I' hN hi' hx (v:=.ref D) rfl (λs'' I'' ch=>?_) hf);obtain⟨a,sb,ha⟩:=ch;have hCa:C≠a:=by
  rcases ha with ha|ha
  ·rw[ha];exact nL
  ·exact Ne.symm (nC y a ha)
 refine⟨m,hn.sameBut sb hCa,λh' sb'=>⟨_,H',?_,hq⟩⟩;exact I''.turned (t':=s''.toks) (λb o hb' e=>(sb'.2 b hb').trans e) hfree nL (.inr (Om I2.sz hC)) nC nP
end
end L2
namespace TG
open PySem PySem.Spec
noncomputable def DP{α:Type}:Sem α->Prop
 |.pure _=>True
 |.raise _=>True
 |.unsupported _=>True
 |.finish _=>True
 |.rule _ k=>DP (k ())
 |.at _ k=>DP (k ())
 |.load _ _ k=>∀o,DP (k o)
 |.update _ _ f k=>(∀o,(f o).dict=o.dict)/\DP (k ())
 |.loadIfAlive _ k=>∀o,DP (k o)
 |.point _ k=>DP (k ())
 |.alloc _ k=>∀a,DP (k a)
 |.fresh k=>∀a,DP (k a)
 |.ask k=>∀a,DP (k a)
 |.stack k=>∀a,DP (k a)
 |_=>False
theorem DP.bind{α β:Type}{f:α->Sem β}(hf:∀a,DP (f a)):∀{m:Sem α},DP m->DP (m >>= f):=λ{m} h=>by
 show DP (m.bind f)
 induction m with
 |pure a=>exact hf a
 |raise _=>trivial
 |unsupported _=>trivial
 |finish _=>trivial
 |rule _ k ih=>exact ih () h
 |«at» _ k ih=>exact ih () h
 |load _ _ k ih=>exact λo=>ih o (h o)
 |update _ _ g k ih=>exact⟨h.1,ih () h.2⟩
 |loadIfAlive _ k ih=>exact λo=>ih o (h o)
 |point _ k ih=>exact ih () h
 |alloc _ k ih=>exact λo=>ih o (h o)
 |fresh k ih=>exact λo=>ih o (h o)
 |ask k ih=>exact λo=>ih o (h o)
 |stack k ih=>exact λo=>ih o (h o)
 |_=>exact h.elim
noncomputable def DS(h h':RP):Prop:=∀(a:Nat)(o:Obj),h.objs[a]?=some o->∃o',h'.objs[a]?=some o'/\o'.dict=o.dict
theorem DS.refl(h:RP):DS h h:=λ_ o e=>⟨o,e,rfl⟩
theorem DS.trans{h1 h2 h3:RP}(x:DS h1 h2)(y:DS h2 h3):DS h1 h3:=λa o e=>by
 obtain⟨o1,e1,d1⟩:=x a o e;obtain⟨o2,e2,d2⟩:=y a o1 e1;exact⟨o2,e2,d2.trans d1⟩
theorem tQ{h:RP}{a:RH}{o:Obj}(e:h.get? a=some o):h.objs[a]?=some o:=by
 unfold Heap.get? at e;split at e
 ·cases e
 ·exact e
theorem DS.dict{h h':RP}(x:DS h h'){a:RH}{o o':Obj}(e:h.get? a=some o)(e':h'.get? a=some o'):o'.dict=o.dict:=by
 obtain⟨o1,e1,d1⟩:=x a o (tQ e);rw[tQ e']at e1;cases e1;exact d1
theorem DS.push(h:RP)(o:Obj):DS h (h.push o):=λa u e=>⟨u,by
 show(h.objs.push o)[a]?=_
 have:=(Array.getElem?_eq_some_iff.mp e).1
 rw[Array.getElem?_push,if_neg ‹0›];exact e,rfl⟩
theorem DS.upd(h:RP)(b:RH){f:Obj->Obj}(hf:∀o,(f o).dict=o.dict):DS h (h.update b f):=λa u e=>by
 show∃o',(h.objs.modify b f)[a]?=some o'/\_;rw[Array.getElem?_modify,e];split
 ·exact⟨_,rfl,hf u⟩
 ·exact⟨_,rfl,rfl⟩
theorem DP.wp{α:Type}{M:RX}{Γ:PySem.Ctx}{Q:α->Pos->RL->Prop}{E:RF->Pos->RL->Prop}{t:Sem α}(d:DP t){p:Pos}{s:RL}(h:Sem.wp M Γ t Q E p s):Sem.wp M Γ t (λa p' s'=>Q a p' s'/\DS s.heap s'.heap) (λa p' s'=>E a p' s'/\DS s.heap s'.heap) p s:=by
 have go:∀(h0:RP)(p:Pos)(s:RL),DS h0 s.heap->Sem.wp M Γ t Q E p s->Sem.wp M Γ t (λa p' s'=>Q a p' s'/\DS h0 s'.heap) (λa p' s'=>E a p' s'/\DS h0 s'.heap) p s:=by
  intro h0;clear h
  induction t with
  |pure a=>exact λp s z h=>⟨h,z⟩
  |raise a=>exact λp s z h=>⟨h,z⟩
  |unsupported _=>exact λp s z h=>h
  |finish _=>exact λp s z h=>h
  |rule _ k ih=>exact λp s z h=>ih () d p s z h
  |«at» q k ih=>exact λp s z h=>ih () d q s z h
  |load a _ k ih=>exact λp s z h=>let ⟨o,ho,h⟩:=h;⟨o,ho,ih o (d o) p s z h⟩
  |update a _ f k ih=>exact λp s z h=>⟨h.1,ih () d.2 p _ (z.trans (DS.upd _ a d.1)) h.2⟩
  |loadIfAlive a k ih=>exact λp s z h=>ih _ (d _) p s z h
  |point _ k ih=>exact λp s z h=>ih () d p s z h
  |alloc o k ih=>exact λp s z h=>ih _ (d _) p _ (z.trans (DS.push _ o)) h
  |fresh k ih=>exact λp s z h=>ih _ (d _) p _ z h
  |ask k ih=>exact λp s z h=>ih _ (d _) p _ z h
  |stack k ih=>exact λp s z h=>ih _ (d _) p _ z h
  |_=>exact d.elim
 exact go s.heap p s (DS.refl _) h
theorem DP.any{α:Type}{M:RX}{A:RV}{Q:α->RL->Prop}{E:RF->RL->Prop}{t:Sem α}{s:RL}(d:DP t)(h:RY M A t Q E s):RY M A t (λa s'=>Q a s'/\DS s.heap s'.heap) E s:=λΓ p hi=>Sem.wp_mono _ _ _ (λ_ _ _ x=>x) (λ_ _ _ x=>x.1) _ _ (d.wp (h Γ p hi))
theorem DP.go{M:RX}{A:RV}{Q:Unit->RL->Prop}{E:RF->RL->Prop}{t:Sem Unit}{s:RL}{P:RP->Prop}(d:DP t)(h:RY M A t (λ_ s'=>∃h',s'={s with heap:=h'}/\P h') E s)(k:∀h',P h'->DS s.heap h'->Q () {s with heap:=h'}):RY M A t Q E s:=R0 (d.any h) (λ_ s' z=>by
 obtain⟨⟨h',rfl,p⟩,ds⟩:=z;exact k h' p ds) λ_ _ z=>z
theorem lH(v:RF)(i:Nat):DP (field v i):=by
 unfold field fieldsOf;cases v with
 |ref a=>
  refine DP.bind (λxs=>?_) ?_
  ·split<;>trivial
  ·refine DP.bind (λo=>?_) (λo=>trivial);split<;>trivial
 |_=>exact DP.bind (λxs=>by split<;>trivial) trivial
theorem vX(a:RH):DP (load a):=λ_=>trivial
theorem GN(f:Array RF->Array RF)(o:Obj):(Obj.mapFields f o).dict=o.dict:=by
 unfold Obj.mapFields;split<;>rfl
theorem vc(v:RF)(i:Nat)(x:RF):DP (setField v i x):=by
 unfold setField;cases v with
 |ref a=>
  unfold updateField;refine DP.bind (λo=>?_) (vX a);split
  ·split
   ·exact⟨GN _,trivial⟩
   ·trivial
  ·trivial
 |_=>trivial
theorem xk(e:RF)(f:Option RH):DP (setFlight e f):=by
 unfold setFlight;refine DP.bind (λtb=>?_) (lH _ _);split
 ·exact vc _ _ _
 ·trivial
theorem yF:DP stack:=λ_=>trivial
theorem za:DP underTheClaimsCaller:=by
 unfold underTheClaimsCaller;exact λ_=>trivial
theorem sF:∀l:List Env,DP (readyFrames l)
 |[]=>trivial
 |env::outer=>by
  unfold readyFrames;cases env.frame with
  |none=>trivial
  |some f=>
   refine DP.bind ?_ (vX f);intro o;split
   ·trivial
   ·refine DP.bind ?_ ?_
    ·intro b;refine DP.bind ?_ ?_
     ·intro b;refine DP.bind ?_ ?_
      ·intro _;exact sF outer
      ·exact⟨λ_=>rfl,trivial⟩
     ·unfold keptBack;split
      ·split
       ·trivial
       ·refine DP.bind ?_ za;intro _;trivial
      ·trivial
    ·unfold behindIsImport;split
     ·trivial
     ·split
      ·trivial
      ·refine DP.bind ?_ (lH _ _);intro _;trivial
theorem Dl:DP frameEnvs:=λ_=>trivial
theorem uX(env:Env):DP (frameOf env):=by
 unfold frameOf;refine DP.bind ?_ Dl;intro l;refine DP.bind ?_ ?_
 ·intro f;split<;>trivial
 ·unfold frameObject;split
  ·trivial
  ·refine DP.bind ?_ (sF _);intro _;trivial
theorem E7(ty:String)(vs:List RF):DP (newFields ty vs):=by
 unfold newFields newObj;dsimp only;split
 ·trivial
 ·exact λ_=>trivial
theorem zH(f:RH)(b:Bool):DP (entryPlaceOf f b):=by
 unfold entryPlaceOf;refine DP.bind ?_ yF;intro l;split<;>trivial
theorem BP(e:RF)(env:Env):DP (noteFrame e env):=by
 unfold noteFrame;cases env.frame with
 |none=>trivial
 |some f=>
  have tl:∀head:RF,DP (do setField e 1 (<-EntryCells.newEntry head (<-frameOf env) .none (rawInt f) .none (<-entryPlaceOf f (head !=.none)))):=λhead=>by
   refine DP.bind ?_ (uX env);intro a;refine DP.bind ?_ (zH _ _);intro b;refine DP.bind ?_ (E7 _ _);intro c;exact vc _ _ _
  refine DP.bind ?_ (lH _ _);intro head;dsimp only;split
  ·refine DP.bind ?_ (lH _ _);intro x;split
   ·trivial
   ·refine DP.bind ?_ (vc _ _ _);intro _;exact tl head
  ·exact tl head
theorem uW(env:Env)(e:RF):DP (leaving env e):=by
 unfold leaving;refine DP.bind ?_ (BP _ _);intro _;exact xk _ _
open PySem PySem.Spec L2
inductive D where
 |non|bl (b:Bool)|int (i:Int)|str (x:Str)|tup (xs:List D)|lst (xs:List D)
 |dct (ks vs:List D)|obj (c:Str) (fs:av) (vs:List D)|exc (c:Str) (fs:av) (vs:List D)
noncomputable abbrev bB:=Option D
noncomputable def dQ:Key->D
 |.inl i=>.int i
 |.inr x=>.str x
noncomputable def clsAt(K:QG)(c:Str)(C:RH):Prop:=Ra K RT c=some (some (.ref C))
noncomputable def Ho(C a:RH)(dx:Option RH):(RH->Prop)->RP->Prop:=λ_ h=>∃o,h.get? a=some o/\o.cls=.ref C/\o.dict=dx/\PySem.W.notCls o=true
mutual
noncomputable def cz(K:QG)(H:Hp):D->V->Prop
 |.non,v=>v=.non
 |.bl b,v=>v=.bl b
 |.int i,v=>v=.int i
 |.str x,v=>v=.str x
 |.tup xs,v=>∃a vs,v=.ref a/\H a=some (.tup vs)/\aI K H xs vs
 |.lst xs,v=>∃a vs,v=.ref a/\lM K H a vs/\aI K H xs vs
 |.dct ks ds,v=>∃a vs,v=.ref a/\aI K H ds vs/\((∃kvs:List (Key×V),H a=some (.dK kvs)/\ks=kvs.map (λp=>dQ p.1)/\vs=kvs.map (·.2)) \/
   (∃kvs:List (List Key×V),H a=some (.dT kvs)/\ks=kvs.map (λp=>.tup (p.1.map dQ))/\vs=kvs.map (·.2)) \/
   ∃(kvs:List (List Key×V))(o:Obj),H a=some (.frz o (.dT kvs))/\ks=.non::kvs.map (λp=>.tup (p.1.map dQ))/\vs=kvs.map (·.2))
 |.obj c fs ds,v=>∃a vs,v=.ref a/\aI K H ds vs/\fs.length=vs.length/\∃C dx,clsAt K c C/\H a=some (.ins C dx (fs.zip vs))
 |.exc c fs ds,v=>∃a vs,v=.ref a/\aI K H ds vs/\fs.length=vs.length/\∃C dx,clsAt K c C/\H a=some (.ext (Ho C a dx))/\(fs=[]\/∃d,dx=some d/\H d=some (.xd (fs.zip vs)))
noncomputable def aI(K:QG)(H:Hp):List D->aE->Prop
 |[],vs=>vs=[]
 |x::xs,vs=>∃v r,vs=v::r/\cz K H x v/\aI K H xs r
end
theorem wn{K:QG}{H H':Hp}{a:RH}{xs:aE}(e:aP H H')(h:nO K H a xs):nO K H' a xs:=by
 rcases h with(h|⟨o,h⟩)|h
 ·exact .inl (.inl (e _ _ h))
 ·exact .inl (.inr ⟨o,e _ _ h⟩)
 ·exact .inr h
theorem cB{K:QG}{H H':Hp}{a:RH}{xs:aE}(e:aP H H')(h:H a=some (.tup xs)):nO K H' a xs:=nO.of (e _ _ h)
mutual
theorem cz.mono{K:QG}{H H':Hp}(e:aP H H'):∀{d:D}{v:V},cz K H d v->cz K H' d v
 |.non,_,h=>by unfold cz at h ⊢;exact h
 |.bl _,_,h=>by unfold cz at h ⊢;exact h
 |.int _,_,h=>by unfold cz at h ⊢;exact h
 |.str _,_,h=>by unfold cz at h ⊢;exact h
 |.tup xs,_,h=>by
  unfold cz at h ⊢;obtain⟨a,vs,e1,h1,h2⟩:=h;exact⟨a,vs,e1,e _ _ h1,aI.mono e h2⟩
 |.lst xs,_,h=>by
  unfold cz at h ⊢;obtain⟨a,vs,e1,h1,h2⟩:=h;exact⟨a,vs,e1,e.seq h1,aI.mono e h2⟩
 |.dct _ ds,_,h=>by
  unfold cz at h ⊢;obtain⟨a,vs,e1,h1,h2⟩:=h;refine⟨a,vs,e1,aI.mono e h1,?_⟩;rcases h2 with⟨kvs,h2,h3⟩|⟨kvs,h2,h3⟩|⟨kvs,o,h2,h3⟩
  ·exact .inl ⟨kvs,e _ _ h2,h3⟩
  ·exact .inr (.inl ⟨kvs,e _ _ h2,h3⟩)
  ·exact .inr (.inr ⟨kvs,o,e _ _ h2,h3⟩)
 |.obj _ _ ds,_,h=>by
  unfold cz at h ⊢;obtain⟨a,vs,e1,h1,h2,C,dx,h3,h4⟩:=h;exact⟨a,vs,e1,aI.mono e h1,h2,C,dx,h3,e _ _ h4⟩
 |.exc _ _ ds,_,h=>by
  unfold cz at h ⊢;obtain⟨a,vs,e1,h1,h2,C,dx,h3,h4,h5⟩:=h;exact⟨a,vs,e1,aI.mono e h1,h2,C,dx,h3,e _ _ h4,h5.imp id λ⟨d,q1,q2⟩=>⟨d,q1,e _ _ q2⟩⟩
theorem aI.mono{K:QG}{H H':Hp}(e:aP H H'):∀{ds:List D}{vs:aE},aI K H ds vs->aI K H' ds vs
 |[],_,h=>by unfold aI at h ⊢;exact h
 |x::xs,_,h=>by
  unfold aI at h ⊢;obtain⟨v,r,e1,h1,h2⟩:=h;exact⟨v,r,e1,cz.mono e h1,aI.mono e h2⟩
end
section
variable{K:QG}{H:Hp}
theorem iI{v:V}:cz K H .non v↔v=.non:=by unfold cz;rfl
theorem iT{b:Bool}{v:V}:cz K H (.bl b) v↔v=.bl b:=by unfold cz;rfl
theorem eM{i:Int}{v:V}:cz K H (.int i) v↔v=.int i:=by unfold cz;rfl
theorem eF{x:Str}{v:V}:cz K H (.str x) v↔v=.str x:=by unfold cz;rfl
theorem cj{xs:List D}{v:V}:cz K H (.tup xs) v↔∃a vs,v=.ref a/\H a=some (.tup vs)/\aI K H xs vs:=by unfold cz;rfl
theorem cq{xs:List D}{v:V}:cz K H (.lst xs) v↔∃a vs,v=.ref a/\lM K H a vs/\aI K H xs vs:=by unfold cz;rfl
theorem Ji{ks ds : List D}{v : V}: cz K H (.dct ks ds) v ↔ ∃ a vs, v = .ref a /\ aI K H ds vs /\ ((∃ kvs : List (Key × V), H a = some (.dK kvs) /\ ks = kvs.map (fun p => dQ p.1) /\ vs = kvs.map (·.2)) \/
      (∃kvs:List (List Key×V),H a=some (.dT kvs)/\ks=kvs.map (λp=>.tup (p.1.map dQ))/\vs=kvs.map (·.2)) \/
      ∃(kvs:List (List Key×V))(o:Obj),H a=some (.frz o (.dT kvs))/\ks=.non::kvs.map (λp=>.tup (p.1.map dQ))/\vs=kvs.map (·.2)):=by unfold cz;rfl
theorem Js{c:Str}{fs:av}{ds:List D}{v:V}:cz K H (.obj c fs ds) v↔∃a vs,v=.ref a/\aI K H ds vs/\fs.length=vs.length/\∃C dx,clsAt K c C/\H a=some (.ins C dx (fs.zip vs)):=by unfold cz;rfl
theorem Jo{c:Str}{fs:av}{ds:List D}{v:V}:cz K H (.exc c fs ds) v↔∃a vs,v=.ref a/\aI K H ds vs/\fs.length=vs.length/\∃C dx,clsAt K c C/\H a=some (.ext (Ho C a dx))/\(fs=[]\/∃d,dx=some d/\H d=some (.xd (fs.zip vs))):=by unfold cz;rfl
theorem cw{vs:aE}:aI K H [] vs↔vs=[]:=by unfold aI;rfl
theorem aM{x:D}{xs:List D}{vs:aE}:aI K H (x::xs) vs↔∃v r,vs=v::r/\cz K H x v/\aI K H xs r:=by conv=>lhs;unfold aI
theorem aI.length:∀{ds:List D}{vs:aE},aI K H ds vs->ds.length=vs.length
 |[],_,h=>by rw[cw]at h;rw[h];rfl
 |_::xs,_,h=>by
  rw[aM]at h;obtain⟨v,r,e,_,h⟩:=h;rw[e,OG,OG,aI.length h]
theorem aI.get:∀{ds:List D}{vs:aE}{i:Nat}{d:D},aI K H ds vs->ds[i]?=some d->∃v,vs[i]?=some v/\cz K H d v
 |[],_,_,_,_,e=>by simp at e
 |x::xs,_,0,d,h,e=>by
  rw[aM]at h;obtain⟨v,r,rfl,h1,_⟩:=h;simp at e;subst e;exact⟨v,rfl,h1⟩
 |x::xs,_,i+1,d,h,e=>by
  rw[aM]at h;obtain⟨v,r,rfl,_,h2⟩:=h;obtain⟨w,e1,e2⟩:=aI.get (i:=i) h2 (by simpa using e);exact⟨w,by simpa using e1,e2⟩
theorem aI.append:∀{ds es:List D}{vs ws:aE},aI K H ds vs->aI K H es ws->aI K H (ds++es) (vs++ws)
 |[],_,_,_,h,h'=>by rw[cw]at h;subst h;exact h'
 |x::xs,_,_,_,h,h'=>by
  rw[aM]at h;obtain⟨v,r,rfl,h1,h2⟩:=h;rw[Pg,aM];exact⟨v,_,rfl,h1,aI.append h2 h'⟩
theorem aI.take:∀{ds:List D}{vs:aE}(n:Nat),aI K H ds vs->aI K H (ds.take n) (vs.take n)
 |_,_,0,_=>by rw[Ph,Ph,cw]
 |[],_,_+1,h=>by rw[cw]at h;subst h;rw[List.take_nil,List.take_nil,cw]
 |x::xs,_,n+1,h=>by
  rw[aM]at h;obtain⟨v,r,rfl,h1,h2⟩:=h;rw[Pj,Pj,aM];exact⟨v,_,rfl,h1,aI.take n h2⟩
theorem aI.drop:∀{ds:List D}{vs:aE}(n:Nat),aI K H ds vs->aI K H (ds.drop n) (vs.drop n)
 |_,_,0,h=>by rw[Pl,Pl];exact h
 |[],_,_+1,h=>by rw[cw]at h;subst h;rw[List.drop_nil,List.drop_nil,cw]
 |x::xs,_,n+1,h=>by
  rw[aM]at h;obtain⟨v,r,rfl,h1,h2⟩:=h;rw[Pm,Pm];exact aI.drop n h2
theorem aI.snoc{ds:List D}{vs:aE}{d:D}{v:V}(h:aI K H ds vs)(h':cz K H d v):aI K H (ds++[d]) (vs++[v]):=
 h.append (aM.mpr ⟨v,[],rfl,h',cw.mpr rfl⟩)
theorem aI.one{d:D}{vs:aE}(h:aI K H [d] vs):∃v,vs=[v]/\cz K H d v:=by
 rw[aM]at h;obtain⟨v,r,rfl,h1,h2⟩:=h;rw[cw]at h2;subst h2;exact⟨v,rfl,h1⟩
theorem aI.two{d e:D}{vs:aE}(h:aI K H [d,e] vs):∃v w,vs=[v,w]/\cz K H d v/\cz K H e w:=by
 rw[aM]at h;obtain⟨v,r,rfl,h1,h2⟩:=h;obtain⟨w,rfl,h3⟩:=h2.one;exact⟨v,w,rfl,h1,h3⟩
theorem qw:∀ns:List Int,aI K H (ns.map D.int) (ns.map V.int)
 |[]=>cw.mpr rfl
 |n::ns=>aM.mpr ⟨_,_,rfl,eM.mpr rfl,qw ns⟩
end
noncomputable def hid(H:Hp)(O:az):Hp:=λb=>if b∈O then none else H b
theorem aF(H:Hp)(O:az):aP (hid H O) H:=λb o h=>by
 unfold hid at h;split at h
 ·cases h
 ·exact h
theorem cf{H H':Hp}{O:az}(e:aP H H'):aP (hid H O) (hid H' O):=λb o h=>by
 unfold hid at h ⊢;by_cases hb:b∈O
 ·rw[if_pos hb]at h;cases h
 ·rw[if_neg hb]at h ⊢;exact e b o h
theorem g9{H:Hp}{O O':az}(s:∀a∈O,a∈O'):aP (hid H O') (hid H O):=λb o h=>by
 unfold hid at h ⊢;by_cases hb:b∈O'
 ·rw[if_pos hb]at h;cases h
 ·rw[if_neg hb]at h;rw[if_neg λz=>hb (s b z)];exact h
theorem BH(H:Hp):hid H []=H:=by funext b;unfold hid;simp
theorem vB{H:Hp}{O:az}{p:RH}{o:HO}(h:H p=none):aP (hid H O) (hid (upd H p o) O):=λb u q=>by
 unfold hid at q ⊢;by_cases hb:b∈O
 ·rw[if_pos hb]at q;cases q
 ·rw[if_neg hb]at q ⊢;rw[aK (aL q h)];exact q
theorem du{H:Hp}{p:RH}(h:H p=none)(o:HO):aP H (upd H p o):=λb u q=>by rw[aK (aL q h)];exact q
theorem mz{H:Hp}{O:az}{p:RH}(h:p∉O):hid H O p=H p:=by unfold hid;rw[if_neg h]
theorem jQ{H:Hp}{O:az}{p:RH}{o:HO}(h:p∈O):aP (hid H O) (hid (upd H p o) O):=λb u q=>by
 unfold hid at q ⊢;by_cases hb:b∈O
 ·rw[if_pos hb]at q;cases q
 ·rw[if_neg hb]at q ⊢;rw[aK (λz=>hb (by rw[z];exact h))];exact q
inductive S where
 |val (d:D)|own (d:D)|nest (d:D)
noncomputable abbrev ao:=List (Option S)
noncomputable def sd:HO->Prop
 |.lst _=>True
 |.dK _=>True
 |.dT _=>True
 |_=>False
class au where
 tab:Hp->Prop
 same:∀{H H':Hp},tab H->aP H H'->tab H'
 own:∀{H:Hp}{p:RH}{o o':HO},tab H->H p=some o->sd o->tab (upd H p o')
variable[au]
noncomputable def dL(H:Hp)(O:az):Prop:=au.tab H/\∀a∈O,∃o,H a=some o/\sd o
theorem dL.not{H:Hp}{O:az}(h:dL H O){p:RH}(n:H p=none):p∉O:=λz=>by
 obtain⟨vs,e,_⟩:=h.2 p z;rw[n]at e;cases e
theorem dL.same{H H':Hp}{O:az}(h:dL H O)(e:aP H H'):dL H' O:=⟨au.same h.1 e,λa ha=>let ⟨vs,q,m⟩:=h.2 a ha;⟨vs,e _ _ q,m⟩⟩
theorem dL.upd{H:Hp}{O:az}{p:RH}{o:HO}(h:dL H O)(hp:p∈O)(m:sd o):dL (L2.upd H p o) O:=⟨let ⟨_,q,r⟩:=h.2 p hp;au.own h.1 q r,λa ha=>by
 by_cases z:a=p
 ·rw[z];exact⟨o,bi,m⟩
 ·obtain⟨u,q,r⟩:=h.2 a ha;exact⟨u,by rw[aK z];exact q,r⟩⟩
theorem dL.cons{H:Hp}{O:az}{p:RH}{o:HO}(h:dL H O)(hp:H p=some o)(m:sd o):dL H (p::O):=⟨h.1,λa ha=>by
 rcases List.mem_cons.mp ha with z|z
 ·rw[z];exact⟨o,hp,m⟩
 ·exact h.2 a z⟩
noncomputable def jF(K:QG)(H:Hp)(O:az)(a:RH)(d:D):Prop:=∃o vs,H a=some o/\match d with
 |.lst xs=>o=.lst vs/\aI K (hid H O) xs vs
 |.dct ks ds=>aI K (hid H O) ds vs/\((∃kvs:List (Key×V),o=.dK kvs/\ks=kvs.map (λp=>dQ p.1)/\vs=kvs.map (·.2)) \/
   ∃kvs:List (List Key×V),o=.dT kvs/\ks=kvs.map (λp=>.tup (p.1.map dQ))/\vs=kvs.map (·.2))
 |_=>False
theorem jF.mono{K:QG}{H H':Hp}{O O':az}{a:RH}{d:D}(h:jF K H O a d)(e:H a=H' a)(s:aP (hid H O) (hid H' O')):jF K H' O' a d:=by
 obtain⟨o,vs,h1,h2⟩:=h;refine⟨o,vs,by rw[<-e];exact h1,?_⟩;cases d with
 |lst xs=>exact⟨h2.1,h2.2.mono s⟩
 |dct ks ds=>exact⟨h2.1.mono s,h2.2⟩
 |_=>exact h2
theorem jF.some{K:QG}{H:Hp}{O:az}{a:RH}{d:D}(h:jF K H O a d):∃o,H a=some o:=let ⟨o,_,e,_⟩:=h;⟨o,e⟩
theorem jF.den{K:QG}{H:Hp}{O O':az}{a:RH}{d:D}(h:jF K H O a d)(s:aP (hid H O) (hid H O'))(ha:a∉O'):cz K (hid H O') d (.ref a):=by
 obtain⟨o,vs,h1,h2⟩:=h;have h1':hid H O' a=Option.some o:=by rw[mz ha];exact h1
 cases d with
 |lst xs=>
  obtain⟨e,g⟩:=h2;subst e;exact cq.mpr ⟨a,vs,rfl,lM.of h1',g.mono s⟩
 |dct ks ds=>
  obtain⟨g,q⟩:=h2;refine Ji.mpr ⟨a,vs,rfl,g.mono s,?_⟩;rcases q with⟨kvs,e,q⟩|⟨kvs,e,q⟩
  ·subst e;exact .inl ⟨kvs,h1',q⟩
  ·subst e;exact .inr (.inl ⟨kvs,h1',q⟩)
 |_=>exact h2.elim
structure dD(K:QG)(O:az)(H:Hp)(ρ:ao)(σ:St):Prop where
 val:∀(i:Nat) d,ρ[i]?=some (some (.val d))->∃v,σ[i]?=some (some v)/\cz K (hid H O) d v
 own:∀(i:Nat) d,ρ[i]?=some (some (.own d))->∃a,σ[i]?=some (some (.ref a))/\a∈O/\jF K H O a d
 one:∀(i j:Nat) xs ys a,ρ[i]?=some (some (.own xs))->ρ[j]?=some (some (.own ys))->σ[i]?=some (some (.ref a))->σ[j]?=some (some (.ref a))->i=j
 all:dL H O
theorem vL{H H':Hp}(e:aP H H'){a:RH}{o:HO}(h:H a=some o):H a=H' a:=by rw[h,e _ _ h]
theorem dD.same{K:QG}{O:az}{H H':Hp}{ρ:ao}{σ:St}(h:dD K O H ρ σ)(e:aP H H'):dD K O H' ρ σ:=
  ⟨fun i d q=>let ⟨v,a,b⟩:=h.val i d q; ⟨v,a,b.mono (cf e)⟩,
   λi xs q=>let ⟨a,q1,q2,q3⟩:=h.own i xs q;⟨a,q1,q2,q3.mono (let ⟨_,z⟩:=q3.some;vL e z) (cf e)⟩,h.one,h.all.same e⟩
structure Ex where
 c:Str
 fs:av
 vs:List D
noncomputable abbrev R(α:Type):=Except (Option Ex) α
noncomputable abbrev aS:=ao->R (List D)
noncomputable abbrev bZ:=ao->R Bool
noncomputable abbrev bI:=List D->R D
noncomputable abbrev un{α:Type}:R α:=.error none
noncomputable def rO{α:Type}:Option α->R α
 |some a=>.ok a
 |none=>.error none
noncomputable def IM(K:QG)(Hd:Hp)(x:Ex)(C:RH)(dx:Option RH):Prop:=clsAt K x.c C/\∃ws,aI K Hd x.vs ws/\x.fs.length=ws.length/\(x.fs=[]\/∃d,dx=some d/\Hd d=some (.xd (x.fs.zip ws)))
theorem IM.mono{K:QG}{H H':Hp}{x:Ex}{C:RH}{dx:Option RH}(h:IM K H x C dx)(e:aP H H'):IM K H' x C dx:=by
 obtain⟨h1,ws,h2,h3,h4⟩:=h;exact⟨h1,ws,h2.mono e,h3,h4.imp id λ⟨d,q1,q2⟩=>⟨d,q1,e _ _ q2⟩⟩
end TG
namespace TG
open PySem PySem.Spec L2
variable[au]
open PyProof.Rows (AllBare)
theorem Et{P:RN}{w:RM}{H:Hp}{h:RP}{a:RH}{o:HO}(x:dr P w H h a o):∃u,h.get? a=some u:=by
 cases o with
 |lst xs=>obtain⟨_,_,_,_,e⟩:=x;exact⟨_,e⟩
 |tup xs=>obtain⟨_,_,_,o,e,_⟩:=x;exact⟨_,e⟩
 |dK kvs=>obtain⟨_,_,_,_,o,_,_,e,_⟩:=x;exact⟨_,e⟩
 |dT kvs=>obtain⟨_,_,_,_,o,_,_,e,_⟩:=x;exact⟨_,e⟩
 |set S n=>obtain⟨o,_,_,_,e,_⟩:=x;exact⟨_,e⟩
 |ins C dx fs=>obtain⟨_,_,_,e,_⟩:=x;exact⟨_,e⟩
 |own y=>exact x
 |xd fs=>obtain⟨_,⟨_,_,_,e,_⟩,_⟩:=x;exact⟨_,e⟩
 |rng lo hi=>obtain⟨_,_,_,e⟩:=x;exact⟨_,e⟩
 |frz ob u=>obtain⟨e,_⟩:=x;exact⟨_,e⟩
 |tbl ps=>exact⟨_,(show h.get? a=some _ from x)⟩
 |met f y=>exact⟨_,(show h.get? a=some _ from x)⟩
 |ext φ=>obtain⟨_,e,_⟩:=x;exact e
noncomputable def oX(X:Cx)(H:Hp)(b:RH):Prop:=((∃o,X.s₀.heap.get? b=some o)/\b∉X.ex)\/H b≠none\/(∃o,(b,o)∈X.pn)\/∃x,X.env.cells.lookup x=some b
noncomputable def NP(B:RP)(e:RH)(cls a0:RF)(h:RP):Prop:=h.TracedW B e cls a0\/∃oe vs,h.get? e=some oe/\oe.cls=cls/\oe.data=.fields vs/\vs[1]?=some .none/\vs[0]?=some a0
noncomputable def Ja(X:Cx)(H:Hp)(s:RL)(e C:RH)(dx:Option RH):Prop:=(∀oe,s.heap.get? e=some oe->oe.dict=dx)/\∃B a0,B.StaysIn s.heap/\B.get? e=none/\s.heap.FunFrames B X.stack/\NP B e (.ref C) a0 s.heap/\∀b o,s.heap.get? b=some o->oX X H b->b∉frs X.stack->B.get? b=some o
noncomputable def Oe(X:Cx)(H:Hp)(O:az)(s:RL)(u:RF)(x:Ex):Prop:=∃e C dx,u=.ref e/\IM X.K (hid H O) x C dx/\Ja X H s e C dx
noncomputable def lQ(P:RN)(w:RM):uj:=λouter H s E u s'=>∃e C dx H' B a0,u=.ref e/\(∀oe,s'.heap.get? e=some oe->oe.dict=dx)/\s'.os=s.os/\AllBare s'.gens/\Un (frs outer) [] H H' s.heap s'.heap/\nA P w H' s'.heap/\Rt B outer e (.ref C) a0 s'.heap/\
 (∀b o,s'.heap.get? b=some o->((∃o',s.heap.get? b=some o')\/H' b≠none)->b∉frs outer->B.get? b=some o)/\E (.ref C) dx H'
noncomputable def LK(K:QG)(H:Hp)(O:az)(x:Ex)(E:XK):Prop:=∀C dx H',aP H H'->IM K (hid H' O) x C dx->E (.ref C) dx H'
noncomputable def G8(X:Cx)(σ:St)(O:az)(H:Hp)(x:Ex):Prop:=∀pins s u H',Inv X pins σ H' s->aP H H'->Oe X H' O s u x->X.xe u s
theorem G8.mono{X:Cx}{σ:St}{O:az}{H H':Hp}{x:Ex}(h:G8 X σ O H x)(s:aP H H'):G8 X σ O H' x:=λpins st u H2 I s2 f=>h pins st u H2 I (s.trans s2) f
noncomputable def vx(X:Cx)(O:az)(H:Hp)(x:Ex):XK:=λu dx H'=>∃C,u=.ref C/\aP H H'/\IM X.K (hid H' O) x C dx
noncomputable def jA(CX:uj)(X:Cx)(σ:St)(E:XK):Prop:=∀(pins:bc)(H:Hp)(s:RL)(e:RF)(s':RL),Inv X pins σ H s->CX X.stack H s E e s'->X.xe e s'
theorem vT{X:Cx}{σ:St}{O:az}{H:Hp}{x:Ex}(h:G8 X σ O H x):jA (lQ X.prog X.w) X σ (vx X O H x):=by
 rintro pins H1 s u s' I ⟨e,C,dx,H',B,a0,rfl,hdx,os,bare,un,hok,⟨f1,f2,f3,f4⟩,kp,C',eC,sm,hd⟩;cases eC;have I':Inv X pins σ H' s':=I.call' os un hok bare (ch:=[]) λb z=>absurd z (by simp);refine h pins s' _ H' I' sm ⟨e,C,dx,rfl,hd,hdx,B,a0,f1,f2,f3,.inl f4,λb o eb hb nf=>kp b o eb ?_ nf⟩;rcases hb with⟨⟨o',hb⟩,nx⟩|hb|⟨o',hb⟩|⟨y,hb⟩
 ·exact .inl (I.base.there b o' hb nx)
 ·exact .inr hb
 ·exact .inl ⟨_,(I.pin _ (Ov _ hb)).1⟩
 ·obtain⟨v,o,q,_⟩:=I.cell y b hb;exact .inl ⟨o,q⟩
theorem vj{X:Cx}{σ:St}:jA (lQ X.prog X.w) X σ E0:=λ_ _ _ _ _ _ h=>by
 obtain⟨_,_,_,_,_,_,_,_,_,_,_,_,_,_,z⟩:=h;exact z.elim
theorem sK{X:Cx}{O:az}{H:Hp}{x:Ex}:LK X.K H O x (vx X O H x):=λC dx H' s e=>⟨C,rfl,s,e⟩
section
variable{X:Cx}{pins:bc}{σ:St}{H:Hp}{s:RL}{h':RP}
theorem CD(I:Inv X pins σ H s)(k:∀b o,s.heap.get? b=some o->oX X H b->b∉frs X.stack->h'.get? b=some o):nA X.prog X.w H h':=λa ob ea=>
 (I.hok a ob ea).stay (λb u hb q=>by
  have hn:H b≠none:=by
   rcases hb with e|e
   ·rw[e,ea];intro z;cases z
   ·rw[e];intro z;cases z
  exact k b u q (.inr (.inl hn)) λhf=>hn (I.stkFree b hf)) (λ_ q=>q) λ_ _ q=>q
theorem qI(I:Inv X pins σ H s)(us:s.heap.UpToSlots h'){b:RH}{o:Obj}(hb:b∈frs X.stack)(e:s.heap.get? b=some o):∃sl,h'.get? b=some {o with slots:=sl}:=by
 obtain⟨_,o',e',nf⟩:=I.stack.mem hb;rw[e]at e';cases e';exact us b o e nf
theorem Fh(I:Inv X pins σ H s)(hx:X.ex=[])(hst:X.stack=X.env::X.outer)(hf:X.env.frame=some X.env.locals)(us:s.heap.UpToSlots h')(k:∀b o,s.heap.get? b=some o->oX X H b->b∉frs X.stack->h'.get? b=some o):
  Un (frs X.outer) [] X.H₀ H X.s₀.heap h':=by
 have U:=I.base;rw[hx]at U;have fr:frs X.stack=X.env.locals::frs X.outer:=by rw[hst];show List.filterMap _ (_::_)=_;rw[Oq,hf];rfl
 have nl:∀b o,X.s₀.heap.get? b=some o->b≠X.env.locals:=λb o q z=>by
  have h1:=Rm q;have h2:=I.ok.above;rw[z]at h1;exact Oj _ (Oi h1 h2)
 have nfr:∀b o,X.s₀.heap.get? b=some o->b∉frs X.outer->b∉frs X.stack:=λb o q nb z=>by
  rw[fr]at z;rcases List.mem_cons.mp z with z|z
  ·exact nl b o q z
  ·exact nb z
 refine⟨λb o q n nb _=>k b o (U.keep b o q n nb (by simp)) (.inl ⟨⟨o,q⟩,by rw[hx];simp⟩) (nfr b o q nb),λb o q n hb _=>?_,λb o q n _=>U.free b o q n (by simp),λb o q _=>?_,U.tups,U.frzs,U.tbls⟩
 ·obtain⟨sl,e⟩:=U.slot b o q n hb (by simp);obtain⟨sl',e'⟩:=qI I us (by rw[fr];exact Ou _ hb) e;exact⟨sl',e'⟩
 ·obtain⟨o1,e1⟩:=U.there b o q (by simp);by_cases hb:b∈frs X.stack
  ·obtain⟨sl,e⟩:=qI I us hb e1;exact⟨_,e⟩
  ·exact⟨o1,k b o1 e1 (.inl ⟨⟨o,q⟩,by rw[hx];simp⟩) hb⟩
end
theorem Gr{P:RN}{w:RM}{K:QG}{mg:cS}{base:RP}{N:av}{qual:Str}{scope:RW}{f:RH}{cd:RF}{A:RV}{outer:List Env}{s:RL}{H:Hp}{E:XK}{σ:St}{O O':az}{H':Hp}{x:Ex}
  (hx:LK K H O x E) (sm:aP H H') (hs:∀a∈O,a∈O'):G8 (jn (lQ P w) P w K mg base N qual scope f cd A outer s H E) σ O' H' x:=by
 rintro pins s1 u H1 I s2 ⟨e,C,dx,rfl,hd,hdx,B,a0,b1,b2,b3,b4,b5⟩;have fin:∀h',Rt B outer e (.ref C) a0 h'->s1.heap.UpToSlots h'->DS s1.heap h'->lQ P w outer H s E (.ref e) {s1 with heap:=h'}:=λh' fl us ds=>by
  have k:∀b o,s1.heap.get? b=some o->oX (jn (lQ P w) P w K mg base N qual scope f cd A outer s H E) H1 b->b∉frs (jn (lQ P w) P w K mg base N qual scope f cd A outer s H E).stack->h'.get? b=some o:=λb o q kb nf=>fl.1 b o (b5 b o q kb nf);have un:=Fh I rfl rfl rfl us k;have hok:=CD I k;refine⟨e,C,dx,H1,B,a0,rfl,λoe' q=>?_,I.os,I.bare,un,hok,fl,λb o q hb nf=>?_,hx C dx H1 (sm.trans s2) (hd.mono (g9 hs))⟩
  ·obtain⟨oe,q1⟩:∃oe,s1.heap.get? e=some oe:=by
    rcases b4 with⟨oe,_,_,_,_,h1,_⟩|⟨oe,_,h1,_⟩
    ·exact⟨oe,h1⟩
    ·exact⟨oe,h1⟩
   exact(ds.dict q1 q).trans (hdx oe q1)
  have nf2:b∉frs (jn (lQ P w) P w K mg base N qual scope f cd A outer s H E).stack:=λz=>by
   rcases List.mem_cons.mp (show b∈s.heap.objs.size::frs outer from z)with z|z
   ·rcases hb with hb|hb
    ·obtain⟨o',hb⟩:=hb
     have:=Rm hb
     rw[z]at this;exact Oj _ this
    ·rw[z]at hb;exact hb I.free
   ·exact nf z
  have kb:oX (jn (lQ P w) P w K mg base N qual scope f cd A outer s H E) H1 b:=hb.elim (λz=>.inl ⟨z,λy=>nomatch y⟩) λz=>.inr (.inl z);obtain⟨o1,e1⟩:∃o1,s1.heap.get? b=some o1:=by
   rcases hb with⟨o',hb⟩|hb
   ·exact I.base.there b o' hb (λz=>nomatch z)
   ·cases q0:H1 b with
    |none=>exact absurd q0 hb
    |some ob=>exact Et (I.hok b ob q0)
  have:=k b o1 e1 kb nf2
  rw[q]at this;cases this;exact b5 b _ e1 kb nf2
 show RY _ _ (leaving (Rx qual scope s.heap.objs.size f cd) (.ref e)) _ _ s1;refine DP.go (uW _ _) (P:=λh'=>Rt B outer e (.ref C) a0 h'/\s1.heap.UpToSlots h') ?_ λh' z ds=>fin h' z.1 z.2 ds;rcases b4 with b4|⟨oe,vs,c1,c2,c3,c4,c5⟩
 ·exact wpAny_leaves_onW I.ok.frames rfl ⟨b1,b2,b3,b4⟩ λh' fl us=>⟨h',rfl,fl,us⟩
 ·refine wpAny_leaving_firstW I.ok.frames b3 rfl c1 b1 b2 c3 c4 c5 λh' hL=>?_;obtain⟨k1,⟨_,_,k2⟩,k3,k4⟩:=hL;exact⟨h',rfl,⟨k1,b2,k2,c2 ▸ k3⟩,k4⟩
end TG
namespace TG
open PySem PySem.Spec L2
variable[au]
noncomputable def eQ(X:Cx)(σ:St)(O:az)(H:Hp){α:Type}(r:R α)(Q:α->Prop):Prop:=match r with
 |.ok a=>Q a
 |.error (some x)=>G8 X σ O H x
 |.error none=>False
section
variable{X:Cx}{σ:St}{O:az}{H H':Hp}{α β:Type}
theorem eQ.bind{r:R α}{G:α->R β}{Q:β->Prop}(h:eQ X σ O H (r.bind G) Q):eQ X σ O H r λa=>eQ X σ O H (G a) Q:=by
 match r,h with
 |.ok a,h=>exact h
 |.error (some x),h=>exact h
 |.error none,h=>exact h
theorem eQ.imp{r:R α}{Q Q':α->Prop}(h:eQ X σ O H r Q)(f:∀a,Q a->Q' a):eQ X σ O H r Q':=by
 match r,h with
 |.ok a,h=>exact f a h
 |.error (some x),h=>exact h
 |.error none,h=>exact h
theorem eQ.mono{r:R α}{Q:α->Prop}(h:eQ X σ O H r Q)(s:aP H H'):eQ X σ O H' r Q:=by
 match r,h with
 |.ok a,h=>exact h
 |.error (some x),h=>exact G8.mono h s
 |.error none,h=>exact h
theorem eQ.rO{o:Option α}{Q:α->Prop}(h:eQ X σ O H (rO o) Q):∃a,o=some a/\Q a:=by
 match o,h with
 |some a,h=>exact⟨a,rfl,h⟩
 |none,h=>exact h.elim
end
noncomputable abbrev FX:=ao->R D
noncomputable def tF(X:Cx)(F:FX):TE:=λσ H Q=>∃O ρ,dD X.K O H ρ σ/\eQ X σ O H (F ρ) λd=>∀v H',aP H H'->cz X.K (hid H' O) d v->Q v H'
noncomputable def JG(X:Cx)(F:bZ):TT:=λσ H Q=>∃O ρ,dD X.K O H ρ σ/\eQ X σ O H (F ρ) λb=>∀H',aP H H'->Q b H'
noncomputable def Kt(X:Cx)(F:aS):TA:=λσ H Q=>∃O ρ,dD X.K O H ρ σ/\eQ X σ O H (F ρ) λds=>∀vs H',aP H H'->aI X.K (hid H' O) ds vs->Q vs H'
noncomputable def FE(X:Cx)(e:RJ)(F:FX):Prop:=PE X e (tF X F)
noncomputable def FT(X:Cx)(e:RJ)(F:bZ):Prop:=PT X e (JG X F)
noncomputable def FW(X:Cx)(e:RJ)(F:bZ):Prop:=PW X e (JG X F)
noncomputable def FA(X:Cx)(es:aZ)(F:aS):Prop:=PA X es (Kt X F)
theorem PE.weak{X:Cx}{e:RJ}{t t':TE}(h:PE X e t)(w:∀σ H Q,t' σ H Q->t σ H Q):PE X e t':=λpins s σ H Q I q=>h pins s σ H Q I (w σ H Q q)
theorem PT.weak{X:Cx}{e:RJ}{t t':TT}(h:PT X e t)(w:∀σ H Q,t' σ H Q->t σ H Q):PT X e t':=λpins s σ H Q I q=>h pins s σ H Q I (w σ H Q q)
theorem PW.weak{X:Cx}{e:RJ}{t t':TT}(h:PW X e t)(w:∀σ H Q,t' σ H Q->t σ H Q):PW X e t':=λwhole pins s σ H Q I q=>h whole pins s σ H Q I (w σ H Q q)
theorem PA.weak{X:Cx}{es:aZ}{t t':TA}(h:PA X es t)(w:∀σ H Q,t' σ H Q->t σ H Q):PA X es t':=λpos pins s σ H Q I q=>h pos pins s σ H Q I (w σ H Q q)
theorem PS.weak{X:Cx}{st:RK}{t t':TS}(h:PS X st t)(w:∀D σ H,t' D σ H->t D σ H):PS X st t':=λpins s σ H Q I q=>h pins s σ H Q I (w Q σ H q)
theorem t9.weak{X:Cx}{st:dM}{t t':TS}(h:t9 X st t)(w:∀D σ H,t' D σ H->t D σ H):t9 X st t':=λpins s σ H Q I q=>h pins s σ H Q I (w Q σ H q)
noncomputable def pJ(ρ:ao)(i:Nat):R D:=match ρ[i]? with
 |some (some (.val d))=>.ok d
 |_=>un
theorem CL{ρ:ao}{i:Nat}{d:D}(h:pJ ρ i=.ok d):ρ[i]?=some (some (.val d)):=by
 unfold pJ at h;split at h
 ·rename_i e;cases h;exact e
 ·cases h
noncomputable def ae(i:Nat):FX:=λρ=>pJ ρ i
noncomputable def fC(d:D):FX:=λ_=>.ok d
section
variable{X:Cx}
theorem wg{σ:St}{O:az}{H:Hp}{ρ:ao}{i:Nat}{Q:D->Prop}(h:eQ X σ O H (pJ ρ i) Q):∃d,ρ[i]?=some (some (.val d))/\Q d:=by
 cases e:pJ ρ i with
 |ok d=>rw[e]at h;exact⟨d,CL e,h⟩
 |error z=>
  rw[e]at h;cases z with
  |none=>exact h.elim
  |some x=>
   exfalso;unfold pJ at e;split at e
   ·cases e
   ·have:=Except.error.inj e;cases this
theorem jo{e:RJ}{d:D}{v:V}(h:PE X e (tC v))(hd:∀K H,cz K H d v):FE X e (fC d):=
 PE.weak h λσ H Q ⟨O,ρ,E,q⟩=>q v H (aP.refl H) (hd _ _)
noncomputable def noStar:RJ->Bool
 |.Starred _ _=>false
 |_=>true
theorem dm{e:RJ}{es:aZ}{env:Env}(h:noStar e=true):RZ (e::es) env=(false,eval e env)::RZ es env:=by
 cases e<;>first|rfl|cases h
theorem eE{pos:Pos}{env:Env}:∀{es:aZ},es.all noStar=true->(backTo pos (RZ es env)).any (·.1)=false
 |[],_=>rfl
 |e::es,h=>by
  rw[Pn,O0]at h;rw[dm h.1];exact eE h.2
noncomputable def af:aS:=λ_=>.ok []
noncomputable def ac(f:FX)(g:aS):aS:=λρ=>(f ρ).bind λx=>(g ρ).bind λxs=>.ok (x::xs)
theorem Kp:FA X [] af:=PA.weak rG λσ H Q ⟨O,ρ,E,q⟩=>q [] H (aP.refl H) (cw.mpr rfl)
theorem bind_some{α β:Type}{o:Option α}{f:α->Option β}{b:β}(h:o.bind f=some b):∃a,o=some a/\f a=some b:=by
 cases o with
 |none=>cases h
 |some a=>exact⟨a,rfl,h⟩
theorem og{ε α β:Type}{o:Except ε α}{f:α->Except ε β}{b:β}(h:o.bind f=.ok b):∃a,o=.ok a/\f a=.ok b:=by
 cases o with
 |error _=>cases h
 |ok a=>exact⟨a,rfl,h⟩
theorem Jc{e:RJ}{es:aZ}{f:FX}{g:aS}(he:FE X e f)(hs:FA X es g)(hns:noStar e=true:=by rfl):FA X (e::es) (ac f g):=
 PA.weak (jW he hs (dm hns)) λσ H Q ⟨O,ρ,E,h⟩=>
  ⟨O,ρ,E,(eQ.bind h).imp λx h v H1 s1 d1=>⟨O,ρ,E.same s1,((eQ.bind h).mono s1).imp λxs q vs H2 s2 d2=>q (v::vs) H2 (s1.trans s2) (aM.mpr ⟨v,vs,rfl,d1.mono (cf s2),d2⟩)⟩⟩
noncomputable def small(n:Nat):Bool:=decide (n<=100000)
theorem dE{n:Nat}(h:small n=true):n<=RQ:=Om (of_decide_eq_true h) (by decide)
theorem iD{n:Nat}(h:n<=100000):small n=true:=decide_eq_true h
noncomputable def nG(xs:List D):bB:=if small xs.length then some (.tup xs)else none
noncomputable def lJ(xs:List D):bB:=if small xs.length then some (.lst xs)else none
noncomputable def aO(g:aS):FX:=λρ=>(g ρ).bind λxs=>rO (nG xs)
noncomputable def dC(g:aS):FX:=λρ=>(g ρ).bind λxs=>rO (lJ xs)
theorem aY{α:Type}{c:Bool}{a b:α}(h:(if c then some a else none)=some b):c=true/\a=b:=by
 cases c with
 |true=>exact⟨rfl,Option.some.inj h⟩
 |false=>cases h
theorem d9{K:QG}{H:Hp}{O:az}{p:RH}{ds:List D}{vs:aE}(hO:dL H O)(hp:H p=none)(d:aI K (hid H O) ds vs):cz K (hid (upd H p (.tup vs)) O) (.tup ds) (.ref p):=
 cj.mpr ⟨p,vs,rfl,by rw[mz (hO.not hp),bi],d.mono (vB hp)⟩
theorem jp{K:QG}{H:Hp}{O:az}{p:RH}{ds:List D}{vs:aE}(hO:dL H O)(hp:H p=none)(d:aI K (hid H O) ds vs):cz K (hid (upd H p (.lst vs)) O) (.lst ds) (.ref p):=
 cq.mpr ⟨p,vs,rfl,lM.of (by rw[mz (hO.not hp),bi]),d.mono (vB hp)⟩
noncomputable def Dg(K:QG)(r:V->Hp->VK->Prop)(g:D->bB):Prop:=
 ∀(a d:D)(x:V)(O:az)(H:Hp)(Q:VK),dL H O->g a=some d->cz K (hid H O) a x->(∀v H',aP H H'->cz K (hid H' O) d v->Q v H')->r x H Q
noncomputable def f1(g:D->bB)(f:FX):FX:=λρ=>(f ρ).bind λa=>rO (g a)
noncomputable def dh(K:QG)(r:R2)(g:D->D->bB):Prop:=
 ∀(a b d:D)(x y:V)(O:az)(H:Hp)(Q:VK),dL H O->g a b=some d->cz K (hid H O) a x->cz K (hid H O) b y->(∀v H',aP H H'->cz K (hid H' O) d v->Q v H')->r x y H Q
noncomputable def f2(g:D->D->bB)(f1 f2:FX):FX:=λρ=>(f1 ρ).bind λa=>(f2 ρ).bind λb=>rO (g a b)
theorem rJ{r:R2}{g:D->D->bB}{fa fb:FX}(s:dh X.K r g):∀σ H Q,tF X (f2 g fa fb) σ H Q->HK r (tF X fa) (tF X fb) σ H Q:=λσ H Q ⟨O,ρ,E,hF⟩=>
 ⟨O,ρ,E,(eQ.bind hF).imp fun a hF x H1 s1 d1=>⟨O,ρ,E.same s1,((eQ.bind hF).mono s1).imp fun b hF y H2 s2 d2=>by
  obtain⟨d,e,q⟩:=eQ.rO hF;exact s a b d x y O H2 Q (E.all.same (s1.trans s2)) e (d1.mono (cf s2)) d2 λv H3 s3 d3=>q v H3 ((s1.trans s2).trans s3) d3⟩⟩
noncomputable def K5:D->Option Bool
 |.bl b=>some b
 |_=>none
noncomputable def fB(f:FX):bZ:=λρ=>(f ρ).bind λd=>rO (K5 d)
theorem oz{t:TE}{f:FX}(h:∀σ H Q,tF X f σ H Q->t σ H Q):∀σ H Q,JG X (fB f) σ H Q->zE t σ H Q:=λσ H Q ⟨O,ρ,E,hF⟩=>
 h σ H _ ⟨O,ρ,E,(eQ.bind hF).imp λd hF v H1 s1 d1=>by
  obtain⟨b,e,q⟩:=eQ.rO hF;cases d with
  |bl b'=>
   cases e;exact⟨b,iT.mp d1,q H1 s1⟩
  |_=>cases e⟩
noncomputable def vS(K:QG)(r:aE->Hp->VK->Prop)(g:List D->bB):Prop:=
 ∀(ds:List D)(d:D)(xs:aE)(O:az)(H:Hp)(Q:VK),dL H O->g ds=some d->aI K (hid H O) ds xs->(∀v H',aP H H'->cz K (hid H' O) d v->Q v H')->r xs H Q
noncomputable def fL(g:List D->bB)(f:aS):FX:=λρ=>(f ρ).bind λds=>rO (g ds)
noncomputable def fR(g:bI)(f:aS):FX:=λρ=>(f ρ).bind g
theorem zU{r:aE->Hp->VK->Prop}{g:List D->bB}{f:aS}(s:vS X.K r g):∀σ H Q,tF X (fL g f) σ H Q->K4 r (Kt X f) σ H Q:=λσ H Q ⟨O,ρ,E,hF⟩=>
 ⟨O,ρ,E,(eQ.bind hF).imp fun ds hF vs H1 s1 d1=>by
  obtain⟨d,e,q⟩:=eQ.rO hF;exact s ds d vs O H1 Q (E.all.same s1) e d1 λv H2 s2 d2=>q v H2 (s1.trans s2) d2⟩
noncomputable def jg(f:bZ):bZ:=λρ=>(f ρ).bind λb=>.ok (!b)
noncomputable def mJ(f g:bZ):bZ:=λρ=>(f ρ).bind λb=>if b then g ρ else .ok false
noncomputable def vm(f g:bZ):bZ:=λρ=>(f ρ).bind λb=>if b then .ok true else g ρ
variable{a b c:RJ}{rest:aZ}{pos:Pos}{f g:bZ}
theorem FW.ft{e:RJ}(h:FW X e f):FT X e f:=PW.pt h
noncomputable def truth:D->Option Bool
 |.non=>some false
 |.bl b=>some b
 |.int i=>some (i !=0)
 |.str x=>if small x.length then some (x.length !=0)else none
 |.tup xs=>some (!xs.isEmpty)
 |.lst xs=>some (!xs.isEmpty)
 |_=>none
noncomputable def aJ(f:FX):bZ:=λρ=>(f ρ).bind λd=>rO (truth d)
noncomputable def uB(d:D)(k:R D):R D:=match d with
 |.bl true=>k
 |.bl false=>.ok (.bl false)
 |_=>un
noncomputable def IC(d:D)(k:R D):R D:=match d with
 |.bl false=>k
 |.bl true=>.ok (.bl true)
 |_=>un
noncomputable def G0:D->bB
 |.bl b=>some (.bl (!b))
 |_=>none
noncomputable def gB(f g:FX):FX:=λρ=>(f ρ).bind λd=>uB d (g ρ)
noncomputable def AR(f g:FX):FX:=λρ=>(f ρ).bind λd=>IC d (g ρ)
noncomputable def tx(f:FX):FX:=f1 G0 f
variable{fa fb:FX}
noncomputable def vd(t:bZ)(f g:FX):FX:=λρ=>(t ρ).bind λc=>if c then f ρ else g ρ
end
end TG
namespace TG
open PySem PySem.Spec L2
variable[au]
open PySem.SeqAt (EqAt RcAt RcNeAt)
mutual
noncomputable def pyEq:D->D->Bool
 |.non,.non=>true
 |.bl a,.bl b=>a==b
 |.bl a,.int b=>(if a then 1 else 0)==b
 |.int a,.bl b=>a==(if b then 1 else 0)
 |.int a,.int b=>a==b
 |.str a,.str b=>a==b
 |.tup xs,.tup ys=>gD xs ys
 |.lst xs,.lst ys=>gD xs ys
 |.dct _ _,.dct _ _=>true
 |.obj _ _ _,.obj _ _ _=>true
 |.exc _ _ _,.exc _ _ _=>true
 |_,_=>false
noncomputable def gD:List D->List D->Bool
 |[],[]=>true
 |x::xs,y::ys=>pyEq x y&&gD xs ys
 |_,_=>false
end
mutual
theorem gS:∀d:D,pyEq d d=true
 |.non=>by unfold pyEq;rfl
 |.bl b=>by unfold pyEq;simp
 |.int i=>by unfold pyEq;simp
 |.str x=>by unfold pyEq;simp
 |.tup xs=>by unfold pyEq;exact kO xs
 |.lst xs=>by unfold pyEq;exact kO xs
 |.dct _ _=>by unfold pyEq;rfl
 |.obj _ _ _=>by unfold pyEq;rfl
 |.exc _ _ _=>by unfold pyEq;rfl
theorem kO:∀ds:List D,gD ds ds=true
 |[]=>by unfold gD;rfl
 |d::ds=>by unfold gD;rw[gS d,kO ds];rfl
end
noncomputable def uJ(xs ys:List D)(j:Nat):Bool:=match xs[j]?,ys[j]? with
 |some a,some b=>pyEq a b
 |_,_=>false
theorem fg:∀xs ys:List D,((List.range (min xs.length ys.length)).all (uJ xs ys)&&xs.length==ys.length)=gD xs ys
 |[],[]=>by unfold gD;rfl
 |[],_::_=>by unfold gD;simp
 |_::_,[]=>by unfold gD;simp
 |x::xs,y::ys=>by
  have ih:=fg xs ys
  conv=>rhs;unfold gD
  rw[<-ih];have e:min (x::xs).length (y::ys).length=min xs.length ys.length+1:=by simp only[OG];omega
  rw[e,Pp,Pn,Pq];have e2:((x::xs).length==(y::ys).length)=(xs.length==ys.length):=by simp
  rw[e2,Bool.and_assoc];have e3:(List.range (min xs.length ys.length)).all (uJ (x::xs) (y::ys)∘Nat.succ)=(List.range (min xs.length ys.length)).all (uJ xs ys):=by
   congr 1
  rw[e3];rfl
mutual
noncomputable def pl:D->Bool
 |.tup xs=>oq xs
 |.lst xs=>oq xs
 |.dct _ _=>false
 |.obj _ _ _=>false
 |.exc _ _ _=>false
 |_=>true
noncomputable def oq:List D->Bool
 |[]=>true
 |x::xs=>pl x&&oq xs
end
theorem eU{ks vs:List D}(h:pl (.dct ks vs)=true):False:=by unfold pl at h;cases h
theorem eW{c:Str}{fs:av}{vs:List D}(h:pl (.obj c fs vs)=true):False:=by unfold pl at h;cases h
theorem eT{c:Str}{fs:av}{vs:List D}(h:pl (.exc c fs vs)=true):False:=by unfold pl at h;cases h
theorem jY:∀{xs:List D},oq xs=true->∀x∈xs,pl x=true
 |[],_,_,h=>nomatch h
 |x::xs,h,y,hy=>by
  unfold oq at h;rw[O0]at h;rcases List.mem_cons.mp hy with z|z
  ·rw[z];exact h.1
  ·exact jY h.2 y z
theorem dH{xs:List D}:pl (.tup xs)=oq xs:=by rw[pl]
theorem dN{xs:List D}:pl (.lst xs)=oq xs:=by rw[pl]
noncomputable def df:Nat->D->Bool
 |n+1,.tup xs=>xs.all (df n)
 |n+1,.lst xs=>xs.all (df n)
 |0,.tup _=>false
 |0,.lst _=>false
 |_,.dct _ _=>false
 |_,.obj _ _ _=>false
 |_,.exc _ _ _=>false
 |_,_=>true
section
variable{X:Cx}{pins:bc}{σ:St}{H:Hp}{s:RL}
theorem Inv.not_both(I:Inv X pins σ H s){a:RH}{xs ys:aE}(h:nO X.K H a xs)(h':lM X.K H a ys):False:=by
 obtain⟨its,_,ht,_⟩:=I.tuple h;obtain⟨its2,_,hl,_⟩:=I.list h';exact absurd rfl (SeqAt.ne_of_list_tuple hl.isList (show s.heap.IsTuple a its.toArray from ht))
mutual
theorem Inv.den_inj(I:Inv X pins σ H s):∀{a b:D}{v:V},pl a=true->pl b=true->cz X.K H a v->cz X.K H b v->a=b
 |.non,b,v,pa,pb,h,h'=>by
  rw[iI]at h;subst h;cases b with
  |non=>rfl
  |bl _=>rw[iT]at h';cases h'
  |int _=>rw[eM]at h';cases h'
  |str _=>rw[eF]at h';cases h'
  |tup _=>rw[cj]at h';obtain⟨_,_,e,_⟩:=h';cases e
  |lst _=>rw[cq]at h';obtain⟨_,_,e,_⟩:=h';cases e
  |dct _ _=>exact(eU pb).elim
  |obj _ _ _=>exact(eW pb).elim
  |exc _ _ _=>exact(eT pb).elim
 |.bl x,b,v,pa,pb,h,h'=>by
  rw[iT]at h;subst h;cases b with
  |non=>rw[iI]at h';cases h'
  |bl _=>rw[iT]at h';cases h';rfl
  |int _=>rw[eM]at h';cases h'
  |str _=>rw[eF]at h';cases h'
  |tup _=>rw[cj]at h';obtain⟨_,_,e,_⟩:=h';cases e
  |lst _=>rw[cq]at h';obtain⟨_,_,e,_⟩:=h';cases e
  |dct _ _=>exact(eU pb).elim
  |obj _ _ _=>exact(eW pb).elim
  |exc _ _ _=>exact(eT pb).elim
 |.int x,b,v,pa,pb,h,h'=>by
  rw[eM]at h;subst h;cases b with
  |non=>rw[iI]at h';cases h'
  |bl _=>rw[iT]at h';cases h'
  |int _=>rw[eM]at h';cases h';rfl
  |str _=>rw[eF]at h';cases h'
  |tup _=>rw[cj]at h';obtain⟨_,_,e,_⟩:=h';cases e
  |lst _=>rw[cq]at h';obtain⟨_,_,e,_⟩:=h';cases e
  |dct _ _=>exact(eU pb).elim
  |obj _ _ _=>exact(eW pb).elim
  |exc _ _ _=>exact(eT pb).elim
 |.str x,b,v,pa,pb,h,h'=>by
  rw[eF]at h;subst h;cases b with
  |non=>rw[iI]at h';cases h'
  |bl _=>rw[iT]at h';cases h'
  |int _=>rw[eM]at h';cases h'
  |str _=>rw[eF]at h';cases h';rfl
  |tup _=>rw[cj]at h';obtain⟨_,_,e,_⟩:=h';cases e
  |lst _=>rw[cq]at h';obtain⟨_,_,e,_⟩:=h';cases e
  |dct _ _=>exact(eU pb).elim
  |obj _ _ _=>exact(eW pb).elim
  |exc _ _ _=>exact(eT pb).elim
 |.tup xs,b,v,pa,pb,h,h'=>by
  rw[cj]at h;obtain⟨a,vs,e,h1,h2⟩:=h;subst e;cases b with
  |non=>rw[iI]at h';cases h'
  |bl _=>rw[iT]at h';cases h'
  |int _=>rw[eM]at h';cases h'
  |str _=>rw[eF]at h';cases h'
  |tup ys=>
   rw[cj]at h';obtain⟨a',vs',e,h1',h2'⟩:=h';cases e;have ev:=I.tuple_inj (nO.of h1) (nO.of h1');subst ev;rw[Inv.denL_inj I (by first|rw[<-dH];exact pa|rw[<-dN];exact pa) (by first|rw[<-dH];exact pb|rw[<-dN];exact pb) h2 h2']
  |lst _=>rw[cq]at h';obtain⟨_,_,e,h1',_⟩:=h';cases e;exact(Inv.not_both I (nO.of h1) h1').elim
  |dct _ _=>exact(eU pb).elim
  |obj _ _ _=>exact(eW pb).elim
  |exc _ _ _=>exact(eT pb).elim
 |.lst xs,b,v,pa,pb,h,h'=>by
  rw[cq]at h;obtain⟨a,vs,e,h1,h2⟩:=h;subst e;cases b with
  |non=>rw[iI]at h';cases h'
  |bl _=>rw[iT]at h';cases h'
  |int _=>rw[eM]at h';cases h'
  |str _=>rw[eF]at h';cases h'
  |lst ys=>
   rw[cq]at h';obtain⟨a',vs',e,h1',h2'⟩:=h';cases e;have ev:=I.list_inj h1 h1';subst ev;rw[Inv.denL_inj I (by first|rw[<-dH];exact pa|rw[<-dN];exact pa) (by first|rw[<-dH];exact pb|rw[<-dN];exact pb) h2 h2']
  |tup _=>rw[cj]at h';obtain⟨_,_,e,h1',_⟩:=h';cases e;exact(Inv.not_both I (nO.of h1') h1).elim
  |dct _ _=>exact(eU pb).elim
  |obj _ _ _=>exact(eW pb).elim
  |exc _ _ _=>exact(eT pb).elim
 |.dct _ _,_,_,pa,_,_,_=>(eU pa).elim
 |.obj _ _ _,_,_,pa,_,_,_=>(eW pa).elim
 |.exc _ _ _,_,_,pa,_,_,_=>(eT pa).elim
theorem Inv.denL_inj(I:Inv X pins σ H s):∀{as bs:List D}{vs:aE},oq as=true->oq bs=true->aI X.K H as vs->aI X.K H bs vs->as=bs
 |[],bs,vs,pa,pb,h,h'=>by
  rw[cw]at h;subst h;cases bs with
  |nil=>rfl
  |cons b bs=>rw[aM]at h';obtain⟨_,_,e,_⟩:=h';cases e
 |a::as,bs,vs,pa,pb,h,h'=>by
  rw[aM]at h;obtain⟨v,r,e,h1,h2⟩:=h;subst e;cases bs with
  |nil=>rw[cw]at h';cases h'
  |cons b bs=>
   rw[aM]at h';obtain⟨v',r',e,h1',h2'⟩:=h';cases e;unfold oq at pa pb;rw[O0]at pa pb;rw[Inv.den_inj I pa.1 pb.1 h1 h1',Inv.denL_inj I pa.2 pb.2 h2 h2']
end
noncomputable def kE:D->Option V
 |.non=>some .non
 |.bl b=>some (.bl b)
 |.int i=>some (.int i)
 |.str x=>some (.str x)
 |_=>none
theorem mN{K:QG}{d:D}{v x:V}(h:kE d=some x)(hd:cz K H d v):v=x/\yL x=true:=by
 cases d with
 |non=>cases h;exact⟨iI.mp hd,rfl⟩
 |bl b=>cases h;exact⟨iT.mp hd,rfl⟩
 |int i=>cases h;exact⟨eM.mp hd,rfl⟩
 |str y=>cases h;exact⟨eF.mp hd,rfl⟩
 |_=>cases h
theorem BR{a b:D}{x y:V}(ha:kE a=some x)(hb:kE b=some y):KI x y=pyEq a b:=by
 cases a<;>cases ha<;>cases b<;>cases hb<;>(unfold pyEq KI;rfl)
theorem ue{a:D}{x:V}(n:Nat)(h:kE a=some x):df n a=true:=by
 cases a with
 |tup _=>cases h
 |lst _=>cases h
 |dct _ _=>cases h
 |obj _ _ _=>cases h
 |exc _ _ _=>cases h
 |_=>cases n<;>rfl
theorem sL{a:D}(h:kE a=none):df 0 a=false:=by
 cases a with
 |tup _=>rfl
 |lst _=>rfl
 |dct _ _=>rfl
 |obj _ _ _=>rfl
 |exc _ _ _=>rfl
 |_=>cases h
theorem in1_units(A:RV):A.in1.units=A.units+1:=rfl
theorem ly{vs:aE}{us:bb}(r:Vals vs us){j:Nat}(h:j<us.toArray.size):∃x,vs[j]?=some x/\RelV x us.toArray[j]:=by
 have hj:j<us.length:=by simpa using h
 have hl:=r.length;have hv:j<vs.length:=by omega
 obtain⟨u,e,ru⟩:=r.get (i:=j) (x:=vs[j]) (by simp[hv]);refine⟨vs[j],by simp[hv],?_⟩;have e2:us.toArray[j]=u:=by
  rw[Pr hj]at e
  simpa using Option.some.inj e
 rw[e2];exact ru
theorem lI{K:QG}{ds:List D}{vs:aE}(h:aI K H ds vs){j:Nat}{x:V}(e:vs[j]?=some x):∃d,ds[j]?=some d/\cz K H d x:=by
 have hj:j<vs.length:=(List.getElem?_eq_some_iff.mp e).1;have hl:=h.length;have hd:j<ds.length:=by omega
 obtain⟨v,e1,e2⟩:=h.get (i:=j) (d:=ds[j]) (by simp[hd]);rw[e]at e1;cases e1;exact⟨ds[j],by simp[hd],e2⟩
theorem yV(I:Inv X pins σ H s):∀(n:Nat)(a b:D)(x y:V)(u v:RF)(A:RV),pl a=true->pl b=true->(df n a=true\/df n b=true)->cz X.K H a x->cz X.K H b y->RelV x u->RelV y v->A.units+n<Sl->EqAt A s u v (pyEq a b):=by
 intro n
 induction n with
 |zero=>
  intro a b x y u v A pa pb hd ha hb ru rv hA;have hu:A.units<Sl:=hA;cases ha':kE a with
  |some x'=>
   obtain⟨e,f⟩:=mN ha' ha;subst e;cases hb':kE b with
   |some y'=>
    obtain⟨e,f'⟩:=mN hb' hb;subst e;rw[<-BR ha' hb'];exact GV ru rv f f'
   |none=>
    cases b with
    |tup ys=>
     rw[cj]at hb;obtain⟨p,vs,e,h1,h2⟩:=hb;subst e;cases rv;obtain⟨its,_,ht,_⟩:=I.tuple (nO.of h1);have ht':s.heap.IsTuple p its.toArray:=ht;cases a with
     |non=>cases ha';cases ru;unfold pyEq;exact .none_tuple ht' hu
     |bl z=>cases ha';cases ru;unfold pyEq;exact .bool_tuple z ht' hu
     |int z=>cases ha';obtain⟨t,rfl⟩:=ru;unfold pyEq;exact .int_tuple z t ht' hu
     |str z=>cases ha';obtain⟨t,rfl⟩:=ru;unfold pyEq;exact .str_tuple z t ht' hu
     |_=>cases ha'
    |lst ys=>
     rw[cq]at hb;obtain⟨p,vs,e,h1,h2⟩:=hb;subst e;cases rv;obtain⟨its,_,ht,_⟩:=I.list h1;have ht':s.heap.IsList p its.toArray:=ht.isList;cases a with
     |non=>cases ha';cases ru;unfold pyEq;exact .none_list ht' hu
     |bl z=>cases ha';cases ru;unfold pyEq;exact .bool_list z ht' hu
     |int z=>cases ha';obtain⟨t,rfl⟩:=ru;unfold pyEq;exact .int_list z t ht' hu
     |str z=>cases ha';obtain⟨t,rfl⟩:=ru;unfold pyEq;exact .str_list z t ht' hu
     |_=>cases ha'
    |dct _ _=>exact(eU pb).elim
    |obj _ _ _=>exact(eW pb).elim
    |exc _ _ _=>exact(eT pb).elim
    |_=>cases hb'
  |none=>
   have hdb:df 0 b=true:=by
    rcases hd with hd|hd
    ·rw[sL ha']at hd;cases hd
    ·exact hd
   cases hb':kE b with
   |none=>rw[sL hb']at hdb;cases hdb
   |some y'=>
    obtain⟨e,f'⟩:=mN hb' hb;subst e;cases a with
    |tup xs=>
     rw[cj]at ha;obtain⟨p,vs,e,h1,h2⟩:=ha;subst e;cases ru;obtain⟨its,_,ht,_⟩:=I.tuple (nO.of h1);have ht':s.heap.IsTuple p its.toArray:=ht;cases b with
     |non=>cases hb';cases rv;unfold pyEq;exact .tuple_none ht' hu
     |bl z=>cases hb';cases rv;unfold pyEq;exact .tuple_bool z ht' hu
     |int z=>cases hb';obtain⟨t,rfl⟩:=rv;unfold pyEq;exact .tuple_int z t ht' hu
     |str z=>cases hb';obtain⟨t,rfl⟩:=rv;unfold pyEq;exact .tuple_str z t ht' hu
     |_=>cases hb'
    |lst xs=>
     rw[cq]at ha;obtain⟨p,vs,e,h1,h2⟩:=ha;subst e;cases ru;obtain⟨its,_,ht,_⟩:=I.list h1;have ht':s.heap.IsList p its.toArray:=ht.isList;cases b with
     |non=>cases hb';cases rv;unfold pyEq;exact .list_none ht' hu
     |bl z=>cases hb';cases rv;unfold pyEq;exact .list_bool z ht' hu
     |int z=>cases hb';obtain⟨t,rfl⟩:=rv;unfold pyEq;exact .list_int z t ht' hu
     |str z=>cases hb';obtain⟨t,rfl⟩:=rv;unfold pyEq;exact .list_str z t ht' hu
     |_=>cases hb'
    |dct _ _=>exact(eU pa).elim
    |obj _ _ _=>exact(eW pa).elim
    |exc _ _ _=>exact(eT pa).elim
    |_=>cases ha'
 |succ n ih=>
  intro a b x y u v A pa pb hd ha hb ru rv hA;have hu:A.units<Sl:=by omega
  have flatWay:(∀xs ys,¬(a=.tup xs/\b=.tup ys))->(∀xs ys,¬(a=.lst xs/\b=.lst ys))->EqAt A s u v (pyEq a b):=by
   intro n1 n2;cases ha':kE a with
   |some x'=>exact ih a b x y u v A pa pb (.inl (ue n ha')) ha hb ru rv ‹0›
   |none=>
    cases hb':kE b with
    |some y'=>exact ih a b x y u v A pa pb (.inr (ue n hb')) ha hb ru rv ‹0›
    |none=>
     cases a with
     |tup xs=>
      cases b with
      |tup ys=>exact absurd ⟨rfl,rfl⟩ (n1 xs ys)
      |lst ys=>
       rw[cj]at ha;obtain⟨p,vs,e,h1,h2⟩:=ha;subst e;rw[cq]at hb;obtain⟨p',vs',e,h1',h2'⟩:=hb;subst e;cases ru;cases rv;obtain⟨its,_,ht,_⟩:=I.tuple (nO.of h1);obtain⟨its2,_,ht2,_⟩:=I.list h1';unfold pyEq;exact .tuple_list (show s.heap.IsTuple p its.toArray from ht) ht2.isList hu
      |dct _ _=>exact(eU pb).elim
      |obj _ _ _=>exact(eW pb).elim
      |exc _ _ _=>exact(eT pb).elim
      |_=>cases hb'
     |lst xs=>
      cases b with
      |lst ys=>exact absurd ⟨rfl,rfl⟩ (n2 xs ys)
      |tup ys=>
       rw[cq]at ha;obtain⟨p,vs,e,h1,h2⟩:=ha;subst e;rw[cj]at hb;obtain⟨p',vs',e,h1',h2'⟩:=hb;subst e;cases ru;cases rv;obtain⟨its,_,ht,_⟩:=I.list h1;obtain⟨its2,_,ht2,_⟩:=I.tuple (nO.of h1');unfold pyEq;exact .list_tuple ht.isList (show s.heap.IsTuple p' its2.toArray from ht2) hu
      |dct _ _=>exact(eU pb).elim
      |obj _ _ _=>exact(eW pb).elim
      |exc _ _ _=>exact(eT pb).elim
      |_=>cases hb'
     |dct _ _=>exact(eU pa).elim
     |obj _ _ _=>exact(eW pa).elim
     |exc _ _ _=>exact(eT pa).elim
     |_=>cases ha'
  have items:∀(xs ys:List D)(vs vs':aE)(its its':bb),oq xs=true->oq ys=true->(df (n+1) (.tup xs)=true\/df (n+1) (.tup ys)=true)->aI X.K H xs vs->aI X.K H ys vs'->Vals vs its->Vals vs' its'->
    ∀j (h1:j<its.toArray.size) (h2:j<its'.toArray.size),EqAt A.in1 s its.toArray[j] its'.toArray[j] (uJ xs ys j):=by
   intro xs ys vs vs' its its' px py hdd hx hy rx ry j h1 h2;obtain⟨w1,e1,r1⟩:=ly rx h1;obtain⟨w2,e2,r2⟩:=ly ry h2;obtain⟨d1,f1,g1⟩:=lI hx e1;obtain⟨d2,f2,g2⟩:=lI hy e2;have e3:uJ xs ys j=pyEq d1 d2:=(by unfold uJ;rw[f1,f2]);rw[e3];refine ih d1 d2 w1 w2 _ _ A.in1 (jY px _ (OW f1)) (jY py _ (OW f2)) ?_ g1 g2 r1 r2 (by rw[in1_units];omega);rcases hdd with hdd|hdd
   ·exact .inl (List.all_eq_true.mp hdd d1 (OW f1))
   ·exact .inr (List.all_eq_true.mp hdd d2 (OW f2))
  by_cases hT:∃xs ys,a=.tup xs/\b=.tup ys
  ·obtain⟨xs,ys,rfl,rfl⟩:=hT;have da:=ha;have db:=hb;rw[cj]at ha hb;obtain⟨p,vs,e,h1,h2⟩:=ha;subst e;obtain⟨p',vs',e,h1',h2'⟩:=hb;subst e;cases ru;cases rv;by_cases hp:p=p'
   ·subst hp;have e:=Inv.den_inj I pa pb da db;rw[e,gS];exact EqAt.same _
   ·obtain⟨its,rv1,ht,_⟩:=I.tuple (nO.of h1);obtain⟨its2,rv2,ht2,_⟩:=I.tuple (nO.of h1');refine EqAt.of_refs hp ?_;have q:=RcAt.tuples (e:=uJ xs ys) (show s.heap.IsTuple p its.toArray from ht) (show s.heap.IsTuple p' its2.toArray from ht2) hu (items xs ys vs vs' its its2 (by first|rw[<-dH];exact pa|rw[<-dN];exact pa) (by first|rw[<-dH];exact pb|rw[<-dN];exact pb) hd h2 h2' rv1 rv2);have z1:its.toArray.size=xs.length:=(by rw[OB,<-rv1.length,<-h2.length]);have z2:its2.toArray.size=ys.length:=(by rw[OB,<-rv2.length,<-h2'.length]);rw[z1,z2,fg]at q;unfold pyEq;exact q
  ·by_cases hL:∃xs ys,a=.lst xs/\b=.lst ys
   ·obtain⟨xs,ys,rfl,rfl⟩:=hL;have da:=ha;have db:=hb;rw[cq]at ha hb;obtain⟨p,vs,e,h1,h2⟩:=ha;subst e;obtain⟨p',vs',e,h1',h2'⟩:=hb;subst e;cases ru;cases rv;by_cases hp:p=p'
    ·subst hp;have e:=Inv.den_inj I pa pb da db;rw[e,gS];exact EqAt.same _
    ·obtain⟨its,rv1,ht,_⟩:=I.list h1;obtain⟨its2,rv2,ht2,_⟩:=I.list h1';refine EqAt.of_refs hp ?_;have z1:its.toArray.size=xs.length:=(by rw[OB,<-rv1.length,<-h2.length]);have z2:its2.toArray.size=ys.length:=(by rw[OB,<-rv2.length,<-h2'.length]);have er:=fg xs ys;by_cases hz:its.toArray.size=its2.toArray.size
     ·have q:=RcAt.lists (e:=uJ xs ys) ht.isList ht2.isList hz hu (items xs ys vs vs' its its2 (by first|rw[<-dH];exact pa|rw[<-dN];exact pa) (by first|rw[<-dH];exact pb|rw[<-dN];exact pb) hd h2 h2' rv1 rv2);rw[z1]at q;have hz':xs.length=ys.length:=(by omega);rw[<-hz',Pt]at er;simp only[beq_self_eq_true,Pu]at er;rw[er]at q;unfold pyEq;exact q
     ·have hne:(its.toArray.size !=its2.toArray.size)=true:=(by simpa using hz);have q:=RcAt.lists_lengths (A:=A) ht.isList ht2.isList hne hu;have hz':(xs.length==ys.length)=false:=by
       rw[z1,z2]at hz
       simpa using hz
      rw[hz',Pw]at er;unfold pyEq;rw[<-er];exact q
   ·exact flatWay (λxs ys z=>hT ⟨xs,ys,z⟩) λxs ys z=>hL ⟨xs,ys,z⟩
end
end TG
namespace TG
open PySem PySem.Spec L2
variable[au]
open PySem.SeqAt (EqAt RcAt RcNeAt)
section
variable{X:Cx}{pins:bc}{σ:St}{H:Hp}{s:RL}
theorem oi(I:Inv X pins σ H s){n:Nat}{xs ys:List D}{vs vs':aE}{its its':bb}{A:RV}(px:oq xs=true)(py:oq ys=true)(hdd:df (n+1) (.tup xs)=true\/df (n+1) (.tup ys)=true)(hx:aI X.K H xs vs)(hy:aI X.K H ys vs')(rx:Vals vs its)(ry:Vals vs' its')(hA:A.units+n<Sl):
  ∀j (h1:j<its.toArray.size) (h2:j<its'.toArray.size),EqAt A s its.toArray[j] its'.toArray[j] (uJ xs ys j):=by
 intro j h1 h2;obtain⟨w1,e1,r1⟩:=ly rx h1;obtain⟨w2,e2,r2⟩:=ly ry h2;obtain⟨d1,f1,g1⟩:=lI hx e1;obtain⟨d2,f2,g2⟩:=lI hy e2;have e3:uJ xs ys j=pyEq d1 d2:=by unfold uJ;rw[f1,f2]
 rw[e3];refine yV I n d1 d2 w1 w2 _ _ A (jY px _ (OW f1)) (jY py _ (OW f2)) ?_ g1 g2 r1 r2 hA;rcases hdd with hdd|hdd
 ·exact .inl (List.all_eq_true.mp hdd d1 (OW f1))
 ·exact .inr (List.all_eq_true.mp hdd d2 (OW f2))
inductive Way(I:Inv X pins σ H s):D->RF->Prop where
 |non:Way I .non .none
 |bl (b:Bool):Way I (.bl b) (.bool b)
 |int (i:Int) (t:Tok):Way I (.int i) (.int i t)
 |str (x:Str) (t:Tok):Way I (.str x) (.str x t)
 |tup {xs:List D} {p:RH} {vs:aE} {its:bb} (h:aI X.K H xs vs) (r:Vals vs its) (t:s.heap.IsTuple p its.toArray):Way I (.tup xs) (.ref p)
 |lst {xs:List D} {p:RH} {vs:aE} {its:bb} (h:aI X.K H xs vs) (r:Vals vs its) (t:s.heap.IsList p its.toArray):Way I (.lst xs) (.ref p)
noncomputable def top:D->Bool
 |.dct _ _=>false
 |.obj _ _ _=>false
 |.exc _ _ _=>false
 |_=>true
theorem eO{d:D}(h:pl d=true):top d=true:=by
 cases d with
 |dct _ _=>exact(eU h).elim
 |obj _ _ _=>exact(eW h).elim
 |exc _ _ _=>exact(eT h).elim
 |_=>rfl
theorem dW(I:Inv X pins σ H s){d:D}{v:V}{u:RF}(pd:top d=true)(h:cz X.K H d v)(r:RelV v u):Way I d u:=by
 cases d with
 |non=>rw[iI]at h;subst h;cases r;exact .non
 |bl b=>rw[iT]at h;subst h;cases r;exact .bl b
 |int i=>rw[eM]at h;subst h;obtain⟨t,rfl⟩:=r;exact .int i t
 |str x=>rw[eF]at h;subst h;obtain⟨t,rfl⟩:=r;exact .str x t
 |tup xs=>
  rw[cj]at h;obtain⟨p,vs,e,h1,h2⟩:=h;subst e;cases r;obtain⟨its,rv,ht,_⟩:=I.tuple (nO.of h1);exact .tup h2 rv ht
 |lst xs=>
  rw[cq]at h;obtain⟨p,vs,e,h1,h2⟩:=h;subst e;cases r;obtain⟨its,rv,ht,_⟩:=I.list h1;exact .lst h2 rv ht.isList
 |dct _ _=>cases pd
 |obj _ _ _=>cases pd
 |exc _ _ _=>cases pd
theorem Ft(I:Inv X pins σ H s){n:Nat}{a b:D}{x y:V}{u v:RF}{A:RV}(pa:pl a=true)(pb:pl b=true)(hd:df (n+1) a=true\/df (n+1) b=true)(ha:cz X.K H a x)(hb:cz X.K H b y)(ru:RelV x u)(rv:RelV y v)(hA:A.units+n+1<Sl):RcAt A s u v (pyEq a b):=by
 have hu:A.units<Sl:=by omega
 cases dW I (eO pa) ha ru with
 |non=>cases dW I (eO pb) hb rv with
  |non=>unfold pyEq;exact .none_none
  |bl b=>unfold pyEq;exact .none_bool b
  |int i t=>unfold pyEq;exact .none_int i t
  |str x t=>unfold pyEq;exact .none_str x t
  |tup h r t=>unfold pyEq;exact .none_tuple t hu
  |lst h r t=>unfold pyEq;exact .none_list t hu
 |bl z=>cases dW I (eO pb) hb rv with
  |non=>unfold pyEq;exact .bool_none z
  |bl b=>unfold pyEq;exact .bool_bool z b
  |int i t=>unfold pyEq;exact .bool_int z i t
  |str x t=>unfold pyEq;exact .bool_str z x t
  |tup h r t=>unfold pyEq;exact .bool_tuple z t hu
  |lst h r t=>unfold pyEq;exact .bool_list z t hu
 |int z tz=>cases dW I (eO pb) hb rv with
  |non=>unfold pyEq;exact .int_none z tz
  |bl b=>unfold pyEq;exact .int_bool z tz b
  |int i t=>unfold pyEq;exact .int_int z tz i t
  |str x t=>unfold pyEq;exact .int_str z tz x t
  |tup h r t=>unfold pyEq;exact .int_tuple z tz t hu
  |lst h r t=>unfold pyEq;exact .int_list z tz t hu
 |str z tz=>cases dW I (eO pb) hb rv with
  |non=>unfold pyEq;exact .str_none z tz
  |bl b=>unfold pyEq;exact .str_bool z tz b
  |int i t=>unfold pyEq;exact .str_int z tz i t
  |str x t=>unfold pyEq;exact .str_str z tz x t
  |tup h r t=>unfold pyEq;exact .str_tuple z tz t hu
  |lst h r t=>unfold pyEq;exact .str_list z tz t hu
 |@tup xs p vs its h1 r1 t1=>cases dW I (eO pb) hb rv with
  |non=>unfold pyEq;exact .tuple_none t1 hu
  |bl b=>unfold pyEq;exact .tuple_bool b t1 hu
  |int i t=>unfold pyEq;exact .tuple_int i t t1 hu
  |str x t=>unfold pyEq;exact .tuple_str x t t1 hu
  |@tup ys p' vs' its' h2 r2 t2=>
   have q:=RcAt.tuples (e:=uJ xs ys) t1 t2 hu (oi (A:=A.in1) I (by first|rw[<-dH];exact pa|rw[<-dN];exact pa) (by first|rw[<-dH];exact pb|rw[<-dN];exact pb) hd h1 h2 r1 r2 (by rw[in1_units];omega));have z1:its.toArray.size=xs.length:=(by rw[OB,<-r1.length,<-h1.length]);have z2:its'.toArray.size=ys.length:=(by rw[OB,<-r2.length,<-h2.length]);rw[z1,z2,fg]at q;unfold pyEq;exact q
  |lst h r t=>unfold pyEq;exact .tuple_list t1 t hu
 |@lst xs p vs its h1 r1 t1=>cases dW I (eO pb) hb rv with
  |non=>unfold pyEq;exact .list_none t1 hu
  |bl b=>unfold pyEq;exact .list_bool b t1 hu
  |int i t=>unfold pyEq;exact .list_int i t t1 hu
  |str x t=>unfold pyEq;exact .list_str x t t1 hu
  |tup h r t=>unfold pyEq;exact .list_tuple t1 t hu
  |@lst ys p' vs' its' h2 r2 t2=>
   have z1:its.toArray.size=xs.length:=(by rw[OB,<-r1.length,<-h1.length]);have z2:its'.toArray.size=ys.length:=(by rw[OB,<-r2.length,<-h2.length]);have er:=fg xs ys;by_cases hz:its.toArray.size=its'.toArray.size
   ·have q:=RcAt.lists (e:=uJ xs ys) t1 t2 hz hu (oi (A:=A.in1) I (by first|rw[<-dH];exact pa|rw[<-dN];exact pa) (by first|rw[<-dH];exact pb|rw[<-dN];exact pb) hd h1 h2 r1 r2 (by rw[in1_units];omega));rw[z1]at q;have hz':xs.length=ys.length:=(by omega);rw[<-hz',Pt]at er;simp only[beq_self_eq_true,Pu]at er;rw[er]at q;unfold pyEq;exact q
   ·have q:=RcAt.lists_lengths (A:=A) t1 t2 (by simpa using hz) hu;have hz':(xs.length==ys.length)=false:=by
     rw[z1,z2]at hz
     simpa using hz
    rw[hz',Pw]at er;unfold pyEq;rw[<-er];exact q
theorem yQ(I:Inv X pins σ H s){n:Nat}{a b:D}{x y:V}{u v:RF}{A:RV}(pa:pl a=true)(pb:pl b=true)(hd:df (n+1) a=true\/df (n+1) b=true)(ha:cz X.K H a x)(hb:cz X.K H b y)(ru:RelV x u)(rv:RelV y v)(hA:A.units+n+1<Sl):RcNeAt A s u v (!pyEq a b):=by
 have hu:A.units<Sl:=by omega
 cases dW I (eO pa) ha ru with
 |non=>cases dW I (eO pb) hb rv with
  |non=>unfold pyEq;exact .none_none
  |bl b=>unfold pyEq;exact .none_bool b
  |int i t=>unfold pyEq;exact .none_int i t
  |str x t=>unfold pyEq;exact .none_str x t
  |tup h r t=>unfold pyEq;exact .none_tuple t hu
  |lst h r t=>unfold pyEq;exact .none_list t hu
 |bl z=>cases dW I (eO pb) hb rv with
  |non=>unfold pyEq;exact .bool_none z
  |bl b=>unfold pyEq;exact .bool_bool z b
  |int i t=>unfold pyEq;exact .bool_int z i t
  |str x t=>unfold pyEq;exact .bool_str z x t
  |tup h r t=>unfold pyEq;exact .bool_tuple z t hu
  |lst h r t=>unfold pyEq;exact .bool_list z t hu
 |int z tz=>cases dW I (eO pb) hb rv with
  |non=>unfold pyEq;exact .int_none z tz
  |bl b=>unfold pyEq;exact .int_bool z tz b
  |int i t=>unfold pyEq;exact .int_int z tz i t
  |str x t=>unfold pyEq;exact .int_str z tz x t
  |tup h r t=>unfold pyEq;exact .int_tuple z tz t hu
  |lst h r t=>unfold pyEq;exact .int_list z tz t hu
 |str z tz=>cases dW I (eO pb) hb rv with
  |non=>unfold pyEq;exact .str_none z tz
  |bl b=>unfold pyEq;exact .str_bool z tz b
  |int i t=>unfold pyEq;exact .str_int z tz i t
  |str x t=>unfold pyEq;exact .str_str z tz x t
  |tup h r t=>unfold pyEq;exact .str_tuple z tz t hu
  |lst h r t=>unfold pyEq;exact .str_list z tz t hu
 |@tup xs p vs its h1 r1 t1=>cases dW I (eO pb) hb rv with
  |non=>unfold pyEq;exact .tuple_none t1 hu
  |bl b=>unfold pyEq;exact .tuple_bool b t1 hu
  |int i t=>unfold pyEq;exact .tuple_int i t t1 hu
  |str x t=>unfold pyEq;exact .tuple_str x t t1 hu
  |@tup ys p' vs' its' h2 r2 t2=>
   have q:=RcNeAt.tuples (e:=uJ xs ys) t1 t2 hu (oi (A:=A.in1) I (by first|rw[<-dH];exact pa|rw[<-dN];exact pa) (by first|rw[<-dH];exact pb|rw[<-dN];exact pb) hd h1 h2 r1 r2 (by rw[in1_units];omega));have z1:its.toArray.size=xs.length:=(by rw[OB,<-r1.length,<-h1.length]);have z2:its'.toArray.size=ys.length:=(by rw[OB,<-r2.length,<-h2.length]);rw[z1,z2,fg]at q;unfold pyEq;exact q
  |lst h r t=>unfold pyEq;exact .tuple_list t1 t hu
 |@lst xs p vs its h1 r1 t1=>cases dW I (eO pb) hb rv with
  |non=>unfold pyEq;exact .list_none t1 hu
  |bl b=>unfold pyEq;exact .list_bool b t1 hu
  |int i t=>unfold pyEq;exact .list_int i t t1 hu
  |str x t=>unfold pyEq;exact .list_str x t t1 hu
  |tup h r t=>unfold pyEq;exact .list_tuple t1 t hu
  |@lst ys p' vs' its' h2 r2 t2=>
   have z1:its.toArray.size=xs.length:=(by rw[OB,<-r1.length,<-h1.length]);have z2:its'.toArray.size=ys.length:=(by rw[OB,<-r2.length,<-h2.length]);have er:=fg xs ys;by_cases hz:its.toArray.size=its'.toArray.size
   ·have q:=RcNeAt.lists (e:=uJ xs ys) t1 t2 hz hu (oi (A:=A.in1) I (by first|rw[<-dH];exact pa|rw[<-dN];exact pa) (by first|rw[<-dH];exact pb|rw[<-dN];exact pb) hd h1 h2 r1 r2 (by rw[in1_units];omega));rw[z1]at q;have hz':xs.length=ys.length:=(by omega);rw[<-hz',Pt]at er;simp only[beq_self_eq_true,Pu]at er;rw[er]at q;unfold pyEq;exact q
   ·have q:=RcNeAt.lists_lengths (A:=A) t1 t2 (by simpa using hz) hu;have hz':(xs.length==ys.length)=false:=by
     rw[z1,z2]at hz
     simpa using hz
    rw[hz',Pw]at er;unfold pyEq;rw[<-er];exact q
end
section
variable{X:Cx}
noncomputable def rD(K:QG)(g:D->D->bB):R2:=λx y H Q=>∃O a b d,dL H O/\cz K (hid H O) a x/\cz K (hid H O) b y/\g a b=some d/\∀v H',aP H H'->cz K (hid H' O) d v->Q v H'
theorem bK{K:QG}{g:D->D->bB}:dh K (rD K g) g:=λa b d x y O H Q hO hg ha hb q=>⟨O,a,b,d,hO,ha,hb,hg,q⟩
theorem lE{f : RF -> RF -> Sem RF}{g : D -> D -> bB}(h : ∀ (pins : bc) (s : RL) (σ : St) (H : Hp) (a b d : D) (x y : V) (u v : RF), Inv X pins σ H s -> cz X.K H a x -> cz X.K H b y -> RelV x u -> RelV y v -> g a b = some d ->
      ∃c,d=.bl c/\∀(Q:bX),Q (.bool c) s->RY (model X.prog X.w) X.A (f u v) Q X.xe s):gZ X f (rD X.K g):=by
  rintro pins s σ H x y u v Q I rx ry ⟨O,a,b,d,hO,ha,hb,hg,q⟩;obtain⟨c,rfl,hq⟩:=h pins s σ H a b d x y u v I (ha.mono (aF H O)) (hb.mono (aF H O)) rx ry hg;exact hq _ ⟨.bl c,H,I,rfl,q _ H (aP.refl H) (iT.mpr rfl)⟩
noncomputable def fw(a b:D):bB:=if(pl a&&pl b)&&(df 8 a||df 8 b)then some (.bl (pyEq a b))else none
noncomputable def mC(a b:D):bB:=if(pl a&&pl b)&&(df 8 a||df 8 b)then some (.bl (!pyEq a b))else none
theorem zJ(hu:X.A.units+64<Sl):gZ X (R3 .Eq) (rD X.K fw):=lE λpins s σ H a b d x y u v I ha hb ru rv hg=>by
 obtain⟨h1,h2⟩:=aY hg;subst h2;rw[O0,O0,Px]at h1;exact⟨_,rfl,λQ q=>Ft (n:=7) (A:=X.A) I h1.1.1 h1.1.2 h1.2 ha hb ru rv ‹0› X.prog X.w X.xe Q q⟩
theorem AX(hu:X.A.units+64<Sl):gZ X (R3 .NotEq) (rD X.K mC):=lE λpins s σ H a b d x y u v I ha hb ru rv hg=>by
 obtain⟨h1,h2⟩:=aY hg;subst h2;rw[O0,O0,Px]at h1;exact⟨_,rfl,λQ q=>yQ (n:=7) (A:=X.A) I h1.1.1 h1.1.2 h1.2 ha hb ru rv ‹0› X.prog X.w X.xe Q q⟩
noncomputable def inD(x:D)(ys:List D):Bool:=ys.any λy=>pyEq y x
noncomputable def vw(x y:D):bB:=match y with
 |.tup ys=>if(pl x&&oq ys)&&df 8 x then some (.bl (inD x ys))else none
 |.lst ys=>if(pl x&&oq ys)&&df 8 x then some (.bl (inD x ys))else none
 |_=>none
noncomputable def o6(x y:D):bB:=match y with
 |.tup ys=>if(pl x&&oq ys)&&df 8 x then some (.bl (!inD x ys))else none
 |.lst ys=>if(pl x&&oq ys)&&df 8 x then some (.bl (!inD x ys))else none
 |_=>none
open Classical in
theorem vA{pins:bc}{σ:St}{H:Hp}{s:RL}(I:Inv X pins σ H s){xd:D}{x:V}{u:RF}{A:RV}(px:pl xd=true)(hd:df 8 xd=true)(hx:cz X.K H xd x)(ru:RelV x u)(hA:A.units+8<Sl){ys:List D}{vs:aE}{its:bb}(py:oq ys=true)(hy:aI X.K H ys vs)(rv:Vals vs its):
  ∃e:RF->Bool,(∀y,y∈its.toArray->EqAt A s y u (e y))/\its.toArray.any e=inD xd ys:=by
 let e:RF->Bool:=λy=>decide (∃d w,pl d=true/\cz X.K H d w/\RelV w y/\pyEq d xd=true)
 have he:∀d w y,pl d=true->cz X.K H d w->RelV w y->e y=pyEq d xd:=λd w y h0 h1 h2=>by
  cases hq:pyEq d xd with
  |true=>exact decide_eq_true ⟨d,w,h0,h1,h2,hq⟩
  |false=>
   refine decide_eq_false ?_;rintro⟨d',w',g0,g1,g2,g3⟩;have ew:=RelV.inj h2 g2;subst ew;rw[Inv.den_inj I h0 g0 h1 g1,g3]at hq;cases hq
 refine⟨e,λy hy'=>?_,?_⟩
 ·have hm:y∈its:=by simpa using hy'
  obtain⟨j,hj,rfl⟩:=List.getElem_of_mem hm;obtain⟨w,e1,r1⟩:=ly rv (j:=j) (by simpa using hj);obtain⟨d,f1,g1⟩:=lI hy e1;have r1':RelV w its[j]:=by simpa using r1
  have pd:=jY py _ (OW f1);rw[he d w _ pd g1 r1'];exact yV I 8 d xd w x _ u A pd px (.inr hd) g1 hx r1' ru hA
 ·unfold inD;have go:∀(ys:List D)(vs:aE)(its:bb),oq ys=true->aI X.K H ys vs->Vals vs its->its.any e=ys.any λy=>pyEq y xd:=by
   intro ys
   induction ys with
   |nil=>
    intro vs its py h r;rw[cw]at h;subst h;cases r;rfl
   |cons y ys ih=>
    intro vs its py h r;unfold oq at py;rw[O0]at py;rw[aM]at h;obtain⟨v,r',e1,h1,h2⟩:=h;subst e1;cases r with
    |cons q1 q2=>rw[O7,O7,he y v _ py.1 h1 q1,ih _ _ py.2 h2 q2]
  rw[List.any_toArray];exact go ys vs its py hy rv
theorem Az(hu:X.A.units+64<Sl):gZ X (R3 .In) (rD X.K vw):=lE λpins s σ H a b d x y u v I ha hb ru rv hg=>by
 cases b with
 |tup ys=>
  obtain⟨h1,h2⟩:=aY hg;subst h2;rw[O0,O0]at h1;rw[cj]at hb;obtain⟨p,vs,e,g1,g2⟩:=hb;subst e;cases rv;obtain⟨its,r,t,_⟩:=I.tuple (nO.of g1);obtain⟨e,he,ea⟩:=vA (A:=X.A.in1) I h1.1.1 h1.2 ha ru (by rw[in1_units];omega) h1.1.2 g2 r;exact⟨_,rfl,λQ q=>SeqAt.in_tupleAt e (show s.heap.IsTuple p its.toArray from t) he (by rw[ea];exact q)⟩
 |lst ys=>
  obtain⟨h1,h2⟩:=aY hg;subst h2;rw[O0,O0]at h1;rw[cq]at hb;obtain⟨p,vs,e,g1,g2⟩:=hb;subst e;cases rv;obtain⟨its,r,t,_⟩:=I.list g1;obtain⟨e,he,ea⟩:=vA (A:=X.A.in1) I h1.1.1 h1.2 ha ru (by rw[in1_units];omega) h1.1.2 g2 r;exact⟨_,rfl,λQ q=>SeqAt.in_listAt e t.isList he (by rw[ea];exact q)⟩
 |_=>cases hg
theorem qK(hu:X.A.units+64<Sl):gZ X (R3 .NotIn) (rD X.K o6):=lE λpins s σ H a b d x y u v I ha hb ru rv hg=>by
 cases b with
 |tup ys=>
  obtain⟨h1,h2⟩:=aY hg;subst h2;rw[O0,O0]at h1;rw[cj]at hb;obtain⟨p,vs,e,g1,g2⟩:=hb;subst e;cases rv;obtain⟨its,r,t,_⟩:=I.tuple (nO.of g1);obtain⟨e,he,ea⟩:=vA (A:=X.A.in1) I h1.1.1 h1.2 ha ru (by rw[in1_units];omega) h1.1.2 g2 r;exact⟨_,rfl,λQ q=>SeqAt.notIn_tupleAt e (show s.heap.IsTuple p its.toArray from t) he (by rw[ea];exact q)⟩
 |lst ys=>
  obtain⟨h1,h2⟩:=aY hg;subst h2;rw[O0,O0]at h1;rw[cq]at hb;obtain⟨p,vs,e,g1,g2⟩:=hb;subst e;cases rv;obtain⟨its,r,t,_⟩:=I.list g1;obtain⟨e,he,ea⟩:=vA (A:=X.A.in1) I h1.1.1 h1.2 ha ru (by rw[in1_units];omega) h1.1.2 g2 r;exact⟨_,rfl,λQ q=>SeqAt.notIn_listAt e t.isList he (by rw[ea];exact q)⟩
 |_=>cases hg
noncomputable def FY(p:Int->Int->D)(a b:D):bB:=match a,b with
 |.int i,.int j=>some (p i j)
 |_,_=>none
noncomputable def NZ:=FY λi j=>.bl (decide (i<j))
noncomputable def sI:=FY λi j=>.bl (decide (i<=j))
noncomputable def G7:=FY λi j=>.bl (decide (j<i))
noncomputable def He:=FY λi j=>.bl (decide (j<=i))
theorem cF{K:QG}{g:Int->Int->Bool}:dh K (yM λi j=>.bl (g i j)) (FY λi j=>.bl (g i j)):=λa b d x y O H Q hO hg ha hb q=>by
 cases a with
 |int i=>
  cases b with
  |int j=>cases hg;exact⟨i,j,eM.mp ha,eM.mp hb,q _ H (aP.refl H) (iT.mpr rfl)⟩
  |_=>cases hg
 |_=>cases hg
theorem uT{K:QG}{g:Int->Int->Int}:dh K (yM λi j=>.int (g i j)) (FY λi j=>.int (g i j)):=λa b d x y O H Q hO hg ha hb q=>by
 cases a with
 |int i=>
  cases b with
  |int j=>cases hg;exact⟨i,j,eM.mp ha,eM.mp hb,q _ H (aP.refl H) (eM.mpr rfl)⟩
  |_=>cases hg
 |_=>cases hg
noncomputable def IL(c:Int->Int->Bool)(p:Int->Int->Int)(a b:D):bB:=match a,b with
 |.int i,.int j=>if c i j then some (.int (p i j))else none
 |_,_=>none
theorem jU{K:QG}{C:Int->Int->Prop}{c:Int->Int->Bool}{g:Int->Int->Int}(hc:∀i j,c i j=true->C i j):dh K (rI C λi j=>.int (g i j)) (IL c g):=λa b d x y O H Q hO hg ha hb q=>by
 cases a with
 |int i=>
  cases b with
  |int j=>
   obtain⟨h1,h2⟩:=aY hg;subst h2;exact⟨i,j,eM.mp ha,eM.mp hb,hc i j h1,q _ H (aP.refl H) (eM.mpr rfl)⟩
  |_=>cases hg
 |_=>cases hg
noncomputable def kU:=FY λi j=>.int (i-j)
noncomputable def gP:=IL (λi j=>decide ((-(2^64)<i/\i<2^64)\/(-(2^64)<j/\j<2^64))) (·*·)
noncomputable def Ed(_ j:Int):Prop:=0<j/\j<10^200
theorem zX:gZ X (Se .FloorDiv) (rI Ed λi j=>.int (i/j)):=Jd λi j _ _ _ _ _ hc q=>by
 have h1:(0:Int)<j:=hc.1;have h2:j<10^200:=hc.2;refine PyProof.Rows.floordiv_int ‹0› (by rw[Int.fdiv_eq_ediv_of_nonneg i ‹0›];exact q) (.inl (PyProof.noPylong_of_log2 ?_));have h3:j.natAbs<10^200:=by omega
 rw[Nat.log2_lt ‹0›];exact O8 h3 (by decide +kernel)
noncomputable def eB:=IL (λ_ j=>decide (0<j/\j<10^200)) (·/·)
noncomputable def cI:=IL (λ_ j=>decide (0<j)) (·%·)
noncomputable def pS:=IL (λi j=>decide (0<=j/\j<=1000000/\i.natAbs<2^64)) λi j=>i^j.toNat
theorem Gq{K:QG}:dh K (yM λi j=>.int (i-j)) kU:=uT
theorem z9{K:QG}:dh K (rI EY λi j=>.int (i*j)) gP:=jU λi j h=>by have q:=of_decide_eq_true h;exact q
theorem Gj{K:QG}:dh K (rI Ed λi j=>.int (i/j)) eB:=jU λi j h=>by have q:=of_decide_eq_true h;exact q
theorem FZ{K:QG}:dh K (rI (λ_ j=>0<j) λi j=>.int (i%j)) cI:=jU λ_ _ h=>of_decide_eq_true h
theorem GI{K:QG}:dh K (rI Ih λi j=>.int (i^j.toNat)) pS:=jU λi j h=>by have q:=of_decide_eq_true h;exact q
noncomputable def Iq(K:QG):R2:=λx y H Q=>∃l b xs zs,x=.ref l/\y=.ref b/\lM K H l xs/\lM K H b zs/\xs.length+zs.length<=RQ/\∀p,H p=none->Q (.ref p) (upd H p (.lst (xs++zs)))
theorem DN:gZ X (Se .Add) (Iq X.K):=by
 intro pins s σ H x y v u Q I rx ry h;obtain⟨l,b,xs,zs,rfl,rfl,hH,hB,hz,q⟩:=h;cases rx;cases ry;obtain⟨its,r,t1,_⟩:=I.list hH;obtain⟨its2,r2,t2,_⟩:=I.list hB;obtain⟨⟨c1,d1,dt1,sl1⟩,n1,ho,hc,hd,hdt⟩:=t1;obtain⟨⟨c2,d2,dt2,sl2⟩,n2,ho2,hc2,hd2,hdt2⟩:=t2;simp only at hc hd hdt hc2 hd2 hdt2;subst hc hd hdt hc2 hd2 hdt2;have z1:=r.length;have z2:=r2.length;refine Sx ⟨_,ho,rfl⟩ ⟨_,ho2,rfl⟩ noFill_list_add seq_list_add F.slot_list_add F.entry_list_add (F.args_list_add_2 _ _) (PyProof.Rows.list_addW l b its.toArray its2.toArray n1 n2 none none sl1 sl2 (by rw[OB,OB];omega)) ⟨ho,ho2,?_⟩;have ea:its.toArray++its2.toArray=(its++its2).toArray:=by simp
 rw[ea];exact⟨.ref _,_,I.lnew (t':=s.toks) (r.append r2) (by rw[OX];omega),rfl,q _ I.fresh⟩
noncomputable def EF(K:QG):R2:=λx y H Q=>∃a b xs ys,x=.ref a/\y=.ref b/\nO K H a xs/\nO K H b ys/\xs.length+ys.length<=RQ/\
 (xs=[]->Q (.ref b) H)/\(xs≠[]->ys=[]->Q (.ref a) H)/\(xs≠[]->ys≠[]->∀p,H p=none->Q (.ref p) (upd H p (.tup (xs++ys))))
theorem zI:gZ X (Se .Add) (EF X.K):=by
 intro pins s σ H x y v u Q I rx ry h;obtain⟨a,b,xs,ys,ex,ey,ha,hb,hz,q0,q1,q2⟩:=h;by_cases hx:xs=[]
 ·subst ex ey;cases rx;cases ry;obtain⟨its,r1,p1,_⟩:=I.tuple ha;obtain⟨its2,r2,p2,_⟩:=I.tuple hb;obtain⟨⟨cls,dd,data,sl⟩,ho,hc,n,hd⟩:=id p1;obtain⟨⟨cls2,dd2,data2,sl2⟩,ho2,hc2,n2,hd2⟩:=id p2;simp only at hc hd hc2 hd2;subst hc hd hc2 hd2;have e:its=[]:=r1.nil_iff.mpr hx;exact Sx ⟨_,ho,rfl⟩ ⟨_,ho2,rfl⟩ Sy Sz F.slot_tuple_add F.entry_tuple_add (F.args_tuple_add_2 _ _)
   (PyProof.Rows.tuple_addW0 a b its.toArray its2.toArray n n2 dd dd2 sl sl2 (by rw[e];rfl)) ⟨ho,ho2,⟨.ref b,H,I,rfl,q0 hx⟩⟩
 ·exact BV pins s σ H x y v u Q I rx ry ⟨a,b,xs,ys,ex,ey,ha,hb,hx,hz,q1 hx,q2 hx⟩
noncomputable def bm(a b:D):bB:=match a,b with
 |.int i,.int j=>some (.int (i+j))
 |.str x,.str y=>if small (x.length+y.length)then some (.str (x++y))else none
 |.lst xs,.lst ys=>if small (xs.length+ys.length)then some (.lst (xs++ys))else none
 |.tup xs,.tup ys=>if small (xs.length+ys.length)then some (.tup (xs++ys))else none
 |_,_=>none
theorem DJ:gZ X (Se .Add) (rD X.K bm):=by
 rintro pins s σ H x y u v Q I rx ry ⟨O,a,b,d,hO,ha,hb,hg,q⟩;cases a with
 |int i=>
  cases b with
  |int j=>
   cases hg;exact Fo pins s σ H x y u v Q I rx ry ⟨i,j,eM.mp ha,eM.mp hb,q _ H (aP.refl H) (eM.mpr rfl)⟩
  |_=>cases hg
 |str i=>
  cases b with
  |str j=>
   obtain⟨h1,h2⟩:=aY hg;subst h2;exact uq pins s σ H x y u v Q I rx ry ⟨i,j,eF.mp ha,eF.mp hb,dE h1,q _ H (aP.refl H) (eF.mpr rfl)⟩
  |_=>cases hg
 |lst xs=>
  cases b with
  |lst ys=>
   obtain⟨h1,h2⟩:=aY hg;subst h2;rw[cq]at ha hb;obtain⟨p,vs,ex,g1,g2⟩:=ha;obtain⟨p',vs',ey,g1',g2'⟩:=hb;refine DN pins s σ H x y u v Q I rx ry ⟨p,p',vs,vs',ex,ey,(aF H O).seq g1,(aF H O).seq g1',?_,λr hr=>?_⟩
   ·rw[<-g2.length,<-g2'.length];exact dE h1
   ·exact q _ _ (du hr _) (jp hO hr (g2.append g2'))
  |_=>cases hg
 |tup xs=>
  cases b with
  |tup ys=>
   obtain⟨h1,h2⟩:=aY hg;subst h2;have da:=ha;have db:=hb;rw[cj]at ha hb;obtain⟨p,vs,ex,g1,g2⟩:=ha;obtain⟨p',vs',ey,g1',g2'⟩:=hb;have l1:=g2.length;have l2:=g2'.length;refine zI pins s σ H x y u v Q I rx ry ⟨p,p',vs,vs',ex,ey,cB (aF H O) g1,cB (aF H O) g1',?_,λz=>?_,λz z'=>?_,λz z' r hr=>?_⟩
   ·rw[<-l1,<-l2];exact dE h1
   ·have e:xs=[]:=List.length_eq_zero_iff.mp (by rw[l1,z];rfl);rw[<-ey];refine q _ H (aP.refl H) ?_;rw[e,Py];exact db
   ·have e:ys=[]:=List.length_eq_zero_iff.mp (by rw[l2,z'];rfl);rw[<-ex];refine q _ H (aP.refl H) ?_;rw[e,OM];exact da
   ·exact q _ _ (du hr _) (d9 hO hr (g2.append g2'))
  |_=>cases hg
 |_=>cases hg
noncomputable def ai(a b:D):bB:=match a,b with
 |.tup xs,.int i=>nH xs i
 |.lst xs,.int i=>nH xs i
 |.str x,.int i=>if small x.length then(nH x.cps.toList i).bind λc=>some (.str ⟨#[c]⟩)else none
 |_,_=>none
theorem vF{K:QG}{H:Hp}{ds:List D}{vs:aE}{i:Int}{d:D}(h:aI K H ds vs)(e:nH ds i=some d):∃v,nH vs i=some v/\cz K H d v:=by
 unfold nH at e ⊢;obtain⟨j,e1,e2⟩:=bind_some e;rw[<-h.length,e1];exact h.get e2
theorem K2:I0 X (rD X.K ai):=by
 rintro value slice pins s σ H x y u v Q I rx ry ⟨O,a,b,d,hO,ha,hb,hg,q⟩ hsub;cases a with
 |tup xs=>
  cases b with
  |int i=>
   rw[cj]at ha;obtain⟨p,vs,ex,g1,g2⟩:=ha;obtain⟨w,e1,e2⟩:=vF g2 hg;refine Eo value slice pins s σ H x y u v Q I rx ry ?_ hsub;exact⟨p,vs,i,w,ex,eM.mp hb,cB (aF H O) g1,e1,q w H (aP.refl H) e2⟩
  |_=>cases hg
 |lst xs=>
  cases b with
  |int i=>
   rw[cq]at ha;obtain⟨p,vs,ex,g1,g2⟩:=ha;obtain⟨w,e1,e2⟩:=vF g2 hg;refine Cp value slice pins s σ H x y u v Q I rx ry ?_ hsub;exact⟨p,vs,i,w,ex,eM.mp hb,(aF H O).seq g1,e1,q w H (aP.refl H) e2⟩
  |_=>cases hg
 |str z=>
  cases b with
  |int i=>
   have hg':(if small z.length then(nH z.cps.toList i).bind λc=>some (D.str ⟨#[c]⟩)else none)=some d:=hg;cases hs:small z.length with
   |false=>rw[hs]at hg';cases hg'
   |true=>
    rw[hs]at hg';obtain⟨c,e1,e2⟩:=bind_some hg';cases e2;refine GJ value slice pins s σ H x y u v Q I rx ry ?_ hsub;exact⟨z,i,c,eF.mp ha,eM.mp hb,dE hs,e1,q _ H (aP.refl H) (eF.mpr rfl)⟩
  |_=>cases hg
 |_=>cases hg
noncomputable def cutD{α:Type}(xs:List α)(lo hi:dA):List α:=(xs.drop (HT.sIx xs.length 0 lo)).take (HT.sIx xs.length xs.length hi-HT.sIx xs.length 0 lo)
theorem pF{M:RX}{A:RV}{E:bX}{s:RL}{t:RH}{items:Array RF}{Q:Bool->jE}(ht:Ry s.heap t items)(h:Q true s):RY M A (Builtin.Tuple.tupleIsExact (.ref t)) Q E s:=by
 unfold Builtin.Tuple.tupleIsExact;refine R8 (wpAny_typeOf ht.typeIs ?_);exact R7 h
theorem kr{prog:RN}{w:RM}{A:RV}{E:bX}{s:RL}{t sl:RH}{items:Array RF}{vl vu:RF}{lo hi:dA}{Q:bX}(ht:Ry s.heap t items)(hs:s.heap.IsSliceOf sl vl vu .none)(pl:SA vl lo)(pu:SA vu hi)
  (hw:HT.sIx items.size 0 lo=0/\HT.sIx items.size items.size hi=items.size) (h:Q (.ref t) s):RY (model prog w) A (getItem (.ref t) (.ref sl)) Q E s:=by
 obtain⟨os,hos,hcs,hds⟩:=id hs;have hTs:s.TypeIs (.ref sl) "slice":=⟨os,hos,hcs⟩
 unfold getItem
 try with_reducible refine SE ?_
 first|refine R8 (R7 ?_)|skip
 refine R8 (wpAny_sequenceKey ht.typeIs (by decide) ?_);refine R8 (SG (name:=Str.ofString "__getitem__") ht.typeIs Rw
  (SH Rw ht.typeIs PyProof.Rows.entry_tuple_getitem ?_ (PyProof.Rows.args_tuple_getitem _ _)))
 show RY _ _ (Builtin.Tuple.tupleItemsOf (.ref t) >>= _) _ _ s;refine R8 (PyProof.Rows.tupleItemsOf_ ht ?_);refine R8 (wpAny_typeOf hTs ?_);rw[if_pos (by decide)];refine R8 (HT.lY hs pl pu ?_);have hyes:(((HT.sIx items.size 0 lo:Nat):Int)==0&&(1:Int)==1&&(HT.sIx items.size items.size hi-HT.sIx items.size 0 lo)==items.size)=true:=by
  rw[hw.1,hw.2];simp
 show RY _ _ (if(((HT.sIx items.size 0 lo:Nat):Int)==0&&(1:Int)==1&&(HT.sIx items.size items.size hi-HT.sIx items.size 0 lo)==items.size)=true then _ else _) _ _ s;rw[if_pos hyes];refine R8 (pF ht ?_);rw[if_pos rfl]
 first
  |exact R8 (SL (R7 ⟨_,rfl,R7 h⟩))
  |exact R8 (SL (R8 (R7 (R7 ⟨_,rfl,R7 h⟩))))
noncomputable def oW(a:D)(lo hi:dA):bB:=match a with
 |.lst xs=>some (.lst (cutD xs lo hi))
 |.tup xs=>some (.tup (cutD xs lo hi))
 |.str x=>if small x.length then some (.str ⟨(cutD x.cps.toList lo hi).toArray⟩)else none
 |_=>none
theorem D9(v:dA)(d n:Nat)(hd:d<=n):(match v with|none=>(d:Int)|some i=>if(1:Int)>0 then max 0 (min (if i<0 then i+(n:Int)else i) (n:Int))else max (-1) (min (if i<0 then i+(n:Int)else i) ((n:Int)-1)))=((HT.sIx n d v:Nat):Int):=by
 cases v with
 |none=>rfl
 |some i=>
  show(if(1:Int)>0 then max 0 (min (if i<0 then i+(n:Int)else i) (n:Int))else max (-1) (min (if i<0 then i+(n:Int)else i) ((n:Int)-1)))=(((if i<0 then(i+(n:Int)).toNat else min i.toNat n):Nat):Int)
  rw[if_pos (by decide)];by_cases h:i<0
  ·rw[if_pos h,if_pos h];omega
  ·rw[if_neg h,if_neg h];omega
theorem zC(lo hi:dA)(n:Nat):Builtin.Str.strSliceIndices lo hi 1 n=(List.range (HT.sIx n n hi-HT.sIx n 0 lo)).map λk=>HT.sIx n 0 lo+k:=by
 have e1:=D9 lo 0 n (OL _);have e2:=D9 hi n n (Oz _);have e:Builtin.Str.strSliceIndices lo hi 1 n=sliceRange ((HT.sIx n 0 lo:Nat):Int) ((HT.sIx n n hi:Nat):Int) 1:=by
  rw[<-e1,<-e2];cases lo<;>cases hi<;>rfl
 rw[e];unfold sliceRange;dsimp only;rw[if_pos (by decide:(1:Int)>0)];have e3:(if((HT.sIx n 0 lo:Nat):Int)<((HT.sIx n n hi:Nat):Int)then(((HT.sIx n n hi:Nat):Int)-((HT.sIx n 0 lo:Nat):Int)+1-1)/1 else 0:Int).toNat=HT.sIx n n hi-HT.sIx n 0 lo:=by
  rw[Int.ediv_one];split<;>omega
 rw[e3];refine Pz λk _=>?_;omega
theorem zc{α:Type}(l:List α)(a:Nat):∀n:Nat,((List.range n).map λk=>a+k).filterMap (λi=>l[i]?)=(l.drop a).take n
 |0=>by simp
 |n+1=>by
  rw[List.range_succ,PB,List.filterMap_append,zc l a n,List.take_add_one,List.getElem?_drop];cases e:l[a+n]?<;>simp[e]
theorem xK(x:Str)(lo hi:dA):Txt.slice x lo hi=⟨(cutD x.cps.toList lo hi).toArray⟩:=by
 have hl:x.cps.toList.length=x.length:=by simp[Str.length]
 have pick:(Builtin.Str.strSliceIndices lo hi 1 x.length).filterMap (x.cps[·]?)=cutD x.cps.toList lo hi:=by
  rw[zC];have q:=zc x.cps.toList (HT.sIx x.length 0 lo) (HT.sIx x.length x.length hi-HT.sIx x.length 0 lo);unfold cutD;rw[hl,<-q];congr 1;funext i;simp
 unfold Txt.slice;split
 ·rename_i h;have h':(Builtin.Str.strSliceIndices lo hi 1 x.length).length=x.length:=by simpa using h
  rw[zC,OI,PD]at h';have h1:=HT.Fi x.length x.length (Oz _) hi;have z1:HT.sIx x.length 0 lo=0\/x.length=0:=by omega
  have e:cutD x.cps.toList lo hi=x.cps.toList:=by
   unfold cutD;rw[hl,h'];rcases z1 with z1|z1
   ·rw[z1,Pl,<-hl,List.take_length]
   ·have:x.cps.toList=[]:=List.length_eq_zero_iff.mp (by rw[hl];exact z1)
    rw[this];simp
  rw[e]
 ·rw[pick]
noncomputable def KU(K:QG):V->dA->dA->Hp->VK->Prop:=λx lo hi H Q=>∃O a d,dL H O/\cz K (hid H O) a x/\oW a lo hi=some d/\∀v H',aP H H'->cz K (hid H' O) d v->Q v H'
theorem aI.cut{K:QG}{H:Hp}{ds:List D}{vs:aE}(h:aI K H ds vs)(lo hi:dA):aI K H (cutD ds lo hi) (t6 vs lo hi):=by
 unfold cutD t6;rw[h.length];exact(h.drop _).take _
theorem Lq:Jy X (KU X.K):=by
 rintro pins s σ H x v vl vu lo hi sl Q I rx hs pl pu ⟨O,a,d,hO,ha,hg,q⟩;cases a with
 |lst xs=>
  cases hg;rw[cq]at ha;obtain⟨p,vs,ex,g1,g2⟩:=ha;exact Dc pins s σ H x v vl vu lo hi sl Q I rx hs pl pu ⟨p,vs,ex,(aF H O).seq g1,λr hr=>q _ _ (du hr _) (jp hO hr (g2.cut lo hi))⟩
 |tup xs=>
  cases hg;have da:=ha;rw[cj]at ha;obtain⟨p,vs,ex,g1,g2⟩:=ha;by_cases hw:HT.sIx vs.length 0 lo=0/\HT.sIx vs.length vs.length hi=vs.length
  ·subst ex;cases rx;obtain⟨its,r,ht,hz⟩:=I.tuple (cB (aF H O) g1);have hlen:its.toArray.size=vs.length:=(by rw[OB];exact r.length.symm);refine⟨"tuple",_,PyProof.Rows.slot_tuple_getitem.lookup,ht.typeIs,kr ht hs pl pu (by rw[hlen];exact hw) ⟨.ref p,H,I,rfl,q _ H (aP.refl H) ?_⟩⟩;have e:cutD xs lo hi=xs:=by
    unfold cutD;rw[g2.length,hw.1,hw.2,PF,Pl,<-g2.length,List.take_length]
   rw[e];exact da
  ·exact Gd pins s σ H x v vl vu lo hi sl Q I rx hs pl pu ⟨p,vs,ex,cB (aF H O) g1,hw,λr hr=>q _ _ (du hr _) (d9 hO hr (g2.cut lo hi))⟩
 |str z=>
  obtain⟨h1,h2⟩:=aY hg;subst h2;rw[eF]at ha;subst ha;obtain⟨t,rfl⟩:=rx;have fin:∀t' tk,EP X pins σ Q (.str (Txt.slice z lo hi) t') {s with toks:=tk}:=λt' tk=>by
   rw[xK];exact⟨.str _,H,I.tok _,⟨_,rfl⟩,q _ H (aP.refl H) (eF.mpr rfl)⟩
  obtain⟨os,hos,hcs,hds⟩:=id hs;have hz:=dE h1;refine⟨"str",_,F.slot_str_getitem.lookup,typeIs_str _ _ _,?_⟩;cases pl with
  |none=>
   cases pu with
   |none=>exact SM (l:=none) (u:=none) (st:=none) ⟨os,hos,hcs,hds⟩ rfl (SN ⟨Om (Txt.slice_le z _ _) hz,λt' k=>fin t' k⟩)
   |int j tj=>exact SM (l:=none) (u:=some (j,tj)) (st:=none) ⟨os,hos,hcs,hds⟩ rfl (SN ⟨Om (Txt.slice_le z _ _) hz,λt' k=>fin t' k⟩)
  |int i ti=>
   cases pu with
   |none=>exact SM (l:=some (i,ti)) (u:=none) (st:=none) ⟨os,hos,hcs,hds⟩ rfl (SN ⟨Om (Txt.slice_le z _ _) hz,λt' k=>fin t' k⟩)
   |int j tj=>exact SM (l:=some (i,ti)) (u:=some (j,tj)) (st:=none) ⟨os,hos,hcs,hds⟩ rfl (SN ⟨Om (Txt.slice_le z _ _) hz,λt' k=>fin t' k⟩)
 |_=>cases hg
noncomputable def gA:ao->R (dA):=λ_=>.ok none
noncomputable def uI:D->Option (dA)
 |.int i=>some (some i)
 |_=>none
noncomputable def nM(f:FX):ao->R (dA):=λρ=>(f ρ).bind λd=>rO (uI d)
noncomputable def MJ(X:Cx)(F:ao->R dA):TO:=λσ H Q=>∃O ρ,dD X.K O H ρ σ/\eQ X σ O H (F ρ) λo=>∀H',aP H H'->Q o H'
noncomputable def FO(X:Cx)(e:Option RJ)(F:ao->R dA):Prop:=PO X e (MJ X F)
noncomputable def js(f:FX)(l h:ao->R dA):FX:=λρ=>(f ρ).bind λa=>(l ρ).bind λlo=>(h ρ).bind λhi=>rO (oW a lo hi)
end
end TG
namespace TG
open PySem PySem.Spec L2
variable[au]
noncomputable def A8(K:QG)(g:List D->bB):aE->Hp->VK->Prop:=λxs H Q=>∃O ds d,dL H O/\aI K (hid H O) ds xs/\g ds=some d/\∀v H',aP H H'->cz K (hid H' O) d v->Q v H'
theorem pD{K:QG}{g:List D->bB}:vS K (A8 K g) g:=λds d xs O H Q hO hg hd q=>⟨O,ds,d,hO,hd,hg,q⟩
section
variable{X:Cx}{x:Str}{p pos:Pos}{e:RJ}{es:aZ}{id T:String}{g:List D->bB}{f:aS}
noncomputable def cX:List D->bB
 |[.lst xs]=>some (.int xs.length)
 |[.tup xs]=>some (.int xs.length)
 |[.str x]=>if small x.length then some (.int x.length)else none
 |_=>none
theorem wy:eJ X (.builtin "len") (A8 X.K cX):=by
 rintro pins s σ H xs us Q I r ⟨O,ds,d,hO,hd,hg,q⟩;unfold cX at hg;split at hg
 ·rename_i ys;cases hg;obtain⟨v,ev,h1⟩:=hd.one;rw[cq]at h1;obtain⟨p,vs,ep,g1,g2⟩:=h1;exact kZ pins s σ H xs us Q I r ⟨p,vs,by rw[ev,ep],.inl ((aF H O).seq g1),q _ H (aP.refl H) (eM.mpr (by rw[g2.length]))⟩
 ·rename_i ys;cases hg;obtain⟨v,ev,h1⟩:=hd.one;rw[cj]at h1;obtain⟨p,vs,ep,g1,g2⟩:=h1;exact kZ pins s σ H xs us Q I r ⟨p,vs,by rw[ev,ep],.inr (cB (aF H O) g1),q _ H (aP.refl H) (eM.mpr (by rw[g2.length]))⟩
 ·rename_i z;obtain⟨h1,h2⟩:=aY hg;subst h2;obtain⟨v,ev,h1'⟩:=hd.one;exact sy pins s σ H xs us Q I r ⟨z,by rw[ev,eF.mp h1'],dE h1,q _ H (aP.refl H) (eM.mpr rfl)⟩
 ·cases hg
noncomputable def fH:List D->bB
 |[.lst xs]=>some (.tup xs)
 |[.tup xs]=>some (.tup xs)
 |_=>none
theorem tu:eJ X (.type "tuple") (A8 X.K fH):=by
 rintro pins s σ H xs us Q I r ⟨O,ds,d,hO,hd,hg,q⟩;unfold fH at hg;split at hg
 ·rename_i ys;cases hg;obtain⟨v,ev,h1⟩:=hd.one;rw[cq]at h1;obtain⟨p,vs,ep,g1,g2⟩:=h1;exact ku pins s σ H xs us Q I r ⟨p,vs,by rw[ev,ep],.inl ⟨(aF H O).seq g1,λl hl=>q _ _ (du hl _) (d9 hO hl g2)⟩⟩
 ·rename_i ys;cases hg;obtain⟨v,ev,h1⟩:=hd.one;have h0:=h1;rw[cj]at h1;obtain⟨p,vs,ep,g1,g2⟩:=h1;rw[ep]at h0;exact ku pins s σ H xs us Q I r ⟨p,vs,by rw[ev,ep],.inr ⟨cB (aF H O) g1,q _ H (aP.refl H) h0⟩⟩
 ·cases hg
noncomputable def nE:List D->bB
 |[.int i,.int j]=>some (.int (if j>i then j else i))
 |_=>none
noncomputable def ny:List D->bB
 |[.int i,.int j]=>some (.int (if j<i then j else i))
 |_=>none
theorem ut(hc:X.calm=true):eJ X (.builtin "max") (A8 X.K nE):=by
 rintro pins s σ H xs us Q I r ⟨O,ds,d,hO,hd,hg,q⟩;unfold nE at hg;split at hg
 ·rename_i i j;cases hg;obtain⟨v,w,ev,h1,h2⟩:=hd.two;exact wB hc pins s σ H xs us Q I r ⟨i,j,by rw[ev,eM.mp h1,eM.mp h2],q _ H (aP.refl H) (eM.mpr rfl)⟩
 ·cases hg
theorem uN(hc:X.calm=true):eJ X (.builtin "min") (A8 X.K ny):=by
 rintro pins s σ H xs us Q I r ⟨O,ds,d,hO,hd,hg,q⟩;unfold ny at hg;split at hg
 ·rename_i i j;cases hg;obtain⟨v,w,ev,h1,h2⟩:=hd.two;exact wl hc pins s σ H xs us Q I r ⟨i,j,by rw[ev,eM.mp h1,eM.mp h2],q _ H (aP.refl H) (eM.mpr rfl)⟩
 ·cases hg
noncomputable def Fj:D->String
 |.non=>"NoneType"
 |.bl _=>"bool"
 |.int _=>"int"
 |.str _=>"str"
 |.tup _=>"tuple"
 |.lst _=>"list"
 |.dct _ _=>"dict"
 |_=>""
noncomputable def Dw(T:String)(d:D):Bool:=match d with
 |.bl _=>T=="bool"||T=="int"
 |.non=>T=="NoneType"
 |.int _=>T=="int"
 |.str _=>T=="str"
 |.tup _=>T=="tuple"
 |.lst _=>T=="list"
 |.dct _ _=>T=="dict"
 |_=>false
noncomputable def uo(K:QG)(T:String):Prop:=∀d:D,top d=true->Rb K (.type (Fj d)) (.type T)=some (Dw T d)
noncomputable def LD(K:QG)(T:String):aE->Hp->VK->Prop:=λxs H Q=>∃O x d,xs=[x,.ty T]/\top d=true/\cz K (hid H O) d x/\Q (.bl (Dw T d)) H
theorem AC(ok:uo X.K T):eJ X (.builtin "isinstance") (LD X.K T):=by
 rintro pins s σ H xs us Q I r ⟨O,x,d,ex,td,hd,q⟩;subst ex;obtain⟨u,w',rfl,rx,rt⟩:=vals2 r;cases rt;have e:=ok d td;have fin:∀tk,EP X pins σ Q (.bool (Dw T d)) {s with toks:=tk}:=λtk=>⟨.bl _,H,I.tok _,rfl,q⟩
 cases dW I td (hd.mono (aF H O)) rx with
 |non=>exact Rc PySem.W.kitx_none I.kIn True.intro e (λz=>nomatch z) fin
 |bl b=>exact Rc PySem.W.kitx_bool I.kIn True.intro e (λz=>nomatch z) fin
 |int i t=>exact Rc PySem.W.kitx_int I.kIn True.intro e (λz=>nomatch z) fin
 |str y t=>exact Rc PySem.W.kitx_str I.kIn True.intro e (λz=>nomatch z) fin
 |tup h rv t=>
  obtain⟨o,h1,h2,_⟩:=t;exact Rc PySem.W.kitx_tuple I.kIn ⟨o,h1,h2⟩ e (λz=>nomatch z) fin
 |lst h rv t=>
  obtain⟨o,h1,h2,_⟩:=t;exact Rc PySem.W.kitx_list I.kIn ⟨o,h1,h2⟩ e (λz=>nomatch z) fin
theorem sX:RU "isinstance"=some (.builtin "isinstance"):=by first|rfl|decide +kernel
noncomputable def zA(T:String)(d:D):bB:=if top d then some (.bl (Dw T d))else none
noncomputable def n6(T:String)(f:FX):FX:=f1 (zA T) f
end
section
variable{X:Cx}{a:RJ}{f:FX}{pos:Pos}
noncomputable def isNon:D->Bool
 |.non=>true
 |_=>false
theorem xE{K:QG}{H:Hp}{d:D}{v:V}(h:cz K H d v):decide (v=.non)=isNon d:=by
 cases d with
 |non=>rw[iI.mp h];rfl
 |bl b=>rw[iT.mp h];rfl
 |int i=>rw[eM.mp h];rfl
 |str x=>rw[eF.mp h];rfl
 |tup xs=>obtain⟨_,_,e,_⟩:=cj.mp h;rw[e];rfl
 |lst xs=>obtain⟨_,_,e,_⟩:=cq.mp h;rw[e];rfl
 |dct _ _=>obtain⟨_,_,e,_⟩:=Ji.mp h;rw[e];rfl
 |obj _ _ _=>obtain⟨_,_,e,_⟩:=Js.mp h;rw[e];rfl
 |exc _ _ _=>obtain⟨_,_,e,_⟩:=Jo.mp h;rw[e];rfl
noncomputable def Lz(d:D):bB:=some (.bl (isNon d))
noncomputable def Ik(d:D):bB:=some (.bl (!isNon d))
noncomputable def sZ(f:FX):FX:=f1 Lz f
noncomputable def II(f:FX):FX:=f1 Ik f
theorem vo:∀σ H Q,tF X (sZ f) σ H Q->tF X f σ H λv H'=>Q (.bl (decide (v=.non))) H':=λσ H Q ⟨O,ρ,E,hF⟩=>⟨O,ρ,E,(eQ.bind hF).imp λa hF v H1 s1 d1=>by
 obtain⟨d,e,q⟩:=eQ.rO hF;cases e;rw[xE d1];exact q _ H1 s1 (iT.mpr rfl)⟩
end
noncomputable def Walk(K:QG)(Hd:Hp)(J:It)(ds:List D):Prop:=
 ∀(Hn:Hp)(O':az)(i:Nat),dL Hn O'->aP Hd (hid Hn O')->(∀d,ds[i]?=some d->J.go i Hn/\∀x H2,J.yld i Hn x H2->aP Hn H2/\cz K (hid H2 O') d x)/\(i=ds.length->J.stop i Hn)
noncomputable def Kf(X:Cx)(G:aS):TI:=λσ H RR=>∃O ρ,dD X.K O H ρ σ/\eQ X σ O H (G ρ) λds=>∀J H1,aP H H1->Walk X.K (hid H1 O) J ds->RR J H1
noncomputable def FI(X:Cx)(tg iter:RJ)(G:aS):Prop:=PI X tg iter (Kf X G)
noncomputable def ph:D->Option (List D)
 |.lst xs=>some xs
 |.tup xs=>some xs
 |_=>none
noncomputable def cu(f:FX):aS:=λρ=>(f ρ).bind λd=>rO (ph d)
section
variable{X:Cx}{tg:RJ}
theorem xx{K:QG}{Hd:Hp}{a:RH}{ds:List D}{vs:aE}(h:lM K Hd a vs)(g:aI K Hd ds vs):Walk K Hd (Lp K a) ds:=λHn O' i hO s=>
  have s':aP Hd Hn:=s.trans (aF Hn O')
  ⟨fun d e=>by
    obtain⟨v,ev,dv⟩:=g.get e;refine⟨⟨vs,v,s'.seq h,ev⟩,λx H2 ⟨e2,y⟩=>?_⟩;have q:=y vs (s'.seq h);rw[ev]at q;cases q;subst e2;exact⟨aP.refl _,dv.mono s⟩,
   λhl=>⟨vs,s'.seq h,by rw[<-g.length];exact OJ hl.symm⟩⟩
theorem yT{K:QG}{Hd:Hp}{a:RH}{ds:List D}{vs:aE}(h:Hd a=some (.tup vs))(g:aI K Hd ds vs):Walk K Hd (JX K a) ds:=λHn O' i hO s=>
  have s':aP Hd Hn:=s.trans (aF Hn O')
  ⟨fun d e=>by
    obtain⟨v,ev,dv⟩:=g.get e;refine⟨⟨vs,v,cB s' h,ev⟩,λx H2 ⟨e2,y⟩=>?_⟩;have q:=y vs (cB s' h);rw[ev]at q;cases q;subst e2;exact⟨aP.refl _,dv.mono s⟩,
   λhl=>⟨vs,cB s' h,by rw[<-g.length];exact OJ hl.symm⟩⟩
noncomputable def d7(lo:Int)(n:Nat):List D:=(List.range n).map λ(k:Nat)=>D.int (lo+(k:Int))
theorem pG(lo:Int)(n:Nat):(d7 lo n).length=n:=by unfold d7;rw[OI,PD]
theorem oZ{K:QG}{Hd:Hp}(lo:Int)(n:Nat):Walk K Hd (Ig lo n) (d7 lo n):=λHn O' i hO s=>
  ⟨fun d e=>by
    unfold d7 at e;rw[OV]at e;cases hi:(List.range n)[i]? with
    |none=>rw[hi]at e;cases e
    |some k=>
      rw[hi]at e;cases e;have hlt:i<n:=by
        have:=(List.getElem?_eq_some_iff.mp hi).1
        rwa [PD]at this
      have ek:k=i:=by
        rw[PH hlt]at hi;exact(Option.some.inj hi).symm
      subst ek;exact⟨hlt,λx H2 ⟨e1,e2⟩=>by subst e1;exact⟨aP.refl _,eM.mpr e2⟩⟩,
   λhl=>by rw[pG]at hl;exact OJ hl.symm⟩
noncomputable def okR(j:Int):Bool:=decide (-(2^62)<=j/\j<2^62)
noncomputable def lP:List D->Option (List D)
 |[.int j]=>if okR j then some (d7 0 j.toNat)else none
 |_=>none
noncomputable def lF:List D->Option (List D)
 |[.int i,.int j]=>if okR i&&okR j then some (d7 i (j-i).toNat)else none
 |_=>none
noncomputable def fA(f:aS):aS:=λρ=>(f ρ).bind λds=>rO (lP ds)
noncomputable def lA(f:aS):aS:=λρ=>(f ρ).bind λds=>rO (lF ds)
end
noncomputable abbrev GF:=D->ao->Option ao
noncomputable def JA(K:QG)(g:GF):TG:=λv σ H Q=>∃O ρ d ρ',dD K O H ρ σ/\cz K (hid H O) d v/\g d ρ=some ρ'/\∀σ',dD K O H ρ' σ'->(∀(i:Nat) x,ρ'[i]?=some (some x)->(∀d,x≠.val d)->σ'[i]?=σ[i]?/\ρ[i]?=some (some x))->Q σ' H
noncomputable def FG(X:Cx)(tg:RJ)(g:GF):Prop:=PG X tg (JA X.K g)
noncomputable def setV(i:Nat)(d:D)(ρ:ao):ao:=ρ.set i (some (.val d))
theorem aR{α:Type}{l:List α}{i j:Nat}{a b:α}(h:(l.set i a)[j]?=some b):(j=i/\b=a)\/(j≠i/\l[j]?=some b):=by
 by_cases e:j=i
 ·subst e;left;have hj:j<(l.set j a).length:=(List.getElem?_eq_some_iff.mp h).1;rw[PJ]at hj;rw[Ow hj]at h;exact⟨rfl,(Option.some.inj h).symm⟩
 ·right;rw[Ox (Ne.symm e)]at h;exact⟨e,h⟩
theorem dD.setV{K:QG}{O:az}{H:Hp}{ρ:ao}{σ:St}(E:dD K O H ρ σ){i:Nat}{d:D}{v:V}(hi:i<σ.length)(hd:cz K (hid H O) d v):dD K O H (setV i d ρ) (σ.set i (some v)):=
  ⟨fun j d' e=>by
    rcases aR e with⟨hj,eq⟩|⟨ne,eq⟩
    ·cases eq;rw[hj];exact⟨v,Ow hi,hd⟩
    · obtain⟨w,e1,e2⟩:=E.val j d' eq
      exact⟨w,by rw[Ox (Ne.symm ne)];exact e1,e2⟩,
   λj xs e=>by
    rcases aR e with⟨_,eq⟩|⟨ne,eq⟩
    ·cases eq
    · obtain⟨a,e1,e2⟩:=E.own j xs eq
      exact⟨a,by rw[Ox (Ne.symm ne)];exact e1,e2⟩,
   λj k xs ys a e1 e2 e3 e4=>by
    rcases aR e1 with⟨_,q1⟩|⟨ne1,q1⟩
    ·cases q1
    · rcases aR e2 with⟨_,q2⟩|⟨ne2,q2⟩
      ·cases q2
      · rw[Ox (Ne.symm ne1)]at e3
        rw[Ox (Ne.symm ne2)]at e4;exact E.one j k xs ys a q1 q2 e3 e4,E.all⟩
section
variable{X:Cx}{pos:Pos}
noncomputable def gN(i:Nat):GF:=λd ρ=>some (setV i d ρ)
noncomputable abbrev Bi:=List D->ao->Option ao
noncomputable def J6(K:QG)(g:Bi):Eg:=λvs σ H Q=>∃O ρ ds ρ',dD K O H ρ σ/\aI K (hid H O) ds vs/\g ds ρ=some ρ'/\∀σ',dD K O H ρ' σ'->(∀(i:Nat) x,ρ'[i]?=some (some x)->(∀d,x≠.val d)->σ'[i]?=σ[i]?/\ρ[i]?=some (some x))->Q σ' H
noncomputable def MU(X:Cx)(ts:aZ)(g:Bi):Prop:=Jb X ts (J6 X.K g)
noncomputable def D3:Bi:=λds ρ=>match ds with
 |[]=>some ρ
 |_=>none
noncomputable def Ay(g:GF)(h:Bi):Bi:=λds ρ=>match ds with
 |d::r=>(g d ρ).bind λρ1=>h r ρ1
 |_=>none
noncomputable def gT(n:Nat)(g:Bi):GF:=λd ρ=>match d with
 |.tup xs=>if xs.length=n then g xs ρ else none
 |_=>none
end
noncomputable def Bl{α:Type}(r:R α):R α:=match r with
 |.ok a=>.ok a
 |.error _=>un
theorem zy{α:Type}{r:R α}{a:α}(h:Bl r=.ok a):r=.ok a:=by
 cases r with
 |ok b=>exact h
 |error z=>cases h
noncomputable def inB(ix:fI)(ρ:ao):ao:=ix.map λo=>match o with
 |some i=>match ρ[i]? with
  |some (some (.val d))=>some (.val d)
  |_=>none
 |none=>none
noncomputable def xC(ρ:ao)(g:GF)(C:bZ)(Fe:FX):List D->R (List D)
 |[]=>.ok []
 |d::ds=>(rO (g d ρ)).bind λρ1=>(Bl (C ρ1)).bind λc=>if c then(Bl (Fe ρ1)).bind λv=>(xC ρ g C Fe ds).bind λr=>.ok (v::r)else xC ρ g C Fe ds
theorem lD(ρ:ao)(g:GF)(C:bZ)(Fe:FX)(d:D)(ds:List D):xC ρ g C Fe (d::ds)=(rO (g d ρ)).bind λρ1=>(Bl (C ρ1)).bind λc=>if c then(Bl (Fe ρ1)).bind λv=>(xC ρ g C Fe ds).bind λr=>.ok (v::r)else xC ρ g C Fe ds:=rfl
noncomputable def iC(ix:fI)(G:aS)(g:GF)(C:bZ)(Fe:FX):FX:=λρ=>(G ρ).bind λds=>if small ds.length then Bl ((xC (inB ix ρ) g C Fe ds).bind λr=>.ok (.lst r))else un
noncomputable def Mp(X:Cx)(ifs:aZ)(F:bZ):Prop:=Ff X ifs (JG X F)
noncomputable def dg:bZ:=λ_=>.ok true
theorem lL{ix:fI}{ρ:ao}{j:Nat}{x:S}(e:(inB ix ρ)[j]?=some (some x)):∃i d,ix[j]?=some (some i)/\ρ[i]?=some (some (.val d))/\x=.val d:=by
 unfold inB at e;rw[OV]at e;cases q:ix[j]? with
 |none=>rw[q]at e;cases e
 |some o=>
  rw[q]at e;cases o with
  |none=>cases e
  |some i=>
   have e':(match ρ[i]? with|some (some (.val d))=>some (S.val d)|_=>none)=some x:=Option.some.inj e;split at e'
   ·rename_i d hd;cases e';exact⟨i,d,rfl,hd,rfl⟩
   ·cases e'
theorem BQ{K:QG}{O:az}{H:Hp}{ρ:ao}{σ:St}(ix:fI)(E:dD K O H ρ σ):dD K O H (inB ix ρ) (inBlock ix σ):=by
 refine⟨λj d e=>?_,λj xs e=>?_,λj k xs ys a e=>?_,E.all⟩
 ·obtain⟨i,d',q1,q2,q3⟩:=lL e;cases q3;obtain⟨v,e1,e2⟩:=E.val i d q2;refine⟨v,?_,e2⟩;unfold inBlock;rw[OV,q1];show some ((σ[i]?).getD none)=some (some v);rw[e1];rfl
 ·obtain⟨_,_,_,_,q3⟩:=lL e;cases q3
 ·obtain⟨_,_,_,_,q3⟩:=lL e;cases q3
theorem uh{H:Hp}{O:az}{p:RH}{o:HO}(hp:H p=none):aP (hid H O) (hid (upd H p o) (p::O)):=λb u h=>by
 unfold hid at h ⊢;by_cases hb:b∈O
 ·rw[if_pos hb]at h;cases h
 ·rw[if_neg hb]at h;have ne:=aL h hp;rw[if_neg (by intro z;rcases List.mem_cons.mp z with z|z;exact ne z;exact hb z),aK ne];exact h
theorem dD.hideNew{K:QG}{O:az}{H:Hp}{ρ:ao}{σ:St}{p:RH}{o:HO}(m:sd o)(E:dD K O H ρ σ)(hp:H p=none):dD K (p::O) (upd H p o) ρ σ:=by
 have s:aP (hid H O) (hid (upd H p o) (p::O)):=uh hp;refine⟨λi d e=>let ⟨v,a,b⟩:=E.val i d e;⟨v,a,b.mono s⟩,λi xs e=>?_,E.one,(E.all.same (du hp o)).cons bi m⟩;obtain⟨a,e1,e2,e3⟩:=E.own i xs e;obtain⟨u,hu⟩:=e3.some;exact⟨a,e1,Ou _ e2,e3.mono (by rw[aK (aL hu hp)]) s⟩
theorem dD.rewrite{K:QG}{O:az}{H:Hp}{ρ:ao}{σ:St}{p:RH}{o:HO}(m:sd o)(E:dD K O H ρ σ)(hp:p∈O)(hs:∀(i:Nat) xs,ρ[i]?=some (some (.own xs))->σ[i]?≠some (some (.ref p))):dD K O (upd H p o) ρ σ:=by
 have s:aP (hid H O) (hid (upd H p o) O):=jQ hp;refine⟨λi d e=>let ⟨v,a,b⟩:=E.val i d e;⟨v,a,b.mono s⟩,λi xs e=>?_,E.one,E.all.upd hp m⟩;obtain⟨a,e1,e2,e3⟩:=E.own i xs e;have ne:a≠p:=λz=>hs i xs e (by rw[<-z];exact e1);exact⟨a,e1,e2,e3.mono (by rw[aK ne]) s⟩
theorem dD.forget{K:QG}{O:az}{H:Hp}{ρ ρ':ao}{σ:St}(E:dD K O H ρ σ)(h:∀(i:Nat) x,ρ'[i]?=some (some x)->ρ[i]?=some (some x)):dD K O H ρ' σ:=
 ⟨λi d e=>E.val i d (h i _ e),λi xs e=>E.own i xs (h i _ e),λi j xs ys a e1 e2=>E.one i j xs ys a (h i _ e1) (h j _ e2),E.all⟩
noncomputable def Fills(ρ:ao)(g:GF):Prop:=∀d ρ1,g d ρ=some ρ1->∀(i:Nat) x,ρ[i]?=some (some x)->ρ1[i]?=some (some x)
theorem qp(ix:fI)(ρ:ao):∀(i:Nat) xs,(inB ix ρ)[i]?≠some (some (.own xs)):=by
 intro j xs e;obtain⟨_,_,_,_,q3⟩:=lL e;cases q3
theorem Il{α:Type}{o:Option α}{a:α}(h:rO o=.ok a):o=some a:=by
 cases o with
 |none=>cases h
 |some b=>cases h;rfl
end TG
namespace TG
open PySem PySem.Spec L2
variable[au]
section
variable{X:Cx}{elt tg iter:RJ}{ifs:aZ}{scope:RW}{pos:Pos}{N:av}{ix:fI}{G:aS}{g:GF}{C:bZ}{Fe:FX}
structure nZ(ix:fI)(g:GF):Prop where
 fill:∀ρ,Fills (inB ix ρ) g
 own:∀ρ d ρ1,g d (inB ix ρ)=some ρ1->∀(i:Nat) xs,ρ1[i]?≠some (some (.own xs))
theorem tR{ρ:ao}{i:Nat}(h:ix[i]?=some none):∀x,(inB ix ρ)[i]?≠some (some x):=λx e=>by
 obtain⟨_,_,q,_⟩:=lL e;rw[h]at q;cases q
theorem j9{i:Nat}(h:ix[i]?=some none):nZ ix (gN i):=
  ⟨fun ρ d ρ1 e j x q=>by
    cases e;by_cases z:j=i
    ·subst z;exact absurd q (tR h x)
    ·unfold setV;rw[Ox (Ne.symm z)];exact q,
   λρ d ρ1 e j xs q=>by
    cases e;rcases aR q with⟨_,z⟩|⟨_,z⟩
    ·cases z
    ·exact qp ix ρ j xs z⟩
noncomputable def B2(ix:fI)(is:List Nat):Bool:=is.all λi=>match ix[i]? with
 |some none=>true
 |_=>false
noncomputable def sC:List Nat->Bi
 |[]=>D3
 |i::is=>Ay (gN i) (sC is)
theorem vt:∀(is:List Nat)(ds:List D)(ρ ρ1:ao),sC is ds ρ=some ρ1->∀(k:Nat)(x:S),ρ1[k]?=some (some x)->(k∈is/\∃d,x=.val d)\/ρ[k]?=some (some x)
 |[],ds,ρ,ρ1,h,k,x,e=>by
  cases ds with
  |nil=>cases h;exact .inr e
  |cons _ _=>cases h
 |i::is,ds,ρ,ρ1,h,k,x,e=>by
  cases ds with
  |nil=>cases h
  |cons d ds=>
   rcases vt is ds (setV i d ρ) ρ1 h k x e with⟨a,b⟩|q
   ·exact .inl ⟨Ou _ a,b⟩
   ·rcases aR q with⟨z,w⟩|⟨_,w⟩
    ·exact .inl ⟨by rw[z];exact Ot,d,Option.some.inj w⟩
    ·exact .inr w
theorem sE:∀(is:List Nat)(ds:List D)(ρ ρ1:ao),sC is ds ρ=some ρ1->∀(k:Nat)(x:S),k∉is->ρ[k]?=some (some x)->ρ1[k]?=some (some x)
 |[],ds,ρ,ρ1,h,k,x,_,e=>by
  cases ds with
  |nil=>cases h;exact e
  |cons _ _=>cases h
 |i::is,ds,ρ,ρ1,h,k,x,n,e=>by
  cases ds with
  |nil=>cases h
  |cons d ds=>
   refine sE is ds (setV i d ρ) ρ1 h k x (λz=>n (Ou _ z)) ?_;unfold setV;rw[Ox (λz=>n (by rw[z];exact Ot))];exact e
theorem iN{is:List Nat}{n:Nat}(h:B2 ix is=true):nZ ix (gT n (sC is)):=by
 have hn:∀i∈is,ix[i]?=some none:=λi hi=>by
  have:=List.all_eq_true.mp h i hi
  cases e:ix[i]? with
  |none=>rw[e]at this;cases this
  |some o=>cases o with
   |none=>rfl
   |some _=>rw[e]at this;cases this
 have shape:∀ρ d ρ1,gT n (sC is) d ρ=some ρ1->∃ds,sC is ds ρ=some ρ1:=λρ d ρ1 e=>by
  cases d with
  |tup xs=>
   have e':(if xs.length=n then sC is xs ρ else none)=some ρ1:=e;by_cases hl:xs.length=n
   ·rw[if_pos hl]at e';exact⟨xs,e'⟩
   ·rw[if_neg hl]at e';cases e'
  |_=>cases e
 refine⟨λρ d ρ1 e k x q=>?_,λρ d ρ1 e k xs q=>?_⟩
 ·obtain⟨ds,e⟩:=shape _ d ρ1 e;exact sE is ds _ ρ1 e k x (λz=>tR (hn k z) x q) q
 ·obtain⟨ds,e⟩:=shape _ d ρ1 e;rcases vt is ds _ ρ1 e k _ q with⟨_,d,z⟩|z
  ·cases z
  ·exact qp ix ρ k xs z
structure lh(X:Cx)(scope:RW)(N:av)(ix:fI):Prop where
 cell:∀y∈scope.names,y.2≠.cell
 kind:scope.kind=.function
 names:∀y∈scope.names,y.2=.local->scope.names.lookup y.1=some .local
 free:∀y∈scope.names,y.2=.free->X.env.scope.names.lookup y.1=some .cell\/X.env.scope.names.lookup y.1=some .free
 ix:se X.N N scope.names ix=true
noncomputable def jI(XS:oS)(XN:av)(scope:RW)(N:av)(ix:fI):Bool:=
 scope.names.all (λy=>decide (y.2≠.cell))&&decide (scope.kind=.function)&&scope.names.all (λy=>decide (y.2≠.local)||decide (scope.names.lookup y.1=some .local)) &&
  scope.names.all (λy=>decide (y.2≠.free)||(decide (XS.lookup y.1=some .cell)||decide (XS.lookup y.1=some .free)))&&se XN N scope.names ix
theorem lh.of(h:jI X.env.scope.names X.N scope N ix=true):lh X scope N ix:=by
 unfold jI at h;simp only[O0]at h;obtain⟨⟨⟨⟨h1,h2⟩,h3⟩,h4⟩,h5⟩:=h;refine⟨λy hy=>of_decide_eq_true (List.all_eq_true.mp h1 y hy),of_decide_eq_true h2,λy hy e=>?_,λy hy e=>?_,h5⟩
 ·rcases Px _ _ ▸ List.all_eq_true.mp h3 y hy with q|q
  ·exact absurd e (of_decide_eq_true q)
  ·exact of_decide_eq_true q
 ·rcases Px _ _ ▸ List.all_eq_true.mp h4 y hy with q|q
  ·exact absurd e (of_decide_eq_true q)
  ·rcases Px _ _ ▸ q with q|q
   ·exact .inl (of_decide_eq_true q)
   ·exact .inr (of_decide_eq_true q)
noncomputable def Mu(X:Cx)(scope:RW)(N:av)(tg elt:RJ)(ifs:aZ)(g:GF)(C:bZ)(Fe:FX):Prop:=
 ∀cl C' fp s H E,FG (cg X scope N cl C' fp s H E) tg g/\Mp (cg X scope N cl C' fp s H E) ifs C/\FE (cg X scope N cl C' fp s H E) elt Fe
noncomputable def E6(K:QG)(F:bZ):TT:=λσ H Q=>∃O ρ b,dD K O H ρ σ/\F ρ=.ok b/\∀H',aP H H'->Q b H'
noncomputable def Lb(K:QG)(F:FX):TE:=λσ H Q=>∃O ρ d,dD K O H ρ σ/\F ρ=.ok d/\∀v H',aP H H'->cz K (hid H' O) d v->Q v H'
theorem Mu.k(hb:Mu X scope N tg elt ifs g C Fe):∀cl C' fp s H E,PG (cg X scope N cl C' fp s H E) tg (JA X.K g)/\Ff (cg X scope N cl C' fp s H E) ifs (E6 X.K C)/\PE (cg X scope N cl C' fp s H E) elt (Lb X.K Fe):=λcl C' fp s H E=>by
 obtain⟨h1,h2,h3⟩:=hb cl C' fp s H E;refine⟨h1,λpins s σ H Q I ⟨O,ρ,b,e1,e2,q⟩=>h2 pins s σ H Q I ⟨O,ρ,e1,by rw[e2];exact q⟩,λpins s σ H Q I ⟨O,ρ,d,e1,e2,q⟩=>h3 pins s σ H Q I ⟨O,ρ,e1,by rw[e2];exact q⟩⟩
noncomputable def Le(X:Cx)(F:FX):TE:=λσ H Q=>∃O ρ,dD X.K O H ρ σ/\eQ X σ O H (F ρ) λd=>∀D H' total acc,d=.lst total->aP H H'->H D=none->H' D=some (.lst acc)->aI X.K (hid H' (D::O)) total acc->Q (.ref D) H'
theorem Lw{F:FX}:∀σ H Q,tF X F σ H Q->Le X F σ H Q:=λσ H Q ⟨O,ρ,E,hF⟩=>⟨O,ρ,E,hF.imp λd q D H' total acc e sm hD hD' dn=>by
 subst e;have DO:D∉O:=E.all.not hD;exact q _ H' sm (cq.mpr ⟨D,acc,rfl,lM.of (by rw[mz DO];exact hD'),dn.mono (g9 λa ha=>Ou _ ha)⟩)⟩
theorem Aw(tk:nZ ix g):∀σ H Q,Le X (iC ix G g C Fe) σ H Q->Jl (Kf X G) (JA X.K g) (E6 X.K C) (Lb X.K Fe) ix σ H Q:=λσ H Q ⟨O,ρ,E,hF⟩=>by
 refine⟨O,ρ,E,(eQ.bind hF).imp λds hF=>?_⟩;have hz:small ds.length=true:=by
  cases e:small ds.length with
  |true=>rfl
  |false=>rw[e]at hF;exact hF.elim
 rw[hz,if_pos rfl]at hF;cases hL:xC (inB ix ρ) g C Fe ds with
 |error z=>rw[hL]at hF;exact hF.elim
 |ok total=>
 rw[hL]at hF;have q:∀D H' total' acc,TG.D.lst total=.lst total'->aP H H'->H D=none->H' D=some (.lst acc)->aI X.K (hid H' (D::O)) total' acc->Q (.ref D) H':=hF;have e2:=hL;have hfill:=tk.fill;have hown:=tk.own;refine λJ H1 s1 wk D hD=>?_;have E1:dD X.K (D::O) (upd H1 D (.lst [])) (inB ix ρ) (inBlock ix σ):=((BQ ix E).same s1).hideNew trivial hD;have DO:D∉O:=(E.all.same s1).not hD;refine⟨λi m σ' H'=>m=ds.length-i/\i<=ds.length/\aP H1 H'/\dD X.K (D::O) H' (inB ix ρ) σ'/\∃acc dn rest,H' D=some (.lst acc)/\acc.length<=i/\aI X.K (hid H' (D::O)) dn acc/\xC (inB ix ρ) g C Fe (ds.drop i)=.ok rest/\dn++rest=total,
  ⟨ds.length,by rw[PF],OL _,du hD _,E1,[],[],total,bi,Oz _,cw.mpr rfl,by rw[Pl];exact e2,rfl⟩,?_⟩
 rintro i m σ' H' ⟨rfl,hi,sm,E',acc,dn,rest,hacc,hlen,hdn,hrest,htot⟩;have sH:aP (hid H1 O) (hid H' (D::O)):=λb o h=>by
  have h2:=sm b o (aF H1 O b o h);unfold hid at h ⊢;by_cases hb:b∈O
  ·rw[if_pos hb]at h;cases h
  ·rw[if_neg hb]at h;have ne:b≠D:=aL h hD;rw[if_neg (by intro z;rcases List.mem_cons.mp z with z|z;exact ne z;exact hb z)];exact h2
 by_cases hlt:i<ds.length
 ·right;obtain⟨go,yl⟩:=(wk H' (D::O) i E'.all sH).1 ds[i] (by simp[hlt]);refine⟨go,λx H2 y=>?_⟩;obtain⟨s2,dx'⟩:=yl x H2 y;have E':=E'.same s2;have sm:=sm.trans s2;have hacc:=s2 _ _ hacc;have hdn:=hdn.mono (cf s2);rw[PL hlt,lD]at hrest;obtain⟨ρ1,g1,hrest⟩:=og hrest;have g1:=Il g1;obtain⟨c,c1,hrest⟩:=og hrest;have c1:=zy c1;refine⟨D::O,inB ix ρ,ds[i],ρ1,E',dx',g1,λσ3 E3 _=>?_⟩;refine⟨D::O,ρ1,c,E3,c1,λH4 s4=>?_⟩;have E4:=E3.same s4;have back:∀{H5:Hp},dD X.K (D::O) H5 ρ1 σ3->dD X.K (D::O) H5 (inB ix ρ) σ3:=λz=>z.forget λj x e=>hfill ρ _ _ g1 j x e;cases c with
  |true=>
   refine sQ ?_;rw[if_pos rfl]at hrest;obtain⟨v,v1,hrest⟩:=og hrest;have v1:=zy v1;obtain⟨r,r1,hrest⟩:=og hrest;cases hrest;refine⟨D::O,ρ1,v,E4,v1,λw H5 s5 dw=>?_⟩;have s45:=s4.trans s5;have ha5:H5 D=some (.lst acc):=s45 _ _ hacc;have hzl:ds.length<RQ:=PN (of_decide_eq_true hz) (by decide);refine⟨acc,ha5,by omega,ds.length-(i+1),by omega,rfl,hlt,?_,?_,acc++[w],dn++[v],r,bi,by rw[OX,O2];omega,?_,r1,by rw[PP];exact htot⟩
   ·intro b o h;rw[aK (aL h hD)];exact s45 _ _ (sm _ _ h)
   ·exact back ((E3.same s45).rewrite trivial Ot λj xs e=>absurd e (hown ρ _ _ g1 j xs))
   ·have s6:aP (hid H5 (D::O)) (hid (upd H5 D (.lst (acc++[w]))) (D::O)):=jQ Ot;exact(hdn.mono ((cf s45).trans s6)).snoc (dw.mono s6)
  |false=>
   refine sW ?_;rw[if_neg OD]at hrest;exact⟨ds.length-(i+1),by omega,rfl,hlt,sm.trans s4,back E4,acc,dn,rest,s4 _ _ hacc,by omega,hdn.mono (cf s4),hrest,htot⟩
 ·left;have ei:i=ds.length:=by omega
  subst ei;refine⟨(wk H' (D::O) ds.length E'.all sH).2 rfl,?_⟩;rw[List.drop_length]at hrest;cases hrest;rw[OM]at htot;subst htot;exact q D H' _ acc rfl (s1.trans sm) (s1.free hD) hacc hdn
theorem DZ(tk:nZ ix g):∀σ H Q,tF X (iC ix G g C Fe) σ H Q->Jl (Kf X G) (JA X.K g) (E6 X.K C) (Lb X.K Fe) ix σ H Q:=λσ H Q h=>Aw tk σ H Q (Lw σ H Q h)
end
structure Ks where
 nx:ao->R D
 bk:ao->R D:=λ_=>un
 ct:ao->R D:=λ_=>un
 ex:Ex->ao->R D:=λx _=>.error (some x)
noncomputable abbrev bE:=Ks->ao->R D
noncomputable def pI{α:Type}(r:R α)(k:Ks)(ρ:ao)(f:α->R D):R D:=match r with
 |.ok a=>f a
 |.error (some x)=>k.ex x ρ
 |.error none=>un
structure Base(Hb:Hp)(Ob:az)(H:Hp)(O:az):Prop where
 same:aP Hb H
 sub:∀a∈Ob,a∈O
 new:∀a∈O,a∈Ob\/Hb a=none
noncomputable def zK(K:QG)(H:Hp)(O:az):az->List D->Prop
 |[],[]=>True
 |b::bs,x::xs=>jF K H O b x/\zK K H O bs xs
 |_,_=>False
noncomputable def vH(K:QG)(H:Hp)(O:az)(a:RH)(bs:az)(d:D):Prop:=
 ∃xs,zK K H O bs xs/\((d=.lst xs/\H a=some (.lst (bs.map .ref)))\/(∃kvs:List (List Key×V),d=.dct (kvs.map λp=>.tup (p.1.map dQ)) xs/\H a=some (.dT kvs)/\kvs.map (·.2)=bs.map .ref)\/(d=.dct [] xs/\bs=[]/\H a=some (.dK [])))
noncomputable def zV(K:QG)(Hb:Hp)(Ob O:az)(H:Hp)(ρ:ao)(σ:St)(i:Nat)(d:D):Prop:=
 ∃a bs,σ[i]?=some (some (.ref a))/\vH K H O a bs d/\(a::bs).Nodup/\(∀b∈a::bs,b∈O/\Hb b=none/\b∉Ob/\∀(j:Nat) d',ρ[j]?=some (some (.own d'))->σ[j]?≠some (some (.ref b)))/\∀(j:Nat) d',ρ[j]?=some (some (.nest d'))->j=i
theorem zK.mono{K:QG}{H H':Hp}{O O':az}(s:aP (hid H O) (hid H' O')):∀{bs:az}{xs:List D},zK K H O bs xs->(∀b∈bs,(∃o,H b=some o)->H' b=H b)->zK K H' O' bs xs
 |[],[],_,_=>trivial
 |b::bs,x::xs,h,e=>⟨h.1.mono (e b Ot h.1.some).symm s,zK.mono s h.2 λb' hb=>e b' (Ou _ hb)⟩
 |[],_::_,h,_=>h.elim
 |_::_,[],h,_=>h.elim
theorem zK.some{K:QG}{H:Hp}{O:az}:∀{bs:az}{xs:List D},zK K H O bs xs->∀b∈bs,∃o,H b=some o
 |[],_,_,_,hb=>nomatch hb
 |b::bs,x::xs,h,b',hb=>by
  rcases List.mem_cons.mp hb with z|z
  ·rw[z];exact h.1.some
  ·exact zK.some h.2 b' z
 |_::_,[],h,_,_=>h.elim
theorem vH.some{K:QG}{H:Hp}{O:az}{a:RH}{bs:az}{d:D}(h:vH K H O a bs d):∀b∈a::bs,∃o,H b=some o:=λb hb=>by
 obtain⟨xs,h1,h2⟩:=h;rcases List.mem_cons.mp hb with z|z
 ·rw[z];rcases h2 with⟨_,q⟩|⟨_,_,q,_⟩|⟨_,_,q⟩<;>exact⟨_,q⟩
 ·exact h1.some b z
theorem vH.mono{K:QG}{H H':Hp}{O O':az}{a:RH}{bs:az}{d:D}(h:vH K H O a bs d)(s:aP (hid H O) (hid H' O'))(e:∀b∈a::bs,(∃o,H b=Option.some o)->H' b=H b):vH K H' O' a bs d:=by
 have ea:=e a Ot (h.some a Ot);obtain⟨xs,h1,h2⟩:=h;refine⟨xs,h1.mono s λb hb=>e b (Ou _ hb),?_⟩;rw[ea];exact h2
theorem zV.to{K:QG}{Hb Hb':Hp}{Ob O O':az}{H H':Hp}{ρ ρ':ao}{σ σ':St}{i:Nat}{d:D}(h:zV K Hb Ob O H ρ σ i d)(hσ:σ'[i]?=σ[i]?)(s:aP (hid H O) (hid H' O'))
  (k:∀b,b∈O->Hb b=none->b∉Ob->(∀(j:Nat) d',ρ[j]?=some (some (.own d'))->σ[j]?≠some (some (.ref b)))->(∃o,H b=some o)->H' b=H b/\b∈O'/\Hb' b=none/\∀(j:Nat) d',ρ'[j]?=some (some (.own d'))->σ'[j]?≠some (some (.ref b)))
  (n:∀(j:Nat) d',ρ'[j]?=some (some (.nest d'))->∃d2,ρ[j]?=some (some (.nest d2))):zV K Hb' Ob O' H' ρ' σ' i d:=by
 obtain⟨a,bs,h1,h2,h3,h4,h5⟩:=h;refine⟨a,bs,hσ.trans h1,h2.mono s λb hb ho=>?_,h3,λb hb=>?_,λj d' q=>?_⟩
 ·obtain⟨q1,q2,q3,q4⟩:=h4 b hb;exact(k b q1 q2 q3 q4 ho).1
 ·obtain⟨q1,q2,q3,q4⟩:=h4 b hb;obtain⟨_,w2,w3,w4⟩:=k b q1 q2 q3 q4 (h2.some b hb);exact⟨w2,w3,q3,w4⟩
 ·obtain⟨d2,q⟩:=n j d' q;exact h5 j d2 q
structure eI(K:QG)(Hb:Hp)(Ob O:az)(H:Hp)(ρ:ao)(σ:St):Prop where
 env:dD K O H ρ σ
 base:Base Hb Ob H O
 mine:∀(i:Nat) xs a,ρ[i]?=some (some (.own xs))->σ[i]?=some (some (.ref a))->Hb a=none/\a∉Ob
 nst:∀(i:Nat) d,ρ[i]?=some (some (.nest d))->zV K Hb Ob O H ρ σ i d
theorem Base.same'{Hb:Hp}{Ob:az}{H H':Hp}{O:az}(b:Base Hb Ob H O)(s:aP H H'):Base Hb Ob H' O:=⟨b.same.trans s,b.sub,b.new⟩
theorem eI.same{K:QG}{Hb:Hp}{Ob O:az}{H H':Hp}{ρ:ao}{σ:St}(h:eI K Hb Ob O H ρ σ)(s:aP H H'):eI K Hb Ob O H' ρ σ:=⟨h.env.same s,h.base.same' s,h.mine,λi d q=>(h.nst i d q).to rfl (cf s) (λb q1 q2 q3 q4 ⟨o,ho⟩=>⟨by rw[ho,s _ _ ho],q1,q2,q4⟩) λj d' z=>⟨d',z⟩⟩
theorem eI.after{K:QG}{Hb:Hp}{Ob O:az}{H:Hp}{ρ ρ':ao}{σ σ':St}(S:eI K Hb Ob O H ρ σ)(E':dD K O H ρ' σ')(own:∀(i:Nat) x,ρ'[i]?=some (some x)->(∀d,x≠.val d)->σ'[i]?=σ[i]?/\ρ[i]?=some (some x)):eI K Hb Ob O H ρ' σ':=
 ⟨E',S.base,fun i xs a q1 q2=>by
  obtain⟨w1,w2⟩:=own i _ q1 (λ_ z=>nomatch z);rw[w1]at q2;exact S.mine i xs a w2 q2,λi d q=>by
  obtain⟨w1,w2⟩:=own i _ q (λ_ z=>nomatch z);refine(S.nst i d w2).to w1 (λ_ _ z=>z) (λb q1 q2 q3 q4 _=>⟨rfl,q1,q2,λl d' w=>?_⟩) λl d' w=>⟨d',(own l _ w (λ_ z=>nomatch z)).2⟩
  obtain⟨z1,z2⟩:=own l _ w (λ_ z=>nomatch z);rw[z1];exact q4 l d' z2⟩
structure Jn(X:Cx)(Hb:Hp)(Ob:az)(E:Ends)(k:Ks)(r:R D):Prop where
 ne:r≠un
 nx:∀O ρ σ H,eI X.K Hb Ob O H ρ σ->k.nx ρ=r->E.nx σ H
 bk:∀O ρ σ H,eI X.K Hb Ob O H ρ σ->k.bk ρ=r->E.bk σ H
 ct:∀O ρ σ H,eI X.K Hb Ob O H ρ σ->k.ct ρ=r->E.ct σ H
 rt:∀d O v H,r=.ok d->Base Hb Ob H O->cz X.K (hid H O) d v->E.rt v H
 ex:∀O ρ σ H x,eI X.K Hb Ob O H ρ σ->k.ex x ρ=r->G8 X σ O H x
noncomputable def JQ(X:Cx)(Hb:Hp)(Ob:az)(F:bE):TS:=λE σ H=>∃O ρ k r,eI X.K Hb Ob O H ρ σ/\F k ρ=r/\Jn X Hb Ob E k r
noncomputable def FS(X:Cx)(st:RK)(F:bE):Prop:=∀Hb Ob,PS X st (JQ X Hb Ob F)
noncomputable def Mv(X:Cx)(st:dM)(F:bE):Prop:=∀Hb Ob,t9 X st (JQ X Hb Ob F)
theorem eQ.on{X:Cx}{Hb:Hp}{Ob O:az}{H:Hp}{ρ:ao}{σ:St}{E:Ends}{k:Ks}{r:R D}{α:Type}{fr:R α}{G:α->R D}{Q:α->Prop}(h:pI fr k ρ G=r)(hk:Jn X Hb Ob E k r)(S:eI X.K Hb Ob O H ρ σ)(q:∀a,G a=r->Q a):eQ X σ O H fr Q:=by
 match fr,h with
 |.ok a,h=>exact q a h
 |.error (some x),h=>exact hk.ex O ρ σ H x S h
 |.error none,h=>exact absurd h.symm hk.ne
section
variable{X:Cx}{st:RK}{rest body:dM}{pos:Pos}
noncomputable def aN:bE:=λk ρ=>k.nx ρ
noncomputable def ak(F1 F2:bE):bE:=λk ρ=>F1 {k with nx:=F2 k} ρ
noncomputable def aB(f:FX):bE:=λk ρ=>pI (f ρ) k ρ .ok
noncomputable def H0:bE:=λ_ _=>.ok .non
noncomputable def nU(f:FX):bE:=λk ρ=>pI (f ρ) k ρ λ_=>k.nx ρ
noncomputable def dG(c:bZ)(A B:bE):bE:=λk ρ=>pI (c ρ) k ρ λb=>if b then A k ρ else B k ρ
noncomputable def aG(i:Nat)(f:FX):bE:=λk ρ=>pI (f ρ) k ρ λd=>k.nx (setV i d ρ)
theorem eI.setV{K:QG}{Hb:Hp}{Ob O:az}{H:Hp}{ρ:ao}{σ:St}(E:eI K Hb Ob O H ρ σ){i:Nat}{d:D}{v:V}(hi:i<σ.length)(hd:cz K (hid H O) d v):eI K Hb Ob O H (setV i d ρ) (σ.set i (some v)):=
  ⟨E.env.setV hi hd,E.base,fun j xs a e1 e2=>by
    rcases aR e1 with⟨_,q⟩|⟨ne,q⟩
    ·cases q
    · rw[Ox (Ne.symm ne)]at e2
      exact E.mine j xs a q e2,
   λj dn e=>by
    rcases aR e with⟨_,q⟩|⟨ne,q⟩
    ·cases q
    · refine(E.nst j dn q).to (Ox (Ne.symm ne)) (λ_ _ z=>z) (λb q1 q2 q3 q4 _=>⟨rfl,q1,q2,λl d' w=>?_⟩) λl d' w=>?_
      · rcases aR w with⟨_,z⟩|⟨nl,z⟩
        ·cases z
        ·rw[Ox (Ne.symm nl)];exact q4 l d' z
      · rcases aR w with⟨_,z⟩|⟨_,z⟩
        ·cases z
        ·exact⟨d',z⟩⟩
theorem qQ{f:FX}{i:Nat}(hi:i<X.N.length)(h:PS X st (yS (tF X f) (qB i))):FS X st (aG i f):=λHb Ob pins s σ H E I ⟨O,ρ,k,r,S,hF,hk⟩=>
 h pins s σ H E I ⟨O,ρ,S.env,eQ.on hF hk S λd e v H1 s1 d1=>hk.nx O _ _ H1 ((S.same s1).setV (by rw[I.len];exact hi) d1) e⟩
noncomputable def DC(f:FX)(g:GF):bE:=λk ρ=>pI (f ρ) k ρ λd=>(rO (g d ρ)).bind k.nx
noncomputable def cO:bE:=λ_ _=>un
noncomputable def kill(is:List Nat)(ρ:ao):ao:=is.foldl (λρ i=>ρ.set i none) ρ
theorem ie:∀(is:List Nat)(ρ:ao)(i:Nat)(x:S),(kill is ρ)[i]?=some (some x)->ρ[i]?=some (some x)
 |[],ρ,i,x,e=>e
 |j::is,ρ,i,x,e=>by
  rcases aR (ie is (ρ.set j none) i x e)with⟨_,q⟩|⟨_,q⟩
  ·cases q
  ·exact q
theorem eI.kill{K:QG}{Hb:Hp}{Ob O:az}{H:Hp}{ρ:ao}{σ:St}(E:eI K Hb Ob O H ρ σ)(is:List Nat):eI K Hb Ob O H (kill is ρ) σ:=
 ⟨E.env.forget (ie is ρ),E.base,λi xs a e1 e2=>E.mine i xs a (ie is ρ i _ e1) e2,λi d q=>(E.nst i d (ie is ρ i _ q)).to rfl (λ_ _ z=>z) (λb q1 q2 q3 q4 _=>⟨rfl,q1,q2,λl d' w=>q4 l d' (ie is ρ l _ w)⟩) λl d' w=>⟨d',ie is ρ l _ w⟩⟩
noncomputable def fG(is:List Nat)(F:bE):bE:=λk ρ=>F k (kill is ρ)
end
noncomputable def dY(g:GF)(B:bE)(k:Ks):List D->ao->R D
 |[],ρ=>k.nx ρ
 |d::ds,ρ=>(rO (g d ρ)).bind λρ1=>B ⟨dY g B k ds,k.nx,dY g B k ds,k.ex⟩ ρ1
noncomputable def nY(G:aS)(g:GF)(B:bE):bE:=λk ρ=>pI (G ρ) k ρ λds=>dY g B k ds ρ
noncomputable def lb(H:Hp)(O Ob:az):Hp:=λb=>if b∈O/\b∉Ob then none else H b
theorem rT{H:Hp}{O Ob:az}{b:RH}(h1:b∈O)(h2:b∉Ob):lb H O Ob b=none:=by unfold lb;rw[if_pos ⟨h1,h2⟩]
theorem CK{H:Hp}{O Ob:az}{b:RH}{o:HO}(h:lb H O Ob b=some o):H b=some o/\¬(b∈O/\b∉Ob):=by
 unfold lb at h;split at h
 ·cases h
 ·rename_i n;exact⟨h,n⟩
theorem z8{H:Hp}{O Ob:az}{b:RH}{o:HO}(h:H b=some o)(n:¬(b∈O/\b∉Ob)):lb H O Ob b=some o:=by unfold lb;rw[if_neg n];exact h
theorem Base.loop{Hb:Hp}{Ob:az}{H:Hp}{O:az}(b:Base Hb Ob H O):Base (lb H O Ob) Ob H O:=
 ⟨fun c o h=>(CK h).1,b.sub,fun a ha=>by
  by_cases h:a∈Ob
  ·exact .inl h
  ·exact .inr (rT ha h)⟩
theorem Base.back{Hb:Hp}{Ob:az}{H H':Hp}{O O':az}(b:Base Hb Ob H O)(b':Base (lb H O Ob) Ob H' O'):Base Hb Ob H' O':=by
 have up:aP Hb (lb H O Ob):=λc o h=>z8 (b.same c o h) λ⟨z1,z2⟩=>by
  rcases b.new c z1 with z|z
  ·exact z2 z
  ·rw[z]at h;cases h
 exact⟨up.trans b'.same,b'.sub,λa ha=>(b'.new a ha).imp id up.free⟩
theorem eI.loop{K:QG}{Hb:Hp}{Ob O:az}{H:Hp}{ρ:ao}{σ:St}(E:eI K Hb Ob O H ρ σ):eI K (lb H O Ob) Ob O H ρ σ:=
 ⟨E.env,E.base.loop,fun i xs a e1 e2=>by
  obtain⟨_,n⟩:=E.mine i xs a e1 e2;obtain⟨a',e3,e4,_⟩:=E.env.own i xs e1;rw[e2]at e3;cases e3;exact⟨rT e4 n,n⟩,λi d q=>(E.nst i d q).to rfl (λ_ _ z=>z) (λb q1 q2 q3 q4 _=>⟨rfl,q1,rT q1 q3,q4⟩) λl d' w=>⟨d',w⟩⟩
theorem eI.back{K:QG}{Hb:Hp}{Ob O O':az}{H H':Hp}{ρ':ao}{σ':St}(b:Base Hb Ob H O)(E:eI K (lb H O Ob) Ob O' H' ρ' σ'):eI K Hb Ob O' H' ρ' σ':=
 have up:aP Hb (lb H O Ob):=λc o h=>z8 (b.same c o h) λ⟨z1,z2⟩=>by
  rcases b.new c z1 with z|z
  ·exact z2 z
  ·rw[z]at h;cases h
 ⟨E.env,b.back E.base,fun i xs a e1 e2=>by
  obtain⟨z,n⟩:=E.mine i xs a e1 e2;exact⟨up.free z,n⟩,λi d q=>(E.nst i d q).to rfl (λ_ _ z=>z) (λb q1 q2 q3 q4 _=>⟨rfl,q1,up.free q2,q4⟩) λl d' w=>⟨d',w⟩⟩
theorem AG{Hb:Hp}{Ob O O':az}{H H':Hp}(b:Base Hb Ob H O)(b':Base (lb H O Ob) Ob H' O'):aP (hid H O) (hid H' O'):=λc o h=>by
 unfold hid at h ⊢;by_cases hc:c∈O
 ·rw[if_pos hc]at h;cases h
 ·rw[if_neg hc]at h;have h1:lb H O Ob c=some o:=z8 h λz=>hc z.1;rw[if_neg]
  ·exact b'.same _ _ h1
  ·intro z;rcases b'.new c z with z|z
   ·exact hc (b.sub c z)
   ·rw[h1]at z;cases z
theorem Jn.loop{X:Cx}{Hb:Hp}{Ob O:az}{H:Hp}{E E':Ends}{k k':Ks}{r:R D}(hk:Jn X Hb Ob E k r)(b:Base Hb Ob H O)(hn:∀O' ρ' σ' H',eI X.K (lb H O Ob) Ob O' H' ρ' σ'->k'.nx ρ'=r->E'.nx σ' H')(hc:∀O' ρ' σ' H',eI X.K (lb H O Ob) Ob O' H' ρ' σ'->k'.ct ρ'=r->E'.ct σ' H')
    (eb:k'.bk=k.nx) (ee:k'.ex=k.ex) (Eb:E'.bk=E.nx) (Er:E'.rt=E.rt):Jn X (lb H O Ob) Ob E' k' r:=
  ⟨hk.ne,hn,fun O' ρ' σ' H' S e=>by rw [Eb]; exact hk.nx O' ρ' σ' H' (S.back b) (by rw [<- eb]; exact e),hc,fun d O' v H' e b' dv=>by rw [Er]; exact hk.rt d O' v H' e (b.back b') dv,
   λO' ρ' σ' H' x S e=>hk.ex O' ρ' σ' H' x (S.back b) (by rw[<-ee];exact e)⟩
section
variable{X:Cx}{st:RK}{rest body:dM}{pos:Pos}
end
end TG
namespace TG
open PySem PySem.Spec L2
variable[au]
theorem eI.setO{K:QG}{Hb:Hp}{Ob O:az}{H:Hp}{ρ:ao}{σ:St}(E:eI K Hb Ob O H ρ σ){i:Nat}{d d':D}{a:RH}{o:HO}(hi:ρ[i]?=some (some (.own d)))(ha:σ[i]?=some (some (.ref a)))(m:sd o)(new:jF K (upd H a o) O a d'):
  eI K Hb Ob O (upd H a o) (ρ.set i (some (.own d'))) σ:=by
 obtain⟨a',ha',haO,hat⟩:=E.env.own i d hi;rw[ha]at ha';cases ha';obtain⟨m1,m2⟩:=E.mine i d a hi ha;have s:aP (hid H O) (hid (upd H a o) O):=jQ haO;have own:∀(j:Nat) ys,(ρ.set i (some (.own d')))[j]?=some (some (.own ys))->∃ys',ρ[j]?=some (some (.own ys')):=λj ys q=>by
  rcases aR q with⟨hj,_⟩|⟨_,q⟩
  ·rw[hj];exact⟨d,hi⟩
  ·exact⟨ys,q⟩
 refine⟨⟨λj d1 e=>?_,λj ys e=>?_,λj l ys zs b q1 q2 q3 q4=>?_,E.env.all.upd haO m⟩,⟨λb u h=>?_,E.base.sub,E.base.new⟩,λj ys b q1 q2=>?_,λj dn q=>?_⟩
 ·rcases aR e with⟨_,q⟩|⟨ne,q⟩
  ·cases q
  ·obtain⟨w,q1,q2⟩:=E.env.val j d1 q;exact⟨w,q1,q2.mono s⟩
 ·rcases aR e with⟨hj,q⟩|⟨ne,q⟩
  ·cases q;rw[hj];exact⟨a,ha,haO,new⟩
  ·obtain⟨b,q1,q2,q3⟩:=E.env.own j ys q;have nb:b≠a:=λz=>ne (E.env.one j i ys d a q hi (by rw[<-z];exact q1) ha);exact⟨b,q1,q2,q3.mono (by rw[aK nb]) s⟩
 ·obtain⟨_,q1'⟩:=own j ys q1;obtain⟨_,q2'⟩:=own l zs q2;exact E.env.one j l _ _ b q1' q2' q3 q4
 ·have nb:b≠a:=λz=>by rw[z,m1]at h;cases h
  rw[aK nb];exact E.base.same b u h
 ·obtain⟨ys',q⟩:=own j ys q1;exact E.mine j ys' b q q2
 ·have q:ρ[j]?=some (some (.nest dn)):=by
   rcases aR q with⟨_,z⟩|⟨_,z⟩
   ·cases z
   ·exact z
  refine(E.nst j dn q).to rfl s (λb q1 q2 q3 q4 _=>⟨aK λz=>q4 i d hi (by rw[z];exact ha),q1,q2,λl d1 w=>?_⟩) λl d1 w=>?_
  ·obtain⟨_,w'⟩:=own l d1 w;exact q4 l _ w'
  ·rcases aR w with⟨_,z⟩|⟨_,z⟩
   ·cases z
   ·exact⟨d1,z⟩
theorem eI.setNew{K:QG}{Hb:Hp}{Ob O:az}{H H':Hp}{ρ:ao}{σ:St}(E:eI K Hb Ob O H ρ σ){i:Nat}{d:D}{p:RH}(hi:i<σ.length)(sm:aP H H')(hp:H p=none)(m:∃o,H' p=some o/\sd o)(new:jF K H' (p::O) p d):
  eI K Hb Ob (p::O) H' (ρ.set i (some (.own d))) (σ.set i (some (.ref p))):=by
 have hpO:p∉O:=E.env.all.not hp;have s:aP (hid H O) (hid H' (p::O)):=λb o h=>by
  unfold hid at h ⊢;by_cases hb:b∈O
  ·rw[if_pos hb]at h;cases h
  ·rw[if_neg hb]at h;have ne:=aL h hp;rw[if_neg (by intro z;rcases List.mem_cons.mp z with z|z;exact ne z;exact hb z)];exact sm _ _ h
 have other:∀(j:Nat) xs,ρ[j]?=some (some (.own xs))->σ[j]?≠some (some (.ref p)):=λj xs e z=>by
  obtain⟨a,e1,e2,e3⟩:=E.env.own j xs e;rw[z]at e1;cases e1;obtain⟨o,e3⟩:=e3.some;rw[hp]at e3;cases e3
 refine⟨⟨λj d' e=>?_,λj xs e=>?_,λj k xs ys a e1 e2 e3 e4=>?_,⟨(E.env.all.same sm).1,λa ha=>?_⟩⟩,⟨E.base.same.trans sm,λa ha=>Ou _ (E.base.sub a ha),λa ha=>?_⟩,λj xs a e1 e2=>?_,λj dn e=>?_⟩
 ·rcases aR e with⟨_,q⟩|⟨ne,q⟩
  ·cases q
  ·obtain⟨v,q1,q2⟩:=E.env.val j d' q;exact⟨v,by rw[Ox (Ne.symm ne)];exact q1,q2.mono s⟩
 ·rcases aR e with⟨hj,q⟩|⟨ne,q⟩
  ·cases q;rw[hj];exact⟨p,Ow hi,Ot,new⟩
  ·obtain⟨a,q1,q2,q3⟩:=E.env.own j xs q;obtain⟨o,ho⟩:=q3.some;exact⟨a,by rw[Ox (Ne.symm ne)];exact q1,Ou _ q2,q3.mono (vL sm ho) s⟩
 ·rcases aR e1 with⟨hj,q1⟩|⟨nj,q1⟩
  ·rcases aR e2 with⟨hk,q2⟩|⟨nk,q2⟩
   ·exact hj.trans hk.symm
   ·rw[hj,Ow hi]at e3;cases e3;rw[Ox (Ne.symm nk)]at e4;exact absurd e4 (other k ys q2)
  ·rcases aR e2 with⟨hk,q2⟩|⟨nk,q2⟩
   ·rw[hk,Ow hi]at e4;cases e4;rw[Ox (Ne.symm nj)]at e3;exact absurd e3 (other j xs q1)
   ·rw[Ox (Ne.symm nj)]at e3;rw[Ox (Ne.symm nk)]at e4;exact E.env.one j k xs ys a q1 q2 e3 e4
 ·rcases List.mem_cons.mp ha with rfl|ha
  ·exact m
  ·exact(E.env.all.same sm).2 a ha
 ·rcases List.mem_cons.mp ha with rfl|ha
  ·exact .inr (E.base.same.free hp)
  ·exact E.base.new a ha
 ·rcases aR e1 with⟨hj,q1⟩|⟨nj,q1⟩
  ·rw[hj,Ow hi]at e2;cases e2;exact⟨E.base.same.free hp,λz=>hpO (E.base.sub p z)⟩
  ·rw[Ox (Ne.symm nj)]at e2;exact E.mine j xs a q1 e2
 ·rcases aR e with⟨_,q⟩|⟨ne,q⟩
  ·cases q
  ·refine(E.nst j dn q).to (Ox (Ne.symm ne)) s (λb q1 q2 q3 q4 ⟨o,ho⟩=>⟨by rw[ho,sm _ _ ho],Ou _ q1,q2,λl d1 w=>?_⟩) λl d1 w=>?_
   ·rcases aR w with⟨hl,z⟩|⟨nl,z⟩
    ·rw[hl,Ow hi];intro z;cases z;rw[hp]at ho;cases ho
    ·rw[Ox (Ne.symm nl)];exact q4 l d1 z
   ·rcases aR w with⟨_,z⟩|⟨_,z⟩
    ·cases z
    ·exact⟨d1,z⟩
noncomputable def L7(X:Cx)(F:FX):TE:=λσ H Q=>∃O ρ,dD X.K O H ρ σ/\eQ X σ O H (F ρ) λd=>∀p H',aP H H'->H p=none->(∃o,H' p=some o/\sd o)->jF X.K H' (p::O) p d->Q (.ref p) H'
noncomputable def FN(X:Cx)(e:RJ)(F:FX):Prop:=PE X e (L7 X F)
section
variable{X:Cx}{pos:Pos}
theorem tU{K:QG}{H:Hp}{O:az}{p:RH}{ds:List D}{vs:aE}(hp:H p=none)(d:aI K (hid H O) ds vs):jF K (upd H p (.lst vs)) (p::O) p (.lst ds):=⟨_,vs,bi,rfl,d.mono (uh hp)⟩
noncomputable def rj(i:Nat)(f:FX):bE:=λk ρ=>pI (f ρ) k ρ λd=>k.nx (ρ.set i (some (.own d)))
theorem ql{st:RK}{f:FX}{i:Nat}(hi:i<X.N.length)(h:PS X st (yS (L7 X f) (qB i))):FS X st (rj i f):=λHb Ob pins s σ H E I ⟨O,ρ,k,r,S,hF,hk⟩=>
 h pins s σ H E I ⟨O,ρ,S.env,eQ.on hF hk S λd e p H1 s1 hp m o=>hk.nx _ _ _ H1 (S.setNew (by rw[I.len];exact hi) s1 hp m o) e⟩
end
theorem Em{X:Cx}{F:FX}:∀σ H Q,L7 X F σ H Q->Le X F σ H Q:=λσ H Q ⟨O,ρ,E,hF⟩=>⟨O,ρ,E,hF.imp λd q D H' total acc e sm hD hD' dn=>by
 subst e;exact q D H' sm hD ⟨_,hD',trivial⟩ ⟨_,acc,hD',rfl,dn⟩⟩
noncomputable def D5(i:Nat)(u:List D->List D->Option (List D))(f:aS):bE:=λk ρ=>match ρ[i]? with
 |some (some (.own (.lst xs)))=>pI (f ρ) k ρ λds=>(rO (u xs ds)).bind λys=>k.nx (ρ.set i (some (.own (.lst ys))))
 |_=>un
noncomputable def DX(K:QG)(r:V->aE->Hp->VK->Prop)(u:List D->List D->Option (List D)):Prop:=
 ∀(H:Hp)(O:az)(a:RH)(xs ys as:List D)(ws vs:aE)(Q:VK),dL H O->a∈O->H a=some (.lst ws)->aI K (hid H O) xs ws->aI K (hid H O) as vs->u xs as=some ys->(∀ws' v,aI K (hid H O) ys ws'->Q v (upd H a (.lst ws')))->r (.ref a) vs H Q
theorem sR{K:QG}{H:Hp}{O:az}{a:RH}{ys:List D}{ws:aE}(ha:a∈O)(h:aI K (hid H O) ys ws):jF K (upd H a (.lst ws)) O a (.lst ys):=⟨_,ws,bi,rfl,h.mono (jQ ha)⟩
noncomputable def oB(xs:List D)(ds:List D):Option (List D):=match ds with
 |[y]=>if small (xs.length+1)then some (xs++[y])else none
 |_=>none
theorem wo{K:QG}:DX K vN oB:=λH O a xs ys as ws vs Q hO haO ha dx da hu q=>by
 unfold oB at hu;split at hu
 ·rename_i y;obtain⟨h1,h2⟩:=aY hu;subst h2;obtain⟨v,rfl,dv⟩:=da.one
  have:=dE h1
  rw[dx.length]at this;exact⟨a,ws,v,rfl,rfl,ha,by omega,q _ _ (dx.snoc dv)⟩
 ·cases hu
noncomputable def frz(i:Nat)(ρ:ao):ao:=match ρ[i]? with
 |some (some (.own d))=>setV i d ρ
 |_=>ρ
theorem dD.frz{K:QG}{O:az}{H:Hp}{ρ:ao}{σ:St}(E:dD K O H ρ σ)(i:Nat):∃O',dD K O' H (frz i ρ) σ/\(∀b∈O',b∈O)/\∀b∈O,b∉O'->∃d,ρ[i]?=some (some (.own d))/\σ[i]?=some (some (.ref b)):=by
 unfold TG.frz;split
 ·rename_i d hd;obtain⟨a,ha,haO,hat⟩:=E.own i d hd;have sub:∀b∈O.filter (λb=>decide (b≠a)),b∈O:=λb hb=>(List.mem_filter.mp hb).1;have s:aP (hid H O) (hid H (O.filter λb=>decide (b≠a))):=g9 sub;have na:a∉O.filter λb=>decide (b≠a):=λz=>absurd rfl (of_decide_eq_true (List.mem_filter.mp z).2);refine⟨O.filter λb=>decide (b≠a),⟨λj d' e=>?_,λj ys e=>?_,λj l ys zs b q1 q2 q3 q4=>?_,⟨E.all.1,λb hb=>E.all.2 b (sub b hb)⟩⟩,sub,λb hb nb=>?_⟩
  ·rcases aR e with⟨hj,q⟩|⟨ne,q⟩
   ·cases q;rw[hj];exact⟨.ref a,ha,hat.den s na⟩
   ·obtain⟨w,q1,q2⟩:=E.val j d' q;exact⟨w,q1,q2.mono s⟩
  ·rcases aR e with⟨_,q⟩|⟨ne,q⟩
   ·cases q
   ·obtain⟨b,q1,q2,q3⟩:=E.own j ys q;have nb:b≠a:=λz=>ne (E.one j i ys d a q hd (by rw[<-z];exact q1) ha);exact⟨b,q1,List.mem_filter.mpr ⟨q2,decide_eq_true nb⟩,q3.mono rfl s⟩
  ·rcases aR q1 with⟨_,q⟩|⟨_,q⟩
   ·cases q
   ·rcases aR q2 with⟨_,q'⟩|⟨_,q'⟩
    ·cases q'
    ·exact E.one j l ys zs b q q' q3 q4
  ·by_cases z:b=a
   ·exact⟨d,hd,by rw[z];exact ha⟩
   ·exact absurd (List.mem_filter.mpr ⟨hb,decide_eq_true z⟩) nb
 ·exact⟨O,E,λ_ z=>z,λb hb nb=>absurd hb nb⟩
theorem eI.frz{K:QG}{Hb:Hp}{Ob O:az}{H:Hp}{ρ:ao}{σ:St}(E:eI K Hb Ob O H ρ σ)(i:Nat):∃O',eI K Hb Ob O' H (frz i ρ) σ:=by
 obtain⟨O',E',sub,gone⟩:=E.env.frz i;refine⟨O',E',⟨E.base.same,λa ha=>?_,λa ha=>E.base.new a (sub a ha)⟩,λj xs a q1 q2=>?_,λj dn q1=>?_⟩
 ·by_cases z:a∈O'
  ·exact z
  ·obtain⟨d,e1,e2⟩:=gone a (E.base.sub a ha) z;exact absurd ha (E.mine i d a e1 e2).2
 ·have q:ρ[j]?=some (some (.own xs)):=by
   unfold TG.frz at q1;split at q1
   ·rcases aR q1 with⟨_,q⟩|⟨_,q⟩
    ·cases q
    ·exact q
   ·exact q1
  exact E.mine j xs a q q2
 ·have bk:∀(l:Nat) x,(TG.frz i ρ)[l]?=some (some x)->(∀d,x≠.val d)->ρ[l]?=some (some x):=λl x e nv=>by
   unfold TG.frz at e;split at e
   ·rcases aR e with⟨_,q⟩|⟨_,q⟩
    ·cases q;exact absurd rfl (nv _)
    ·exact q
   ·exact e
  refine(E.nst j dn (bk j _ q1 (λ_ z=>nomatch z))).to rfl (g9 sub) (λb w1 w2 w3 w4 _=>⟨rfl,?_,w2,λl d1 w=>w4 l d1 (bk l _ w (λ_ z=>nomatch z))⟩) λl d1 w=>⟨d1,bk l _ w (λ_ z=>nomatch z)⟩
  by_cases z:b∈O'
  ·exact z
  ·obtain⟨d,e1,e2⟩:=gone b w1 z;exact absurd e2 (w4 i d e1)
noncomputable def AW(i:Nat)(F:bE):bE:=λk ρ=>F k (frz i ρ)
noncomputable def frzs(is:List Nat)(ρ:ao):ao:=is.foldl (λρ i=>frz i ρ) ρ
end TG
namespace TG
open PySem PySem.Spec L2
variable[au]
noncomputable def ya(K:QG)(n:Nat)(g:bI):Sp:=λvs H Q E=>∃O ds,vs.length=n/\dL H O/\aI K (hid H O) ds vs/\match g ds with
 |.ok d=>∀v H',aP H H'->cz K (hid H' O) d v->Q v H'
 |.error (some x)=>LK K H O x E
 |.error none=>False
section
variable{X:Cx}{k:Nat}{f C:RH}{fd:Sn}{ps:av}{sp:Sp}{x m:Str}{p pos apos:Pos}{e o:RJ}{es:aZ}{ta:TE}{t:TA}
theorem si{pins:bc}{σ:St}{H:Hp}{s:RL}{Q:VK}{E:XK}{us:bb}{vs:aE}(F:gz X.prog X.w X.K X.mg X.base (lQ X.prog X.w) k f fd ps sp)(hr:fM k X.A)(hb:Binds X.K fd ps [])(hx:jA (lQ X.prog X.w) X σ E)
  (I:Inv X pins σ H s) (r:Vals vs us) (h:sp vs H Q E):RY (model X.prog X.w) X.A (call (.ref f) us) (EP X pins σ Q) X.xe s:=by
 have hl:(us++[]).length=ps.length:=by rw[OM,<-r.length];exact F.len _ _ _ _ h
 have hb':=hb s us I.kIn hl;rw[OM]at hb';refine Sr (Ss (F.run X.A X.stack s H ⟨us,[]⟩ us vs Q E hr I.env0 hb' r h) λr s' hq=>?_);cases r with
 |error e=>exact hx pins H s e s' I hq
 |ok fl=>
  cases fl with
  |ret u=>exact I.after hq
  |next=>exact False.elim hq
  |brk=>exact False.elim hq
  |cont=>exact False.elim hq
noncomputable def yP(X:Cx)(sp:Sp)(t:TA):TE:=λσ H Q=>t σ H λvs H1=>∃E,jA (lQ X.prog X.w) X σ E/\sp vs H1 Q E
theorem zk(F:gz X.prog X.w X.K X.mg X.base (lQ X.prog X.w) k f fd ps sp)(hr:fM k X.A)(hg:Gl X x)(hm:X.mg x=some (.ref f))(hk:QU X.K (.ref f)=true)(hb:Binds X.K fd ps [])
  (ha:PA X (e::es) t) (hdb:(x==("__debug__":Str))=false:=by decide) (he:RZ (e::es) X.env=(false,eval e X.env)::RZ es X.env:=by rfl) (hpl:(backTo pos (RZ es X.env)).any (·.1)=false:=by rfl):
  PE X (.Call (.Name x p) (e::es) [] pos) (yP X sp t):=by
 intro pins s σ H Q I h;refine Su (so I hg hm ?_ hdb);refine QV (h₀:=X.base) I.ok.mod.kin hk (cD (ha pos pins s σ H _ I h) λus s1 ⟨vs,H1,I1,r,E,hx,q⟩=>⟨I1.kIn,?_⟩) he hpl;exact si F hr hb hx I1 r q
theorem xg{n:Nat}{g:bI}{f:aS}(hn:∀ds,g ds≠un->ds.length=n):∀σ H Q,tF X (fR g f) σ H Q->yP X (ya X.K n g) (Kt X f) σ H Q:=λσ H Q ⟨O,ρ,E,hF⟩=>
 ⟨O,ρ,E,(eQ.bind hF).imp fun ds hF vs H1 s1 d1=>by
  cases hg:g ds with
  |ok d=>
   rw[hg]at hF;refine⟨E0,vj,O,ds,by rw[<-d1.length];exact hn ds (by rw[hg];intro z;cases z),E.all.same s1,d1,?_⟩;rw[hg];exact λv H2 s2 d2=>hF v H2 (s1.trans s2) d2
  |error z=>
   rw[hg]at hF;cases z with
   |none=>exact hF.elim
   |some x=>
    refine⟨vx X O H1 x,vT (G8.mono hF s1),O,ds,by rw[<-d1.length];exact hn ds (by rw[hg];intro z;cases z),E.all.same s1,d1,?_⟩;rw[hg];exact sK⟩
end
noncomputable def Callee(P:RN)(w:RM)(K:QG)(mg:cS)(base:RP)(k:Nat)(x:Str)(ps:av)(g:bI):Prop:=
 ∃f fd,gz P w K mg base (lQ P w) k f fd ps (ya K ps.length g)/\Binds K fd ps []/\QU K (.ref f)=true/\mg x=some (.ref f)
noncomputable def Ar(n:Nat)(g:bI):Prop:=∀ds,g ds≠un->ds.length=n
noncomputable def K0:Ks:={nx:=λ_=>.ok .non}
noncomputable def env0(n:Nat)(ds:List D):ao:=ds.map (λd=>some (.val d))++List.replicate (n-ds.length) none
noncomputable def aj(B:bE)(np n:Nat):bI:=λds=>if ds.length=np then B K0 (env0 n ds)else un
theorem dZ{B:bE}{np n:Nat}:Ar np (aj B np n):=λds h=>by
 unfold aj at h;split at h
 ·assumption
 ·exact absurd rfl h
theorem jB{n:Nat}{ds:List D}(i:Nat)(x:S)(e:(env0 n ds)[i]?=some (some x)):∃d,ds[i]?=some d/\x=.val d:=by
 unfold env0 at e;by_cases hi:i<ds.length
 ·rw[OU (by rw[OI];exact hi),OV,Pr hi]at e;have e':some (S.val ds[i])=some x:=Option.some.inj e;exact⟨ds[i],by rw[Pr hi],(Option.some.inj e').symm⟩
 ·rw[OS (by rw[OI];omega),OI,OT]at e;split at e
  ·cases e
  ·cases e
theorem vh{K:QG}{O:az}{H:Hp}{N:av}{ds:List D}{vs:aE}(hO:dL H O)(h:aI K (hid H O) ds vs):dD K O H (env0 N.length ds) (L2.start N vs):=by
 refine⟨λi d e=>?_,λi xs e=>?_,λi j xs ys a e=>?_,hO⟩
 ·obtain⟨d',e1,e2⟩:=jB i _ e;cases e2;obtain⟨v,e3,e4⟩:=h.get e1;refine⟨v,?_,e4⟩;unfold L2.start;have hi:i<vs.length:=(List.getElem?_eq_some_iff.mp e3).1;rw[OU (by rw[OI];exact hi),OV,e3];rfl
 ·obtain⟨d',_,e2⟩:=jB i _ e;cases e2
 ·obtain⟨d',_,e2⟩:=jB i _ e;cases e2
section
variable{P:RN}{w:RM}{K:QG}{mg:cS}{base:RP}
structure BodyOk(P:RN)(w:RM)(K:QG)(mg:cS)(base:RP)(k:Nat)(N:av)(qual:Str)(st:RK)(f:RH)(B:bE):Prop where
 h:∀(cdv:RF)(A:RV)(outer:List Env)(s:RL)(H:Hp)(E:XK),fM k (A.deeper (Rx qual (aw st) s.heap.objs.size f cdv))->Sa (model P w) (A.deeper (Rx qual (aw st) s.heap.objs.size f cdv)) (Rx qual (aw st) s.heap.objs.size f cdv) (jn (lQ P w) P w K mg base N qual (aw st) f cdv A outer s H E).xe->
  Mv (jn (lQ P w) P w K mg base N qual (aw st) f cdv A outer s H E) (dS st) B
theorem Mj{x qual:Str}{st:RK}{f:RH}{fd:Sn}{N ps:av}{k:Nat}{sp:Sp}{CX:uj}(F:n9 K x qual st f fd)(S:b9 N ps (aw st))(len:∀vs H Q E,sp vs H Q E->vs.length=ps.length)
  (hbody:∀ (cdv:RF) (A:RV) (outer:List Env) (s:RL) (H:Hp) (vs:aE) (Q:VK) (E:XK),fM k (A.deeper (Rx qual (aw st) s.heap.objs.size f cdv))->sp vs H Q E ->
   ∃t,t9 (jn CX P w K mg base N qual (aw st) f cdv A outer s H E) (dS st) t/\t {nx:=λ_ H'=>Q .non H',rt:=Q} (L2.start N vs) H):gz P w K mg base CX (k+1) f fd ps sp:=by
 obtain⟨oc,od,kV,doc,pm,an,cdv,ct,osl,rfl,lk,hcd⟩:=F.ex;exact D7 lk hcd S len λA outer s H vs Q E hr hsp=>hbody cdv A outer s H vs Q E hr hsp
theorem gz.any{CX:uj}{k:Nat}{f:RH}{fd:Sn}{ps:av}{sp:Sp}(F:gz P w K mg base Jr k f fd ps sp):gz P w K mg base CX k f fd ps sp:=
 ⟨F.len,fun A outer s H args us vs Q E hr he hb hv hs=>Ss (F.run A outer s H args us vs Q E hr he hb hv hs) fun r s' h=>by
  cases r with
  |error e=>exact False.elim h
  |ok fl=>cases fl<;>exact h⟩
theorem rQ{x qual:Str}{st:RK}{f:RH}{fd:Sn}{N ps:av}{k:Nat}{B:bE}(F:n9 K x qual st f fd)(SC:b9 N ps (aw st))(hb:BodyOk P w K mg base k N qual st f B):
  gz P w K mg base (lQ P w) (k+1) f fd ps (ya K ps.length (aj B ps.length N.length)):=by
 refine Mj F SC (λvs H Q E h=>?_) λcdv A outer s H vs Q E hr h=>?_
 ·obtain⟨O,ds,h1,_⟩:=h;exact h1
 ·obtain⟨O,ds,h1,h2,h3,h4⟩:=h;have hl:ds.length=ps.length:=h3.length.trans h1;have e4:aj B ps.length N.length ds=B K0 (env0 N.length ds):=by unfold aj;rw[if_pos hl]
  rw[e4]at h4;refine⟨_,hb.h cdv A outer s H E hr PassesOwn.leaving H O,O,env0 N.length ds,K0,_,⟨vh h2 h3,⟨aP.refl H,λ_ z=>z,λa z=>.inl z⟩,λi xs a e=>?_,λi d e=>by obtain⟨d',_,e2⟩:=jB i _ e;cases e2⟩,rfl,?_⟩
  ·obtain⟨d',_,e2⟩:=jB i _ e;cases e2
  ·generalize B K0 (env0 N.length ds)=r at h4;refine⟨λz=>by rw[z]at h4;exact h4,λO' ρ' σ' H' S e=>?_,λO' ρ' σ' H' S e=>?_,λO' ρ' σ' H' S e=>?_,λd O' v H' e b dv=>?_,λO' ρ' σ' H' x S e=>?_⟩
   ·have e:(.ok .non:R D)=r:=e;subst e;exact h4 .non H' S.base.same (iI.mpr rfl)
   ·have e:(un:R D)=r:=e;subst e;exact h4.elim
   ·have e:(un:R D)=r:=e;subst e;exact h4.elim
   ·subst e;exact h4 v H' b.same (dv.mono (g9 b.sub))
   ·have e:(.error (some x):R D)=r:=e;subst e;exact Gr h4 S.base.same S.base.sub
theorem xD{x qual:Str}{st:RK}{f:RH}{fd:Sn}{N ps:av}{k:Nat}{B:bE}(F:n9 K x qual st f fd)(b:Binds K fd ps [])(m:mg x=some (.ref f))(SC:b9 N ps (aw st))(hb:BodyOk P w K mg base k N qual st f B):
  Callee P w K mg base (k+1) x ps (aj B ps.length N.length):=⟨f,fd,rQ F SC hb,b,F.kp,m⟩
theorem uc{x qual:Str}{st:RK}{f:RH}{fd:Sn}{ps:av}(k:Nat)(F:n9 K x qual st f fd)(b:Binds K fd ps [])(m:mg x=some (.ref f)):Callee P w K mg base k x ps (λ_=>un):=by
 have no:∀vs H Q E,¬ya K ps.length (λ_=>un) vs H Q E:=λvs H Q E ⟨O,ds,_,_,_,e⟩=>e;exact⟨f,fd,⟨λvs H Q E h=>absurd h (no vs H Q E),λA outer s H args us vs Q E _ _ _ _ h=>absurd h (no vs H Q E)⟩,b,F.kp,m⟩
end
theorem oo{K:QG}{T:String}(h1:Rb K (.type "NoneType") (.type T)=some (T=="NoneType"))(h2:Rb K (.type "bool") (.type T)=some (T=="bool"||T=="int"))(h3:Rb K (.type "int") (.type T)=some (T=="int"))(h4:Rb K (.type "str") (.type T)=some (T=="str"))
  (h5:Rb K (.type "tuple") (.type T)=some (T=="tuple")) (h6:Rb K (.type "list") (.type T)=some (T=="list")):uo K T:=λd hd=>by
 cases d with
 |dct _ _=>cases hd
 |obj _ _ _=>cases hd
 |exc _ _ _=>cases hd
 |non=>exact h1
 |bl _=>exact h2
 |int _=>exact h3
 |str _=>exact h4
 |tup _=>exact h5
 |lst _=>exact h6
theorem Ag{K:QG}:uo K "int":=oo rfl rfl rfl rfl rfl rfl
theorem yi{K:QG}:uo K "bool":=oo rfl rfl rfl rfl rfl rfl
theorem zu{K:QG}:uo K "str":=oo rfl rfl rfl rfl rfl rfl
theorem uz{K:QG}:uo K "tuple":=oo rfl rfl rfl rfl rfl rfl
end TG
namespace TG
open PySem PySem.Spec L2
variable[au]
section
variable{X:Cx}{a b c:RJ}{fa fb fc:FX}{pos:Pos}
theorem Fp{r:V->Hp->VK->Prop}{g:D->bB}(s:Dg X.K r g):∀σ H Q,tF X (f1 g fa) σ H Q->Ms r (tF X fa) σ H Q:=λσ H Q ⟨O,ρ,E,hF⟩=>⟨O,ρ,E,(eQ.bind hF).imp λa hF x H1 s1 d1=>by
 obtain⟨d,e,q⟩:=eQ.rO hF;exact s a d x O H1 Q (E.all.same s1) e d1 λv H2 s2 d2=>q v H2 (s1.trans s2) d2⟩
noncomputable def fJ(g g':D->D->bB)(fa fb fc:FX):FX:=λρ=>(fa ρ).bind λx=>(fb ρ).bind λy=>(rO (g x y)).bind λz=>uB z ((fc ρ).bind λw=>rO (g' y w))
theorem qq{r r':R2}{g g':D->D->bB}(s:dh X.K r g)(s':dh X.K r' g'):∀σ H Q,tF X (fJ g g' fa fb fc) σ H Q->uY r r' (tF X fa) (tF X fb) (tF X fc) σ H Q:=λσ H Q ⟨O,ρ,E,hF⟩=>
 ⟨O,ρ,E,(eQ.bind hF).imp fun x hF v1 H1 s1 d1=>⟨O,ρ,E.same s1,((eQ.bind hF).mono s1).imp fun y hF v2 H2 s2 d2=>by
  obtain⟨z,e3,hF⟩:=eQ.rO (eQ.bind hF);refine s x y z v1 v2 O H2 _ (E.all.same (s1.trans s2)) e3 (d1.mono (cf s2)) d2 λv3 H3 s3 d3=>?_;cases z with
  |bl k=>
   refine⟨k,iT.mp d3,?_⟩;cases k with
   |false=>exact sW (hF _ H3 ((s1.trans s2).trans s3) (iT.mpr rfl))
   |true=>
    refine sQ ⟨O,ρ,E.same ((s1.trans s2).trans s3),((eQ.bind (show eQ X σ O H ((fc ρ).bind λw=>rO (g' y w)) _ from hF)).mono ((s1.trans s2).trans s3)).imp λw hF v4 H4 s4 d4=>?_⟩;obtain⟨d,e5,q⟩:=eQ.rO hF;exact s' y w d v2 v4 O H4 Q (E.all.same (((s1.trans s2).trans s3).trans s4)) e5 (d2.mono (cf (s3.trans s4))) d4 λv5 H5 s5 d5=>q v5 H5 ((((s1.trans s2).trans s3).trans s4).trans s5) d5
  |_=>exact hF.elim⟩⟩
noncomputable def EK:D->bB
 |.int i=>some (.int (-i))
 |_=>none
noncomputable def CZ(f:FX):FX:=f1 EK f
noncomputable def y6:List D->bB
 |[.int i]=>if decide (i.natAbs.log2<1920)then some (.str (toString i))else none
 |_=>none
theorem wD:eJ X (.type "str") (A8 X.K y6):=by
 rintro pins s σ H xs us Q I r ⟨O,ds,d,hO,hd,hg,q⟩;unfold y6 at hg;split at hg
 ·rename_i i;obtain⟨h1,h2⟩:=aY hg;subst h2;obtain⟨v,ev,h1'⟩:=hd.one;exact rY pins s σ H xs us Q I r ⟨i,by rw[ev,eM.mp h1'],of_decide_eq_true h1,q _ H (aP.refl H) (eF.mpr rfl)⟩
 ·cases hg
noncomputable def zG:D->bB
 |.str x=>if small x.length then some (.str (Txt.upper x))else none
 |_=>none
noncomputable def GD(f:FX):FX:=f1 zG f
noncomputable def FL:D->bB
 |.lst xs=>some (.lst xs.reverse)
 |.tup xs=>some (.tup xs.reverse)
 |_=>none
noncomputable def KH(f:FX):FX:=f1 FL f
noncomputable def allB:List D->Option Bool
 |[]=>some true
 |.bl b::r=>(allB r).bind λc=>some (b&&c)
 |_=>none
noncomputable def uU:List D->bB
 |[.lst xs]=>(allB xs).bind λb=>some (.bl b)
 |_=>none
theorem sY:∀{xs:List D}{b:Bool},allB xs=some b->∃bs:List Bool,xs=bs.map .bl/\b=bs.all id
 |[],b,h=>by cases h;exact⟨[],rfl,rfl⟩
 |.bl x::r,b,h=>by
  obtain⟨c,e1,e2⟩:=bind_some (show((allB r).bind λc=>some (x&&c))=some b from h);cases e2;obtain⟨bs,e3,e4⟩:=sY e1;exact⟨x::bs,by rw[OH,e3],by rw[Pn,e4];rfl⟩
 |.non::_,_,h=>by cases h
 |.int _::_,_,h=>by cases h
 |.str _::_,_,h=>by cases h
 |.tup _::_,_,h=>by cases h
 |.lst _::_,_,h=>by cases h
 |.dct _ _::_,_,h=>by cases h
 |.obj _ _ _::_,_,h=>by cases h
 |.exc _ _ _::_,_,h=>by cases h
theorem kM{K:QG}{H:Hp}:∀{bs:List Bool}{vs:aE}{us:bb},aI K H (bs.map .bl) vs->Vals vs us->us=bs.map Value.bool
 |[],vs,us,h,r=>by
  rw[O3,cw]at h;subst h;cases r;rfl
 |b::bs,vs,us,h,r=>by
  rw[OH,aM]at h;obtain⟨v,r',e,h1,h2⟩:=h;subst e;cases r with
  |cons q1 q2=>
   rw[iT]at h1;subst h1;cases q1;rw[OH,kM h2 q2]
theorem range_all(bs:List Bool):((List.range bs.length).all λi=>(bs[i]?).getD true)=bs.all id:=by
 induction bs with
 |nil=>rfl
 |cons b bs ih=>
  rw[OG,Pp,Pn,Pq,Pn,<-ih];rfl
theorem wL(hc:X.calm=true):eJ X (.builtin "all") (A8 X.K uU):=by
 rintro pins s σ H xs us Q I r ⟨O,ds,d,hO,hd,hg,q⟩;unfold uU at hg;split at hg
 ·rename_i ys;obtain⟨bv,e1,e2⟩:=bind_some hg;cases e2;obtain⟨bs,eb,ev⟩:=sY e1;subst eb ev;obtain⟨v,evv,h1⟩:=hd.one;subst evv;obtain⟨p,vs,ep,g1,g2⟩:=cq.mp h1;subst ep;obtain⟨u,eu,ru⟩:=vals1 r;subst eu;cases ru;obtain⟨its,rv,pl,hz⟩:=I.list ((aF H O).seq g1);have ei:=kM g2 rv;have hl:=pl.isList;have hlt:p<s.heap.objs.size:=by obtain⟨_,e,_⟩:=hl;exact Rm e
  refine call_all_walk (R9 hl ?_);refine⟨s.heap.objs.size,[s.heap.objs.size,p],[s.heap.objs.size],its.toArray.size,_,_,λi=>(bs[i]?).getD true,rfl,Walks.list (A:=X.A.in1) (I.ok.hd hc) _ p (Ol hlt) its.toArray,
   ⟨⟨_,Rp _ rfl,rfl,rfl⟩,hl.push _⟩,λi v s' Q' E' hP hQ=>?_,λh' tk hk=>?_⟩
  ·have e:bs[i]?.map Value.bool=some v:=by
    rw[<-OV,<-ei]
    simpa using hP
   cases eb:bs[i]? with
   |none=>rw[eb]at e;cases e
   |some b=>
    rw[eb]at e;cases e;simp only[eb,PQ]at hQ;exact R5 hQ
  ·have e:((List.range its.toArray.size).all λi=>(bs[i]?).getD true)=bs.all id:=by
    have:its.toArray.size=bs.length:=(by rw[OB,ei,OI]);rw[this];exact range_all bs
   rw[e];have k:∀b x,s.heap.get? b=some x->h'.get? b=some x:=λb x e=>hk b x (λhm=>by rw[List.mem_singleton.mp hm]at e;exact Oj _ (Rm e)) (Ro _ e);exact⟨.bl _,H,I.kept k,rfl,q _ H (aP.refl H) (iT.mpr rfl)⟩
 ·cases hg
end
end TG
namespace ZI
open PySem PySem.Spec PyProof.Rows
section
variable{prog:RN}{w:RM}{A:RV}{E:RF->RL->Prop}{s:RL}
theorem uV{it t:RH}{i:Nat}{its:Array RF}{x:RF}{Q:RF->RL->Prop}(hit:s.heap.IsTupleIter it t i)(ht:s.heap.IsTuple t its)(hx:its[i]?=some x)
  (hQ:∀g,g.IsTupleIter it t (i+1)->Rn it s.heap g->Q x {s with heap:=g}):RY (model prog w) A (Builtin.SmallTypes.nextOf (.ref it)) Q E s:=by
 obtain⟨ob,h1,h2,h3⟩:=id hit;obtain⟨ol,g1,_,n,g2⟩:=ht;unfold Builtin.SmallTypes.nextOf;refine R8 (SG (name:=Str.ofString "__next__") hit.typeIs F.slot_tuple_iterator_next (SH F.slot_tuple_iterator_next hit.typeIs F.entry_tuple_iterator_next ?_ (F.args_tuple_iterator_next_1 _)));show RY _ _ (field (.ref it) 0 >>= _) _ _ s;refine R8 (SD h1 h3 (x:=.ref t) rfl ?_);show RY _ _ (if(Value.ref t==Value.none)=true then _ else _) _ _ s;rw[if_neg (show¬((Value.ref t==Value.none)=true)from λz=>OD z)];show RY _ _ (field (.ref it) 1 >>= _) _ _ s;refine R8 (SD h1 h3 (x:=.int i 0) rfl ?_);show RY _ _ (seqItems? (.ref t) >>= _) _ _ s;refine R8 (SR g1 g2 ?_);simp only[OY,hx];refine R8 (wpAny_setField h1 h3 (by simp) (R7 ⟨x,rfl,R7 (hQ _ ⟨_,Ru _ h1 (Obj.isFreed_of_fields (Obj.data_mapFields h3 _)),(Obj.cls_mapFields ..).trans h2,by rw[Obj.data_mapFields h3];simp[rawInt]⟩ (Heap.SameBut.update ..))⟩))
theorem wX{it t:RH}{i:Nat}{its:Array RF}{Q:RF->RL->Prop}(hh:A.handled=none)(hit:s.heap.IsTupleIter it t i)(ht:s.heap.IsTuple t its)(hx:its[i]?=none)
  (hE:∀g e,Heap.ExtBut it s.heap g->(∃o,g.get? e=some o/\o.cls=.type "StopIteration")->E (.ref e) {s with heap:=g}):RY (model prog w) A (Builtin.SmallTypes.nextOf (.ref it)) Q E s:=by
 obtain⟨ob,h1,h2,h3⟩:=id hit;obtain⟨ol,g1,_,n,g2⟩:=ht;unfold Builtin.SmallTypes.nextOf;refine R8 (SG (name:=Str.ofString "__next__") hit.typeIs F.slot_tuple_iterator_next (SH F.slot_tuple_iterator_next hit.typeIs F.entry_tuple_iterator_next ?_ (F.args_tuple_iterator_next_1 _)));show RY _ _ (field (.ref it) 0 >>= _) _ _ s;refine R8 (SD h1 h3 (x:=.ref t) rfl ?_);show RY _ _ (if(Value.ref t==Value.none)=true then _ else _) _ _ s;rw[if_neg (show¬((Value.ref t==Value.none)=true)from λz=>OD z)];show RY _ _ (field (.ref it) 1 >>= _) _ _ s;refine R8 (SD h1 h3 (x:=.int i 0) rfl ?_);show RY _ _ (seqItems? (.ref t) >>= _) _ _ s;refine R8 (SR g1 g2 ?_);simp only[OY,hx];refine R8 (SL (R8 (wpAny_setField h1 h3 (by simp) ?_)));show RY _ _ (newExc (.type "StopIteration") [] >>= _) _ _ _;refine R8 ?_;simp only[newExc,newTuple];refine R8 (SJ ?_ (by size_fits));refine R8 (m:=firstArgMember _ _) (wpAny_of_eq (a:=Value.none) (by first|rfl|(simp only[firstArgMember];rfl)) ?_);refine SJ ?_ (by size_fits);simp only[raiseNew];refine R8 (wpAny_handled ?_)
 first|rw[show A.in1.handled=none from hh]|rw[hh]
 refine R8 (R7 (wpAny_throw ?_));exact hE _ _ (((Heap.SameBut.update ..).extBut.push _).push _) ⟨_,Rp _ rfl,rfl⟩
end
theorem Gi{prog:RN}{w:RM}{A:RV}(hh:A.handled=none)(it t:RH)(hne:t≠it)(its:Array RF):Draws prog w A it [it,t] its.size (λi v=>its[i]?=some v) (λi h=>h.IsTupleIter it t i/\h.IsTuple t its)where
 live:=λi h ⟨⟨o,e,_⟩,_⟩=>⟨o,e⟩
 frame:=λi h h' ⟨x,y⟩ k=>⟨x.at λo e=>k it (by simp) o e,let ⟨o,e,r⟩:=y;⟨o,k t (by simp) o e,r⟩⟩
 item:=λi s Q E hi ⟨x,y⟩ hQ=>uV x y (Array.getElem?_eq_getElem hi) λg hg hs=>hQ _ g s.toks (Array.getElem?_eq_getElem hi) ⟨hg,let ⟨o,e,r⟩:=y;⟨o,(hs.2 t hne).trans e,r⟩⟩ hs
 done:=λs Q E ⟨x,y⟩ hE=>wX hh x y (by simp) hE
structure Apart(z TI TO i1 i2:RH)(fp1 fp2:List RH):Prop where
 a1:TI≠z
 a2:TO≠z
 a3:TI≠TO
 b1:z∉fp1
 b2:TO∉fp1
 b3:i2∉fp1
 c1:z∉fp2
 c2:TO∉fp2
 c3:i1∉fp2
 d1:TI≠i1
 d2:TI≠i2
 e1:i1∈fp1
 e2:i2∈fp2
section
variable{prog:RN}{w:RM}{A:RV}{E:RF->RL->Prop}{s:RL}{z TI TO i1 i2:RH}{fp1 fp2:List RH}{n1 n2 i:Nat}{P1 P2:Nat->RF->Prop}{S1 S2:Nat->RP->Prop}{a b:RF}
theorem next_item{Q:RF->RL->Prop}(Ap:Apart z TI TO i1 i2 fp1 fp2)(D1:Draws prog w A i1 fp1 n1 P1 S1)(D2:Draws prog w A i2 fp2 n2 P2 S2)(hz:SU s.heap z TI TO .none)(hTI:SV s.heap TI (.ref i1) (.ref i2))(hTO:SV s.heap TO a b)(st1:S1 i s.heap)(st2:S2 i s.heap)(l1:i<n1)(l2:i<n2)
  (hQ:∀ x y g tk,P1 i x->P2 i y->SU g z TI TO (rawInt s.heap.objs.size)->SV g TO x y->S1 (i+1) g->S2 (i+1) g->SV g s.heap.objs.size x y->g.objs.size=s.heap.objs.size+1 ->
   (∀c o,c≠z->c≠TO->c≠i1->c≠i2->s.heap.get? c=some o->g.get? c=some o)->Q (.ref s.heap.objs.size) {s with heap:=g,toks:=tk}):
  RY (model prog w) A (Builtin.«zip.__next__» ⟨[.ref z],[]⟩) (λfin s'=>∃v,fin=.done (.ret v)/\Q v s') E s:=by
 have n1z:i1≠z:=λe=>Ap.b1 (e ▸ Ap.e1);have n2z:i2≠z:=λe=>Ap.c1 (e ▸ Ap.e2);have n1T:i1≠TO:=λe=>Ap.b2 (e ▸ Ap.e1);have n2T:i2≠TO:=λe=>Ap.c2 (e ▸ Ap.e2);show RY _ _ (field (.ref z) 2 >>= _) _ _ _;refine R8 (SD hz rfl (x:=.bool false) rfl ?_);show RY _ _ (field (.ref z) 3 >>= _) _ _ _;refine R8 (SD hz rfl (x:=.ref TI) rfl ?_);refine R8 (SR hTI rfl ?_);show RY _ _ (Builtin.SmallTypes.ownedTupleIsFree (.ref z) >>= _) _ _ _;refine R8 ?_;unfold Builtin.SmallTypes.ownedTupleIsFree;refine R8 (SD hz rfl (x:=.none) rfl (R7 ?_));simp only[if_true];refine R8 (SL ?_);refine R8 (SD hz rfl (x:=.ref TO) rfl ?_);refine R8 (SW hz (by simp) λg1 hz1 k1=>?_);have hz1:SU g1 z TI TO .ellipsis:=hz1;refine R8 ?_;simp only[List.zipIdx_cons,List.zipIdx_nil,Pa,List.forIn_nil];refine R8 (R8 (SY ?_));show RY _ _ (Builtin.SmallTypes.nextOf (.ref i1) >>= _) _ _ _;have q1:S1 i g1:=D1.frame _ _ _ st1 λb hb o e=>k1.extBut _ _ (λz'=>Ap.b1 (z' ▸ hb)) e;refine R8 (D1.item i {s with heap:=g1} _ _ l1 q1 λx g2 tk2 p1 q2 k2=>R7 ?_);have t2:SV g2 TO a b:=k2.extBut _ _ n1T.symm (k1.extBut _ _ Ap.a2 hTO);refine R8 (SR t2 rfl ?_);refine R8 (SZ t2 λg3 t3 k3=>?_);have t3:SV g3 TO x b:=t3;refine R8 (S0 (R7 ?_));refine R8 (R8 (SY ?_));show RY _ _ (Builtin.SmallTypes.nextOf (.ref i2) >>= _) _ _ _;have q3:S2 i g3:=D2.frame _ _ _ st2 λb hb o e=>k3.extBut _ _ (λz'=>Ap.c2 (z' ▸ hb)) (k2.extBut _ _ (λz'=>Ap.c3 (z' ▸ hb)) (k1.extBut _ _ (λz'=>Ap.c1 (z' ▸ hb)) e));refine R8 (D2.item i {s with heap:=g3,toks:=tk2} _ _ l2 q3 λy g4 tk4 p2 q4 k4=>R7 ?_);have t4:SV g4 TO x b:=k4.extBut _ _ n2T.symm t3;refine R8 (SR t4 rfl ?_);refine R8 (SZ t4 λg5 t5 k5=>?_);have t5:SV g5 TO x y:=t5;refine R8 (S0 (R7 (R7 ?_)));refine R8 (SR t5 rfl ?_);refine R8 (wpAny_newTuple ?_);have hsz:g5.objs.size=s.heap.objs.size:=by rw[k5.1,k4.1,k3.1,k2.1,k1.1]
 have hz5:SU g5 z TI TO .ellipsis:=k5.extBut _ _ Ap.a2.symm (k4.extBut _ _ n2z.symm (k3.extBut _ _ Ap.a2.symm (k2.extBut _ _ n1z.symm hz1)));have k15:∀c o,c≠z->c≠TO->c≠i1->c≠i2->s.heap.get? c=some o->g5.get? c=some o:=λc o c1 c2 c3 c4 e=>k5.extBut _ _ c2 (k4.extBut _ _ c4 (k3.extBut _ _ c2 (k2.extBut _ _ c3 (k1.extBut _ _ c1 e))));have r1:S1 (i+1) g5:=D1.frame _ _ _ q2 λb hb o e=>k5.extBut _ _ (λz'=>Ap.b2 (z' ▸ hb)) (k4.extBut _ _ (λz'=>Ap.b3 (z' ▸ hb)) (k3.extBut _ _ (λz'=>Ap.b2 (z' ▸ hb)) e));have r2:S2 (i+1) g5:=D2.frame _ _ _ q4 λb hb o e=>k5.extBut _ _ (λz'=>Ap.c2 (z' ▸ hb)) e;have lz:z<g5.objs.size:=Rm hz5;show RY _ _ (Builtin.SmallTypes.ownedTupleHandOut (.ref z) (.ref g5.objs.size) >>= _) _ _ _;refine R8 ?_;unfold Builtin.SmallTypes.ownedTupleHandOut;have hz6:SU (g5.push {cls:=.type "tuple",data:=.seq #[x,y]}) z TI TO .ellipsis:=Ro _ hz5;refine R8 (SW hz6 (by simp) λg7 hz7 k7=>?_);have hz7:SU g7 z TI TO (rawInt g5.objs.size):=hz7;refine SW hz7 (by simp) λg8 hz8 k8=>?_;have hz8:SU g8 z TI TO (rawInt g5.objs.size):=hz8;have up:∀c o,c≠z->g5.get? c=some o->g8.get? c=some o:=λc o c1 e=>k8.extBut _ _ c1 (k7.extBut _ _ c1 (Ro _ e));have t8:SV g8 g5.objs.size x y:=k8.extBut _ _ (Oy lz) (k7.extBut _ _ (Oy lz) (Rp _ rfl));have s8:g8.objs.size=g5.objs.size+1:=by rw[k8.1,k7.1,Rq]
 rw[hsz]at hz8 t8 s8;refine R7 ⟨_,rfl,?_⟩;show Q (.ref g5.objs.size) _;rw[hsz];exact hQ x y g8 tk4 p1 p2 hz8 (up _ _ Ap.a2 t5) (D1.frame _ _ _ r1 λb hb o e=>up b o (λz'=>Ap.b1 (z' ▸ hb)) e) (D2.frame _ _ _ r2 λb hb o e=>up b o (λz'=>Ap.c1 (z' ▸ hb)) e) t8 s8 λc o c1 c2 c3 c4 e=>up c o c1 (k15 c o c1 c2 c3 c4 e)
theorem next_end{Q:Fin->RL->Prop}(Ap:Apart z TI TO i1 i2 fp1 fp2)(D1:Draws prog w A i1 fp1 n1 P1 S1)(D2:Draws prog w A i2 fp2 n2 P2 S2)(hz:SU s.heap z TI TO .none)(hTI:SV s.heap TI (.ref i1) (.ref i2))(hTO:SV s.heap TO a b)(st1:S1 i s.heap)(st2:S2 i s.heap)(hend:i=n1\/(i<n1/\i=n2))
  (hE:∀g e tk,(∀c o,c≠z->c≠TO->c≠i1->c≠i2->s.heap.get? c=some o->g.get? c=some o)->(∃o,g.get? e=some o/\o.cls=.type "StopIteration")->E (.ref e) {s with heap:=g,toks:=tk}):
  RY (model prog w) A (Builtin.«zip.__next__» ⟨[.ref z],[]⟩) Q E s:=by
 have n1z:i1≠z:=λe=>Ap.b1 (e ▸ Ap.e1);have n2z:i2≠z:=λe=>Ap.c1 (e ▸ Ap.e2);have n1T:i1≠TO:=λe=>Ap.b2 (e ▸ Ap.e1);show RY _ _ (field (.ref z) 2 >>= _) _ _ _;refine R8 (SD hz rfl (x:=.bool false) rfl ?_);show RY _ _ (field (.ref z) 3 >>= _) _ _ _;refine R8 (SD hz rfl (x:=.ref TI) rfl ?_);refine R8 (SR hTI rfl ?_);show RY _ _ (Builtin.SmallTypes.ownedTupleIsFree (.ref z) >>= _) _ _ _;refine R8 ?_;unfold Builtin.SmallTypes.ownedTupleIsFree;refine R8 (SD hz rfl (x:=.none) rfl (R7 ?_));simp only[if_true];refine R8 (SL ?_);refine R8 (SD hz rfl (x:=.ref TO) rfl ?_);refine R8 (SW hz (by simp) λg1 hz1 k1=>?_);have hz1:SU g1 z TI TO .ellipsis:=hz1;refine R8 ?_;simp only[List.zipIdx_cons,List.zipIdx_nil,Pa,List.forIn_nil];refine R8 (R8 (SY ?_));show RY _ _ (Builtin.SmallTypes.nextOf (.ref i1) >>= _) _ _ _;have q1:S1 i g1:=D1.frame _ _ _ st1 λb hb o e=>k1.extBut _ _ (λz'=>Ap.b1 (z' ▸ hb)) e;rcases hend with hend|⟨l1,hend⟩
 ·subst hend;refine R8 (D1.done {s with heap:=g1} _ _ q1 λg2 e k2 he=>?_);obtain⟨oe,hoe,hce⟩:=he;have hz2:SU g2 z TI TO .ellipsis:=k2 _ _ n1z.symm hz1;have hez:e≠z:=λx=>by rw[x,hz2]at hoe;cases hoe;simp at hce
  exact SW hz2 (by simp) λg3 _ k3=>hE g3 e s.toks (λc o c1 _ c3 _ x=>k3.extBut _ _ c1 (k2 _ _ c3 (k1.extBut _ _ c1 x))) ⟨oe,k3.extBut _ _ hez hoe,hce⟩
 ·refine R8 (D1.item i {s with heap:=g1} _ _ l1 q1 λx g2 tk2 p1 q2 k2=>R7 ?_);have t2:SV g2 TO a b:=k2.extBut _ _ n1T.symm (k1.extBut _ _ Ap.a2 hTO);refine R8 (SR t2 rfl ?_);refine R8 (SZ t2 λg3 t3 k3=>?_);refine R8 (S0 (R7 ?_));refine R8 (R8 (SY ?_));show RY _ _ (Builtin.SmallTypes.nextOf (.ref i2) >>= _) _ _ _;have q3:S2 i g3:=D2.frame _ _ _ st2 λb hb o e=>k3.extBut _ _ (λz'=>Ap.c2 (z' ▸ hb)) (k2.extBut _ _ (λz'=>Ap.c3 (z' ▸ hb)) (k1.extBut _ _ (λz'=>Ap.c1 (z' ▸ hb)) e));subst hend;refine R8 (D2.done {s with heap:=g3,toks:=tk2} _ _ q3 λg4 e k4 he=>?_);obtain⟨oe,hoe,hce⟩:=he;have hz4:SU g4 z TI TO .ellipsis:=k4 _ _ n2z.symm (k3.extBut _ _ Ap.a2.symm (k2.extBut _ _ n1z.symm hz1));have hez:e≠z:=λx=>by rw[x,hz4]at hoe;cases hoe;simp at hce
  exact SW hz4 (by simp) λg5 _ k5=>hE g5 e tk2 (λc o c1 c2 c3 c4 x=>k5.extBut _ _ c1 (k4 _ _ c4 (k3.extBut _ _ c2 (k2.extBut _ _ c3 (k1.extBut _ _ c1 x))))) ⟨oe,k5.extBut _ _ hez hoe,hce⟩
end
noncomputable def SQ(b:Bool)(h:RP)(l:RH)(xs:Array RF):Prop:=if b then h.IsList l xs else h.IsTuple l xs
noncomputable def SI(b:Bool)(h:RP)(i l:RH)(k:Nat):Prop:=if b then h.IsListIter i l k else h.IsTupleIter i l k
noncomputable def Jg(b:Bool):String:=if b then"list_iterator"else"tuple_iterator"
theorem SQ.keep{b:Bool}{h h':RP}{l:RH}{xs:Array RF}(x:SQ b h l xs)(k:∀o,h.get? l=some o->h'.get? l=some o):SQ b h' l xs:=by
 cases b with
 |true=>exact Heap.IsList.at x k
 |false=>obtain⟨o,e,r⟩:=(show h.IsTuple l xs from x);exact(show h'.IsTuple l xs from⟨o,k o e,r⟩)
theorem SI.keep{b:Bool}{h h':RP}{i l:RH}{n:Nat}(x:SI b h i l n)(k:∀o,h.get? i=some o->h'.get? i=some o):SI b h' i l n:=by
 cases b with
 |true=>exact Heap.IsListIter.at x k
 |false=>exact Heap.IsTupleIter.at x k
theorem SQ.lt{b:Bool}{h:RP}{l:RH}{xs:Array RF}(x:SQ b h l xs):l<h.objs.size:=by
 cases b with
 |true=>obtain⟨o,e,_⟩:=(show h.IsList l xs from x);exact Rm e
 |false=>obtain⟨o,e,_⟩:=(show h.IsTuple l xs from x);exact Rm e
theorem SI.get{b:Bool}{h:RP}{i l:RH}{n:Nat}(x:SI b h i l n):∃o,h.get? i=some o/\∀v,o.data≠.cell v:=by
 cases b with
 |true=>obtain⟨o,e,_,d⟩:=(show h.IsListIter i l n from x);exact⟨o,e,λv z=>by rw[d]at z;cases z⟩
 |false=>obtain⟨o,e,_,d⟩:=(show h.IsTupleIter i l n from x);exact⟨o,e,λv z=>by rw[d]at z;cases z⟩
theorem SI.new{b:Bool}{h:RP}{l:RH}:SI b (h.push {cls:=.type (Jg b),data:=.fields #[.ref l,.int 0 0]}) h.objs.size l 0:=by
 cases b with
 |true=>exact⟨_,Rp _ rfl,rfl,rfl⟩
 |false=>exact⟨_,Rp _ rfl,rfl,rfl⟩
theorem ow{b:Bool}{prog:RN}{w:RM}{A:RV}{E:RF->RL->Prop}{s:RL}{l:RH}{xs:Array RF}{Q:RF->RL->Prop}(h:SQ b s.heap l xs)
  (hQ:Q (.ref s.heap.objs.size) {s with heap:=s.heap.push {cls:=.type (Jg b),data:=.fields #[.ref l,.int 0 0]}}):RY (model prog w) A (pyIter (.ref l)) Q E s:=by
 cases b with
 |true=>exact R9 h hQ
 |false=>exact wpAny_pyIter_tuple h hQ
theorem jX{prog:RN}{w:RM}{A:RV}(b:Bool)(hh:A.handled=none)(it l:RH)(hne:l≠it)(its:Array RF):Draws prog w A it [it,l] its.size (λi v=>its[i]?=some v) (λi h=>SI b h it l i/\SQ b h l its):=by
 cases b with
 |true=>exact Draws.list hh it l hne its
 |false=>exact Gi hh it l hne its
noncomputable abbrev yu(b1:Bool)(h:RP)(l1:RH):RP:=h.push {cls:=.type (Jg b1),data:=.fields #[.ref l1,.int 0 0]}
noncomputable abbrev IU(b1 b2:Bool)(h:RP)(l1 l2:RH):RP:=(yu b1 h l1).push {cls:=.type (Jg b2),data:=.fields #[.ref l2,.int 0 0]}
noncomputable abbrev Jj(b1 b2:Bool)(h:RP)(l1 l2:RH):RP:=(IU b1 b2 h l1 l2).push {cls:=.type "tuple",data:=.seq #[.ref h.objs.size,.ref (yu b1 h l1).objs.size]}
noncomputable abbrev Jx(b1 b2:Bool)(h:RP)(l1 l2:RH):RP:=(Jj b1 b2 h l1 l2).push {cls:=.type "tuple",data:=.seq #[.none,.none]}
noncomputable abbrev El(b1 b2:Bool)(h:RP)(l1 l2:RH):RP:=(Jx b1 b2 h l1 l2).push {cls:=.type "zip",data:=.fields #[.none,.bool false,.bool false,.ref (IU b1 b2 h l1 l2).objs.size,.ref (Jj b1 b2 h l1 l2).objs.size]}
theorem y3(b1 b2:Bool)(l1 l2:RH)(xs ys:Array RF):Meets (Builtin.«zip.__new__» ⟨[.type "zip",.ref l1,.ref l2],[]⟩) (λ_ R s=>SQ b1 s.heap l1 xs/\SQ b2 s.heap l2 ys/\R (.ok (.ret (.ref (Jx b1 b2 s.heap l1 l2).objs.size))) {s with heap:=El b1 b2 s.heap l1 l2}):=
 .of_wp λprog w A R s h=>by
  obtain⟨hp,g,d,tk,os⟩:=s;obtain⟨q1,q2,h⟩:=h;have hsub:=sub_zip;have e1:SQ b1 (Shared.heap ⟨hp,g,d,tk,os⟩) l1 xs:=q1;have e2:SQ b2 (Shared.heap ⟨yu b1 hp l1,g,d,tk,os⟩) l2 ys:=q2.keep λo e=>Ro _ e
  wp_walk using ow e1,ow e2
  exact⟨_,rfl,h⟩
theorem yR{prog:RN}{w:RM}{A:RV}{E:RF->RL->Prop}{s:RL}{b1 b2:Bool}{l1 l2:RH}{xs ys:Array RF}{Q:RF->RL->Prop}(h1:SQ b1 s.heap l1 xs)(h2:SQ b2 s.heap l2 ys)
  (h:∀ g,SU g (s.heap.objs.size+4) (s.heap.objs.size+2) (s.heap.objs.size+3) .none->SV g (s.heap.objs.size+2) (.ref s.heap.objs.size) (.ref (s.heap.objs.size+1))->SV g (s.heap.objs.size+3) .none .none->SI b1 g s.heap.objs.size l1 0->SI b2 g (s.heap.objs.size+1) l2 0 ->
   (∀c o,s.heap.get? c=some o->g.get? c=some o)->Q (.ref (s.heap.objs.size+4)) {s with heap:=g}):RY (model prog w) A (call (.type "zip") [.ref l1,.ref l2]) Q E s:=by
 refine callType_new F.called_zip (by decide) (F.typeCall_zip_2 _ _) (F.newCall_zip_2 _ _) (λobj=>F.args_object_init_3 obj _ _) F.entry_zip_new (y3 b1 b2 l1 l2 xs ys) ⟨h1,h2,?_⟩;have z1:(yu b1 s.heap l1).objs.size=s.heap.objs.size+1:=Rq ..
 have z2:(IU b1 b2 s.heap l1 l2).objs.size=s.heap.objs.size+2:=by rw[Rq,z1]
 have z3:(Jj b1 b2 s.heap l1 l2).objs.size=s.heap.objs.size+3:=by rw[Rq,z2]
 have z4:(Jx b1 b2 s.heap l1 l2).objs.size=s.heap.objs.size+4:=by rw[Rq,z3]
 have u1:∀c o,(yu b1 s.heap l1).get? c=some o->(El b1 b2 s.heap l1 l2).get? c=some o:=λc o e=>Ro _ (Ro _ (Ro _ (Ro _ e)));have u2:∀c o,(IU b1 b2 s.heap l1 l2).get? c=some o->(El b1 b2 s.heap l1 l2).get? c=some o:=λc o e=>Ro _ (Ro _ (Ro _ e));have g5:(El b1 b2 s.heap l1 l2).get? (Jx b1 b2 s.heap l1 l2).objs.size=some _:=Rp _ rfl;have g4:(El b1 b2 s.heap l1 l2).get? (Jj b1 b2 s.heap l1 l2).objs.size=some _:=Ro _ (Rp _ rfl);have g3:(El b1 b2 s.heap l1 l2).get? (IU b1 b2 s.heap l1 l2).objs.size=some _:=Ro _ (Ro _ (Rp _ rfl));have g2:SI b2 (El b1 b2 s.heap l1 l2) (yu b1 s.heap l1).objs.size l2 0:=SI.keep (SI.new (h:=yu b1 s.heap l1)) λo e=>u2 _ o e;have g1:SI b1 (El b1 b2 s.heap l1 l2) s.heap.objs.size l1 0:=SI.keep SI.new λo e=>u1 _ o e;show _/\_;rw[z2,z3,z4]at g5;rw[z1,z2]at g3;rw[z3]at g4;rw[z1]at g2;rw[z4];exact⟨⟨_,g5,rfl⟩,h _ g5 g3 g4 g1 g2 λc o e=>u1 c o (Ro _ e)⟩
theorem wq(b : Bool)(l : RH)(xs : Array RF): Meets (Builtin.«enumerate.__new__» ⟨[.type "enumerate", .ref l], []⟩) (fun _ R s => SQ b s.heap l xs /\
      R (.ok (.ret (.ref (yu b s.heap l).objs.size))) {s with heap:=(yu b s.heap l).push {cls:=.type "enumerate",data:=.fields #[.none,.bool false,.ref s.heap.objs.size,rawInt 0,.none,.none]}}):=
  .of_wp λprog w A R s h=>by
    obtain⟨hp,g,d,tk,os⟩:=s;obtain⟨q1,h⟩:=h;have hsub:=sub_enumerate;have e1:SQ b (Shared.heap ⟨hp,g,d,tk,os⟩) l xs:=q1
    wp_walk using ow e1
    refine wpAny_stack_any λst=>R7 ?_;split
    · rename_i c _ _ _ _ _
      cases(c==Value.type "enumerate")<;>(wp_walk using ow e1;exact⟨_,rfl,h⟩)
    · wp_walk using ow e1
      exact⟨_,rfl,h⟩
end ZI
namespace TG
open PySem PySem.Spec L2 ZI
variable[au]
section
variable{X:Cx}{pins:bc}{σ:St}{H:Hp}{s:RL}{h':RP}
theorem Inv.turnedL{ch:az}{p:RH}{o:HO}{t':Nat}(I:Inv X pins σ H s)(hf:∀b∈ch,pQ X pins H b)(k:∀b u,b∉ch->s.heap.get? b=some u->h'.get? b=some u)(hp:s.heap.objs.size<=p)(new:dr X.prog X.w (upd H p o) h' p o):
  Inv X pins σ (upd H p o) {s with heap:=h',toks:=t'}:=by
 have hn:=I.hok.fresh hp;have nch:∀b u,H b=some u->b∉ch:=λb u e z=>by rw[(hf b z).1]at e;cases e
 refine I.step (g':=s.gens) (d':=s.drawn) (ch:=ch) (λb hb=>?_) (λb o _ _ hc e _=>k b o hc e) (λb o _ _ hc e _=>⟨o.slots,k b o hc e⟩) (λb u _ q n=>by rw[aK (Ol (Oi (Rm q) hp))];exact n)
  (λb o hc e=>⟨o,k b o hc e⟩) (λb xs q=>by rw[aK (aL q hn)];exact q) (λb u xs q=>by rw[aK (aL q hn)];exact q) (λb ps q=>⟨#[],by rw[aK (aL q hn),q];simp⟩) (λm hm=>?_) (λb u e=>?_) I.bare
 ·obtain⟨_,f1,_,f3,f4,f5⟩:=hf b hb;exact⟨f3,f1,f4,f5⟩
 ·obtain⟨o,es,ep,ho,r⟩:=hm;exact⟨o,es,ep,k _ o (λz=>(hf _ z).2.1 rfl) ho,r⟩
 ·by_cases hb:b=p
  ·subst hb;rw[bi]at e;cases e;exact new
  ·rw[aK hb]at e;refine(I.hok b u e).stay (λc v hc q=>k c v ?_ q) (λc q=>by rw[aK (aL q hn)];exact q) λc xs q=>by rw[aK (aL q hn)];exact q
   rcases hc with z|z
   ·rw[z];exact nch b u e
   ·exact nch c _ z
theorem Inv.turned0{ch:az}{t':Nat}(I:Inv X pins σ H s)(hf:∀b∈ch,pQ X pins H b)(k:∀b u,b∉ch->s.heap.get? b=some u->h'.get? b=some u):Inv X pins σ H {s with heap:=h',toks:=t'}:=by
 have nch:∀b u,H b=some u->b∉ch:=λb u e z=>by rw[(hf b z).1]at e;cases e
 refine I.step (g':=s.gens) (d':=s.drawn) (ch:=ch) (λb hb=>?_) (λb o _ _ hc e _=>k b o hc e) (λb o _ _ hc e _=>⟨o.slots,k b o hc e⟩) (λ_ _ _ _ n=>n)
  (λb o hc e=>⟨o,k b o hc e⟩) (λ_ _ e=>e) (λ_ _ _ e=>e) (λb ps e=>⟨#[],by rw[e];simp⟩) (λm hm=>?_) (λb u e=>?_) I.bare
 ·obtain⟨_,f1,_,f3,f4,f5⟩:=hf b hb;exact⟨f3,f1,f4,f5⟩
 ·obtain⟨o,es,ep,ho,r⟩:=hm;exact⟨o,es,ep,k _ o (λz=>(hf _ z).2.1 rfl) ho,r⟩
 ·refine(I.hok b u e).stay (λc v hc q=>k c v ?_ q) (λ_ q=>q) λ_ _ q=>q;rcases hc with z|z
  ·rw[z];exact nch b u e
  ·exact nch c _ z
end
noncomputable def SX(K:QG)(b:Bool)(H:Hp)(a:RH)(xs:aE):Prop:=if b then lM K H a xs else nO K H a xs
theorem SX.same{K:QG}{b:Bool}{H H':Hp}{a:RH}{xs:aE}(e:aP H H')(h:SX K b H a xs):SX K b H' a xs:=by
 cases b with
 |true=>exact e.seq (show lM K H a xs from h)
 |false=>exact wn e (show nO K H a xs from h)
section
variable{X:Cx}{pins:bc}{σ:St}{H:Hp}{s:RL}
theorem Inv.sx(I:Inv X pins σ H s){b:Bool}{a:RH}{xs:aE}(h:SX X.K b H a xs):∃its:bb,Vals xs its/\SQ b s.heap a its.toArray/\xs.length<=RQ:=by
 cases b with
 |true=>obtain⟨its,r,p,z⟩:=I.list (show lM X.K H a xs from h);exact⟨its,r,p.isList,z⟩
 |false=>obtain⟨its,r,p,z⟩:=I.tuple (show nO X.K H a xs from h);exact⟨its,r,p,z⟩
theorem Inv.sx_inj(I:Inv X pins σ H s){b:Bool}{a:RH}{xs ys:aE}(h:SX X.K b H a xs)(h':SX X.K b H a ys):xs=ys:=by
 cases b with
 |true=>exact I.list_inj h h'
 |false=>exact I.tuple_inj h h'
end
noncomputable def Mw(K:QG)(b1 b2:Bool)(a1 a2:RH):It:=
  ⟨fun i H=>∃ xs ys,SX K b1 H a1 xs/\SX K b2 H a2 ys/\i < xs.length/\i < ys.length,
   λi H v H'=>∃p x y,v=.ref p/\H p=none/\H'=upd H p (.tup [x,y])/\(∀xs,SX K b1 H a1 xs->xs[i]?=some x)/\∀ys,SX K b2 H a2 ys->ys[i]?=some y,
   λi H=>∃xs ys,SX K b1 H a1 xs/\SX K b2 H a2 ys/\(i=xs.length\/(i<xs.length/\i=ys.length))⟩
theorem Ao{P:RN}{w:RM}{K:QG}{es:aZ}{k:Nat}{pos:Pos}{b1 b2:Bool}{a1 a2 z TI TO i1 i2:RH}(Ap:Apart z TI TO i1 i2 [i1,a1] [i2,a2])(n1:a1≠i1)(n2:a2≠i2)(n3:z≠i1)(n4:z≠i2):Turn P w K (.Tuple es k pos) (Mw K b1 b2 a1 a2) [z,TI,TO,i1,i2] z
  (λi h=>SU h z TI TO .none/\SV h TI (.ref i1) (.ref i2)/\(∃a b,SV h TO a b)/\SI b1 h i1 a1 i/\SI b2 h i2 a2 i)where
 mem:=by simp
 obj:=λi h ⟨hz,hI,⟨a,b,hO⟩,s1,s2⟩ c hc=>by
  simp only[PR,PV,or_false]at hc;rcases hc with rfl|rfl|rfl|rfl|rfl
  ·exact⟨_,hz,λv q=>by cases q⟩
  ·exact⟨_,hI,λv q=>by cases q⟩
  ·exact⟨_,hO,λv q=>by cases q⟩
  ·exact s1.get
  ·exact s2.get
 keep:=λi h h' ⟨hz,hI,⟨a,b,hO⟩,s1,s2⟩ kp=>⟨kp z (by simp) _ hz,kp TI (by simp) _ hI,⟨a,b,kp TO (by simp) _ hO⟩,s1.keep λo e=>kp i1 (by simp) o e,s2.keep λo e=>kp i2 (by simp) o e⟩
 item:=by
  rintro X hP hw hK hc i pins s σ H E I hf ⟨hz,hI,⟨a,b,hO⟩,s1,s2⟩ hg;subst hP hw hK;obtain⟨xs,ys,g1,g2,l1,l2⟩:=hg;obtain⟨its1,r1,q1,z1⟩:=Inv.sx I g1;obtain⟨its2,r2,q2,z2⟩:=Inv.sx I g2;have hh:X.A.in1.handled=none:=I.ok.hd hc;have hT:s.TypeIs (.ref z) "zip":=⟨_,hz,rfl⟩
  unfold pyNext;refine R8 (S4 (SG (name:=Str.ofString "__next__") hT F.slot_zip_next (SH F.slot_zip_next hT F.entry_zip_next
   (next_item Ap (jX (A:=X.A.in1) b1 hh i1 a1 n1 its1.toArray) (jX (A:=X.A.in1) b2 hh i2 a2 n2 its2.toArray) hz hI hO ⟨s1,q1⟩ ⟨s2,q2⟩ (by rw[OB,<-r1.length];exact l1) (by rw[OB,<-r2.length];exact l2) λu v g tk p1 p2 hz' hO' t1 t2 hp sz kp=>?_) (F.args_zip_next_1 _))))
  have e1:its1[i]?=some u:=by simpa using p1
  have e2:its2[i]?=some v:=by simpa using p2
  have hx:∃x,xs[i]?=some x/\RelV x u:=by
   obtain⟨u',hu,ru⟩:=r1.get (i:=i) (x:=xs[i]) (by simp[l1]);rw[e1]at hu;cases hu;exact⟨xs[i],by simp[l1],ru⟩
  have hy:∃y,ys[i]?=some y/\RelV y v:=by
   obtain⟨u',hu,ru⟩:=r2.get (i:=i) (x:=ys[i]) (by simp[l2]);rw[e2]at hu;cases hu;exact⟨ys[i],by simp[l2],ru⟩
  obtain⟨x,ex,rx⟩:=hx;obtain⟨y,ey,ry⟩:=hy;refine R7 ⟨_,rfl,?_⟩;refine wpAny_letOwnedTupleGo_zip hz' λg' hz2 sb=>?_;have hpz:s.heap.objs.size≠z:=Oy (Rm hz);have hp':SV g' s.heap.objs.size u v:=sb.extBut _ _ hpz hp;have I':Inv X pins σ (upd H s.heap.objs.size (.tup [x,y])) {s with heap:=g',toks:=tk}:=Inv.turnedL (ch:=[z,TI,TO,i1,i2]) I hf (λc o hc e=>by
   simp only[PR,PV,or_false,not_or]at hc;exact sb.extBut _ _ hc.1 (kp c o hc.1 hc.2.2.1 hc.2.2.2.1 hc.2.2.2.2 e)) (Oz _) ⟨by show 2<=RQ;decide,[u,v],.cons rx (.cons ry .nil),_,hp',rfl,_,rfl⟩
  have fr:H s.heap.objs.size=none:=I.fresh;have ne:∀c∈[z,TI,TO,i1,i2],c≠s.heap.objs.size:=λc hc e=>by
   simp only[PR,PV,or_false]at hc;rcases hc with rfl|rfl|rfl|rfl|rfl
   ·exact hpz e.symm
   ·exact absurd (Rm hI) (by rw[e];exact Oj _)
   ·exact absurd (Rm hO) (by rw[e];exact Oj _)
   ·obtain⟨o,q,_⟩:=s1.get;exact absurd (Rm q) (by rw[e];exact Oj _)
   ·obtain⟨o,q,_⟩:=s2.get;exact absurd (Rm q) (by rw[e];exact Oj _)
  refine⟨.ref s.heap.objs.size,_,I',rfl,⟨_,x,y,rfl,fr,rfl,λxs' h=>by rw[Inv.sx_inj I h g1];exact ex,λys' h=>by rw[Inv.sx_inj I h g2];exact ey⟩,⟨hz2,?_,⟨u,v,sb.extBut _ _ Ap.a2 hO'⟩,?_,?_⟩,λc hc=>by rw[aK (ne c hc)];exact(hf c hc).1⟩
  ·exact sb.extBut _ _ Ap.a1 (kp TI _ Ap.a1 Ap.a3 Ap.d1 Ap.d2 hI)
  ·exact t1.1.keep λo e=>sb.extBut _ _ n3.symm e
  ·exact t2.1.keep λo e=>sb.extBut _ _ n4.symm e
 done:=by
  rintro X hP hw hK hc i pins s σ H E I hf ⟨hz,hI,⟨a,b,hO⟩,s1,s2⟩ hg;subst hP hw hK;obtain⟨xs,ys,g1,g2,hl⟩:=hg;obtain⟨its1,r1,q1,z1⟩:=Inv.sx I g1;obtain⟨its2,r2,q2,z2⟩:=Inv.sx I g2;have hh:X.A.in1.handled=none:=I.ok.hd hc;have hT:s.TypeIs (.ref z) "zip":=⟨_,hz,rfl⟩
  unfold pyNext;refine R8 (S4 (SG (name:=Str.ofString "__next__") hT F.slot_zip_next (SH F.slot_zip_next hT F.entry_zip_next
   (next_end (i:=i) Ap (jX (A:=X.A.in1) b1 hh i1 a1 n1 its1.toArray) (jX (A:=X.A.in1) b2 hh i2 a2 n2 its2.toArray) hz hI hO ⟨s1,q1⟩ ⟨s2,q2⟩ (by rw[OB,OB,<-r1.length,<-r2.length];exact hl) λg e tk kp he=>?_) (F.args_zip_next_1 _))))
  obtain⟨o,ho,hce⟩:=he;refine R8 (wpAny_isInstance (T:="StopIteration") (b:=true) ⟨o,ho,hce⟩ isSubtype_stop ?_);refine R7 ⟨rfl,Inv.turned0 (ch:=[z,TI,TO,i1,i2]) I hf λc o hc e=>?_⟩;simp only[PR,PV,or_false,not_or]at hc;exact kp c o hc.1 hc.2.2.1 hc.2.2.2.1 hc.2.2.2.2 e
 self:=λ_ _ _ _ _ ⟨hz,_⟩ h=>wpAny_pyIter_zip hz h
noncomputable def CN:D->Option (Bool×List D)
 |.lst xs=>some (true,xs)
 |.tup xs=>some (false,xs)
 |_=>none
theorem pC{K:QG}{H:Hp}{d:D}{b:Bool}{xs:List D}{v:V}(e:CN d=some (b,xs))(h:cz K H d v):∃a vs,v=.ref a/\SX K b H a vs/\aI K H xs vs:=by
 cases d with
 |lst ys=>cases e;exact cq.mp h
 |tup ys=>cases e;obtain⟨a,vs,e1,e2,e3⟩:=cj.mp h;exact⟨a,vs,e1,nO.of e2,e3⟩
 |_=>cases e
noncomputable def nX:List D->List D->List D
 |x::xs,y::ys=>.tup [x,y]::nX xs ys
 |_,_=>[]
theorem nI:∀xs ys:List D,(nX xs ys).length=min xs.length ys.length
 |[],_=>by simp[nX]
 |_::_,[]=>by simp[nX]
 |x::xs,y::ys=>by
  rw[nX,OG,nI xs ys,OG,OG];omega
theorem sU:∀{xs ys:List D}{i:Nat}{d:D},(nX xs ys)[i]?=some d->∃x y,xs[i]?=some x/\ys[i]?=some y/\d=.tup [x,y]
 |[],_,i,d,h=>by simp[nX]at h
 |_::_,[],i,d,h=>by simp[nX]at h
 |x::xs,y::ys,0,d,h=>by
  rw[nX,PX]at h;cases h;exact⟨x,y,rfl,rfl,rfl⟩
 |x::xs,y::ys,i+1,d,h=>by
  rw[nX,PY]at h;obtain⟨a,b,h1,h2,h3⟩:=sU h;exact⟨a,b,by rw[PY];exact h1,by rw[PY];exact h2,h3⟩
theorem AJ{K:QG}{Hd:Hp}{b1 b2:Bool}{a1 a2:RH}{ds es:List D}{vs ws:aE}(h1:SX K b1 Hd a1 vs)(g1:aI K Hd ds vs)(h2:SX K b2 Hd a2 ws)(g2:aI K Hd es ws):Walk K Hd (Mw K b1 b2 a1 a2) (nX ds es):=λHn O' i hO sm=>
  have s':aP Hd Hn:=sm.trans (aF Hn O')
  ⟨fun d e=>by
    obtain⟨x,y,e1,e2,rfl⟩:=sU e;have l1:i<ds.length:=(List.getElem?_eq_some_iff.mp e1).1;have l2:i<es.length:=(List.getElem?_eq_some_iff.mp e2).1;obtain⟨v,ev,dv⟩:=g1.get e1;obtain⟨w,ew,dw⟩:=g2.get e2;refine⟨⟨vs,ws,h1.same s',h2.same s',by rw[<-g1.length];exact l1,by rw[<-g2.length];exact l2⟩,λu H2 ⟨p,x',y',eu,hp,eH,q1,q2⟩=>?_⟩;have z1:=q1 vs (h1.same s');rw[ev]at z1;cases z1;have z2:=q2 ws (h2.same s');rw[ew]at z2;cases z2;subst eH eu;exact⟨du hp _,d9 hO hp (aM.mpr ⟨v,_,rfl,dv.mono sm,aM.mpr ⟨w,_,rfl,dw.mono sm,cw.mpr rfl⟩⟩)⟩,
   λhl=>by
    rw[nI]at hl;refine⟨vs,ws,h1.same s',h2.same s',?_⟩;rw[<-g1.length,<-g2.length]
    omega⟩
noncomputable def zm:List D->Option (List D)
 |[a,b]=>(CN a).bind λx=>(CN b).bind λy=>some (nX x.2 y.2)
 |_=>none
noncomputable def Cg(f:aS):aS:=λρ=>(f ρ).bind λds=>rO (zm ds)
section
variable{X:Cx}
theorem Ew{a b c:RH}(h1:a≠b)(h2:a≠c):a∉[b,c]:=λh=>by
 rcases List.mem_cons.mp h with z|z
 ·exact h1 z
 ·exact h2 (List.mem_singleton.mp z)
theorem yk{n a1 a2:RH}(h1:a1<n)(h2:a2<n):Apart (n+4) (n+2) (n+3) n (n+1) [n,a1] [n+1,a2]:=by
 have lt:∀{a b:Nat},a<b->(b:RH)≠(a:RH):=λh=>Oy h;have lt':∀{a b:Nat},a<b->(a:RH)≠(b:RH):=λh=>Ol h;have g:∀k:Nat,a1<n+k:=λk=>Oi h1 (PZ _ _);have g':∀k:Nat,a2<n+k:=λk=>Oi h2 (PZ _ _);have p:∀{j k:Nat},j<k->n+j<n+k:=λh=>P0 h n;have p0:∀{k:Nat},0<k->n<n+k:=λh=>P4 h;exact⟨lt' (p (by decide)),lt' (p (by decide)),lt' (p (by decide)),Ew (lt (p0 (by decide))) (lt (g 4)),Ew (lt (p0 (by decide))) (lt (g 3)),Ew (lt (p0 (by decide))) (lt (g 1)),
  Ew (lt (p (by decide))) (lt (g' 4)),Ew (lt (p (by decide))) (lt (g' 3)),Ew (lt' (p0 (by decide))) (lt h2),lt (p0 (by decide)),lt (p (by decide)),Ot,Ot⟩
theorem Gf{pins:bc}{s:RL}{σ:St}{H:Hp}{O:az}{es:aZ}{k:Nat}{tpos:Pos}{ds r:List D}{vs:aE}{us:bb}{RR:It->Hp->Prop}(I:Inv X pins σ H s)(hc:zm ds=some r)(d1:aI X.K (hid H O) ds vs)(rv:Vals vs us)(q:∀J,Walk X.K (hid H O) J r->RR J H):
  RY (model X.prog X.w) X.A (call (.type "zip") us) (λv s1=>RY (model X.prog X.w) X.A (pyIter v) (PIE X pins σ (.Tuple es k tpos) RR) X.xe s1) X.xe s:=by
 unfold zm at hc;split at hc
 ·rename_i a b;obtain⟨⟨b1,xs⟩,e1,hc⟩:=bind_some hc;obtain⟨⟨b2,ys⟩,e2,hc⟩:=bind_some hc;cases hc;obtain⟨va,vb,rfl,da,db⟩:=d1.two;obtain⟨u1,u2,rfl,r1,r2⟩:=vals2 rv;obtain⟨a1,ws1,rfl,x1,y1⟩:=pC e1 da;obtain⟨a2,ws2,rfl,x2,y2⟩:=pC e2 db;cases r1;cases r2;obtain⟨its1,rr1,q1,_⟩:=Inv.sx I (x1.same (aF H O));obtain⟨its2,rr2,q2,_⟩:=Inv.sx I (x2.same (aF H O));refine yR q1 q2 λg hz hI hO s1 s2 kp=>wpAny_pyIter_zip hz ?_;have Ap:=yk q1.lt q2.lt;refine⟨_,_,_,_,H,rfl,I.kept (t':=s.toks) kp,Ao (b1:=b1) (b2:=b2) Ap (Ol q1.lt) (Ol (Oi q2.lt (PZ _ 1))) (Oy (P4 (by decide))) (Oy (P0 (by decide) _)),⟨hz,hI,⟨_,_,hO⟩,s1,s2⟩,λb hb=>?_,q _ (AJ x1 y1 x2 y2)⟩;have le:s.heap.objs.size<=b:=by
   simp only[PR,PV,or_false]at hb;rcases hb with rfl|rfl|rfl|rfl|rfl
   ·exact PZ _ _
   ·exact PZ _ _
   ·exact PZ _ _
   ·exact Oz _
   ·exact PZ _ _
  exact I.fpOk le (I.hok.fresh le)
 ·cases hc
end
noncomputable def Mt(K:QG)(b:Bool)(a:RH):It:=
  ⟨fun i H=>∃ xs,SX K b H a xs/\i < xs.length,
   λi H v H'=>∃p x,v=.ref p/\H p=none/\H'=upd H p (.tup [.int i,x])/\∀xs,SX K b H a xs->xs[i]?=some x,
   λi H=>∃xs,SX K b H a xs/\i=xs.length⟩
theorem xM{P:RN}{w:RM}{K:QG}{es:aZ}{k:Nat}{pos:Pos}{b:Bool}{a e it:RH}(n1:a≠it)(n2:e≠it)(n3:e≠a):Turn P w K (.Tuple es k pos) (Mt K b a) [e,it] e (λi h=>(∃old,IsEnum h e it i old)/\SI b h it a i)where
 mem:=by simp
 obj:=λi h ⟨⟨old,he⟩,s1⟩ c hc=>by
  simp only[PR,PV,or_false]at hc;rcases hc with rfl|rfl
  ·exact⟨_,he,λv q=>by cases q⟩
  ·exact s1.get
 keep:=λi h h' ⟨⟨old,he⟩,s1⟩ kp=>⟨⟨old,kp e (by simp) _ he⟩,s1.keep λo q=>kp it (by simp) o q⟩
 item:=by
  rintro X hP hw hK hc i pins s σ H E I hf ⟨⟨old,he⟩,s1⟩ hg;subst hP hw hK;obtain⟨xs,g1,l1⟩:=hg;obtain⟨its,r1,q1,z1⟩:=Inv.sx I g1;have hh:X.A.in1.handled=none:=I.ok.hd hc;refine wpAny_pyNext_enum_itemD (jX (A:=X.A.in1) b hh it a n1 its.toArray) he ⟨s1,q1⟩ (by rw[OB,<-r1.length];exact l1) n2 (Ew n2 n3) λu g tk p1 ho t1 hp sz kp=>?_;have e1:its[i]?=some u:=by simpa using p1
  obtain⟨u',hu,ru⟩:=r1.get (i:=i) (x:=xs[i]) (by simp[l1]);rw[e1]at hu;cases hu;refine⟨_,rfl,wpAny_letOwnedTupleGo_enum ho λg' he' sb=>?_⟩;have hpe:s.heap.objs.size≠e:=Oy (Rm he);have hp':=sb.extBut _ _ hpe hp;have I':Inv X pins σ (upd H s.heap.objs.size (.tup [.int i,xs[i]])) {s with heap:=g',toks:=tk+1}:=Inv.turnedL (ch:=[e,it]) I hf (λc o hc q=>by
   simp only[PR,PV,or_false,not_or]at hc;exact sb.extBut _ _ hc.1 (kp c o hc.1 hc.2 q)) (Oz _) ⟨by show 2<=RQ;decide,[.int i tk,u],.cons ⟨_,rfl⟩ (.cons ru .nil),_,hp',rfl,_,rfl⟩
  have ne:∀c∈[e,it],c≠s.heap.objs.size:=λc hc q=>by
   simp only[PR,PV,or_false]at hc;rcases hc with rfl|rfl
   ·exact hpe q.symm
   ·obtain⟨o,q',_⟩:=s1.get;exact absurd (Rm q') (by rw[q];exact Oj _)
  refine⟨.ref s.heap.objs.size,_,I',rfl,⟨_,xs[i],rfl,I.fresh,rfl,λxs' h=>by rw[Inv.sx_inj I h g1];simp[l1]⟩,⟨⟨u,?_⟩,t1.1.keep λo q=>sb.extBut _ _ n2.symm q⟩,λc hc=>by rw[aK (ne c hc)];exact(hf c hc).1⟩;have ei:((i+1:Nat):Int)=(i:Int)+1:=by omega
  rw[ei];exact he'
 done:=by
  rintro X hP hw hK hc i pins s σ H E I hf ⟨⟨old,he⟩,s1⟩ hg;subst hP hw hK;obtain⟨xs,g1,l1⟩:=hg;obtain⟨its,r1,q1,z1⟩:=Inv.sx I g1;have hh:X.A.in1.handled=none:=I.ok.hd hc;have el:i=its.toArray.size:=by rw[OB,<-r1.length];exact l1
  refine wpAny_pyNext_enum_endD (jX (A:=X.A.in1) b hh it a n1 its.toArray) he ⟨by rw[<-el];exact s1,q1⟩ λg kp=>⟨rfl,Inv.turned0 (ch:=[e,it]) I hf λc o hc q=>?_⟩
  simp only[PR,PV,or_false,not_or]at hc;exact kp c o hc.2 q
 self:=λ_ _ _ _ _ ⟨⟨old,he⟩,_⟩ h=>wpAny_pyIter_enum he h
noncomputable def fP(i:Nat):List D->List D
 |[]=>[]
 |x::xs=>.tup [.int i,x]::fP (i+1) xs
theorem fS:∀(i:Nat)(xs:List D),(fP i xs).length=xs.length
 |_,[]=>rfl
 |i,x::xs=>by rw[fP,OG,fS (i+1) xs,OG]
theorem qa:∀{xs:List D}{k i:Nat}{d:D},(fP k xs)[i]?=some d->∃x,xs[i]?=some x/\d=.tup [.int ((k+i:Nat):Int),x]
 |[],k,i,d,h=>by simp[fP]at h
 |x::xs,k,0,d,h=>by
  rw[fP,PX]at h;cases h;exact⟨x,rfl,rfl⟩
 |x::xs,k,i+1,d,h=>by
  rw[fP,PY]at h;obtain⟨y,h1,h2⟩:=qa h;refine⟨y,by rw[PY];exact h1,?_⟩;rw[h2];congr 4;omega
theorem ye{K:QG}{Hd:Hp}{b:Bool}{a:RH}{ds:List D}{vs:aE}(h1:SX K b Hd a vs)(g1:aI K Hd ds vs):Walk K Hd (Mt K b a) (fP 0 ds):=λHn O' i hO sm=>
  have s':aP Hd Hn:=sm.trans (aF Hn O')
  ⟨fun d e=>by
    obtain⟨x,e1,rfl⟩:=qa e;have l1:i<ds.length:=(List.getElem?_eq_some_iff.mp e1).1;obtain⟨v,ev,dv⟩:=g1.get e1;refine⟨⟨vs,h1.same s',by rw[<-g1.length];exact l1⟩,λu H2 ⟨p,x',eu,hp,eH,q1⟩=>?_⟩;have z1:=q1 vs (h1.same s');rw[ev]at z1;cases z1;subst eH eu;rw[P5];exact⟨du hp _,d9 hO hp (aM.mpr ⟨.int i,_,rfl,eM.mpr rfl,aM.mpr ⟨v,_,rfl,dv.mono sm,cw.mpr rfl⟩⟩)⟩,
   λhl=>by
    rw[fS]at hl;exact⟨vs,h1.same s',by rw[<-g1.length];exact hl⟩⟩
noncomputable def qX:List D->Option (List D)
 |[a]=>(CN a).bind λx=>some (fP 0 x.2)
 |_=>none
noncomputable def fh(f:aS):aS:=λρ=>(f ρ).bind λds=>rO (qX ds)
section
variable{X:Cx}
theorem xf{prog:RN}{w:RM}{A:RV}{E:bX}{s:RL}{b:Bool}{l:RH}{xs:Array RF}{Q:bX}(h1:SQ b s.heap l xs)
  (h:∀g,IsEnum g (s.heap.objs.size+1) s.heap.objs.size 0 .none->SI b g s.heap.objs.size l 0->(∀c o,s.heap.get? c=some o->g.get? c=some o)->Q (.ref (s.heap.objs.size+1)) {s with heap:=g}):RY (model prog w) A (call (.type "enumerate") [.ref l]) Q E s:=by
 refine callType_new F.called_enumerate (by decide) (F.typeCall_enumerate_1 _) (F.newCall_enumerate_1 _) (λobj=>F.args_object_init_2 obj _) F.entry_enumerate_new (wq b l xs) ⟨h1,?_⟩;have z1:(yu b s.heap l).objs.size=s.heap.objs.size+1:=Rq ..
 have g2:=Rp (yu b s.heap l) (o:={cls:=.type "enumerate",data:=.fields #[.none,.bool false,.ref s.heap.objs.size,rawInt 0,.none,.none]}) rfl;have g1:SI b ((yu b s.heap l).push {cls:=.type "enumerate",data:=.fields #[.none,.bool false,.ref s.heap.objs.size,rawInt 0,.none,.none]}) s.heap.objs.size l 0:=SI.keep SI.new λo e=>Ro _ e;show _/\_;rw[z1]at g2 ⊢;exact⟨⟨_,g2,rfl⟩,h _ g2 g1 λc o e=>Ro _ (Ro _ e)⟩
theorem Cj{pins:bc}{s:RL}{σ:St}{H:Hp}{O:az}{es:aZ}{k:Nat}{tpos:Pos}{ds r:List D}{vs:aE}{us:bb}{RR:It->Hp->Prop}(I:Inv X pins σ H s)(hc:qX ds=some r)(d1:aI X.K (hid H O) ds vs)(rv:Vals vs us)(q:∀J,Walk X.K (hid H O) J r->RR J H):
  RY (model X.prog X.w) X.A (call (.type "enumerate") us) (λv s1=>RY (model X.prog X.w) X.A (pyIter v) (PIE X pins σ (.Tuple es k tpos) RR) X.xe s1) X.xe s:=by
 unfold qX at hc;split at hc
 ·rename_i a;obtain⟨⟨b1,xs⟩,e1,hc⟩:=bind_some hc;cases hc;obtain⟨va,rfl,da⟩:=d1.one;obtain⟨u1,rfl,r1⟩:=vals1 rv;obtain⟨a1,ws1,rfl,x1,y1⟩:=pC e1 da;cases r1;obtain⟨its1,rr1,q1,_⟩:=Inv.sx I (x1.same (aF H O));refine xf q1 λg he s1 kp=>wpAny_pyIter_enum he ?_;refine⟨_,_,_,_,H,rfl,I.kept (t':=s.toks) kp,xM (b:=b1) (Ol q1.lt) (Oy (P4 (by decide))) (Oy (Oi q1.lt (PZ _ 1))),⟨⟨_,he⟩,s1⟩,λb hb=>?_,q _ (ye x1 y1)⟩;have le:s.heap.objs.size<=b:=by
   simp only[PR,PV,or_false]at hb;rcases hb with rfl|rfl
   ·exact PZ _ _
   ·exact Oz _
  exact I.fpOk le (I.hok.fresh le)
 ·cases hc
end
end TG
namespace TG
open PySem PySem.Spec L2
variable[au]
theorem ah{K:QG}{c:Str}{C C':RH}(h:clsAt K c C)(h':clsAt K c C'):C=C':=by
 unfold clsAt at h h';rw[h]at h';cases h';rfl
theorem pf{K:QG}{H:Hp}{f:Str}:∀{fs:av}{ds:List D}{vs:aE}{d:D},aI K H ds vs->(fs.zip ds).lookup f=some d->∃v,(fs.zip vs).lookup f=some v/\cz K H d v
 |[],_,_,_,_,e=>by simp at e
 |_::_,[],_,_,_,e=>by simp at e
 |g::fs,x::ds,vs,d,h,e=>by
  rw[aM]at h;obtain⟨v,r,rfl,h1,h2⟩:=h;rw[P6,O9]at e ⊢;cases hg:f==g with
  |true=>rw[hg]at e;cases e;exact⟨v,rfl,h1⟩
  |false=>rw[hg]at e;exact pf h2 e
theorem qu{f:Str}:∀{fs:av}{vs:aE},fs.contains f=false->(fs.zip vs).lookup f=none
 |[],_,_=>by simp
 |_::_,[],_=>by simp
 |g::fs,x::vs,h=>by
  rw[P7,P8]at h;rw[P6,O9,h.1];exact qu h.2
noncomputable def aq(f:Str)(cs:av)(d:D):bB:=match d with
 |.obj c fs vs=>if cs.contains c then(fs.zip vs).lookup f else none
 |_=>none
noncomputable def aQ(K:QG)(f:Str)(cs:av):Prop:=∀c∈cs,∀C,clsAt K c C->jv K C/\dB K C f
section
variable{X:Cx}{a o e:RJ}{es:aZ}{fa fo:FX}{fas:aS}{f m x:Str}{cs:av}{pos apos p:Pos}{k k':Nat}{ps:av}
noncomputable def MethAt(P:RN)(w:RM)(K:QG)(mg:cS)(base:RP)(k:Nat)(c m:Str)(ps:av)(g:bI):Prop:=
 ∃C f fd,clsAt K c C/\jv K C/\Meth K C m f/\gz P w K mg base (lQ P w) k f fd ps (ya K ps.length g)/\Binds K fd ps []
noncomputable def cv(m:Str)(tbl:List (Str×(bI)))(fo:FX)(fas:aS):FX:=λρ=>(fo ρ).bind λo=>match o with
 |.obj c fs vs=>match tbl.lookup c with
  |some g=>if fs.contains m then un else(fas ρ).bind λas=>g (o::as)
  |none=>un
 |_=>un
noncomputable def o4(P:RN)(w:RM)(K:QG)(mg:cS)(base:RP)(k:Nat)(m:Str)(ps:av)(tbl:List (Str×(bI))):Prop:=
 ∀c g,tbl.lookup c=some g->MethAt P w K mg base k c m ps g/\Ar ps.length g
theorem Cy{P:RN}{w:RM}{K:QG}{mg:cS}{base:RP}:o4 P w K mg base k m ps []:=λ_ _ h=>nomatch h
theorem z5{P:RN}{w:RM}{K:QG}{mg:cS}{base:RP}{c:Str}{g:bI}{tbl:List (Str×(bI))}(h:MethAt P w K mg base k c m ps g)(hn:Ar ps.length g)(t:o4 P w K mg base k m ps tbl):o4 P w K mg base k m ps ((c,g)::tbl):=λc' g' e=>by
 rw[O9]at e;cases hc:c'==c with
 |true=>
  rw[hc]at e;cases e
  have:c'=c:=by simpa using hc
  subst this;exact⟨h,hn⟩
 |false=>rw[hc]at e;exact t c' g' e
theorem MethAt.mono{P:RN}{w:RM}{K:QG}{mg:cS}{base:RP}{c:Str}{g:bI}(h:MethAt P w K mg base k c m ps g)(hk:k<=k'):MethAt P w K mg base k' c m ps g:=by
 obtain⟨C,f,fd,h1,h2,h3,h4,h5⟩:=h;exact⟨C,f,fd,h1,h2,h3,h4.mono hk,h5⟩
theorem tI{tbl:List (Str×(bI))}{args:aZ}{pl:Sem Bool}(tb:o4 X.prog X.w X.K X.mg X.base k m ps tbl)(hr:fM k X.A)(ho:FE X o fo)
  (hc:∀ (pins:bc) (s1:RL) (σ:St) (H1:Hp) (O:az) (ρ:ao) (a f:RH) (od:D) (Q:VK) (g:bI) (fd:Sn) (w0:V),QU X.K (.ref f)=true->gz X.prog X.w X.K X.mg X.base (lQ X.prog X.w) k f fd ps (ya X.K ps.length g)->Binds X.K fd ps []->Ar ps.length g->Inv X pins σ H1 s1->dD X.K O H1 ρ σ->cz X.K (hid H1 O) od (.ref a) ->
   (eQ X σ O H1 ((fas ρ).bind λas=>g (od::as)) λd=>∀v H',aP H1 H'->cz X.K (hid H' O) d v->Q v H')->
   RY (model X.prog X.w) X.A (Si pos (.ref f) [.ref a] (backTo pos (RZ args X.env)) (backToKw pos (Sj [] X.env))) (EP X pins σ Q) X.xe s1)
  (ht:eval (.Call (.Attribute o m apos) args [] pos) X.env=(do
   let ov<-eval o X.env
   standAt apos.atName
   let (f,first)<-holding [ov] (getMethod ov m pl)
   Si pos f first (backTo pos (RZ args X.env)) (backToKw pos (Sj [] X.env)))):
  FE X (.Call (.Attribute o m apos) args [] pos) (cv m tbl fo fas):=by
 rintro pins s σ H Q I ⟨O,ρ,E,hF⟩;refine tS ho I ?_ ht;refine⟨O,ρ,E,(eQ.bind hF).imp λd hF v H1 s1 d1=>?_⟩;cases d with
 |obj c fs vs=>
  have hF':eQ X σ O H (match tbl.lookup c with|some g=>if fs.contains m then un else(fas ρ).bind λas=>g (.obj c fs vs::as)|none=>un) _:=hF;cases hg:tbl.lookup c with
  |none=>rw[hg]at hF';exact hF'.elim
  |some g=>
   rw[hg]at hF';have hF2:eQ X σ O H (if fs.contains m then un else(fas ρ).bind λas=>g (.obj c fs vs::as)) _:=hF';cases hm:fs.contains m with
   |true=>rw[hm]at hF2;exact hF2.elim
   |false=>
    rw[hm]at hF2;have hF3:eQ X σ O H ((fas ρ).bind λas=>g (.obj c fs vs::as)) _:=hF2;have d0:=d1;obtain⟨a,ws,ev,g1,g2,C,dx,g3,g4⟩:=Js.mp d1;obtain⟨⟨C',f,fd,m1,m2,m3,m4,m5⟩,ar⟩:=tb c g hg;have eC:=ah g3 m1;subst eC;subst ev;refine⟨a,C,dx,_,f,rfl,aF H1 O _ _ g4,m2,m3,qu hm,λs2 I2=>?_⟩;exact hc pins s2 σ H1 O ρ a f _ Q g fd (.ref a) m3.kp m4 m5 ar I2 (E.same s1) d0 ((hF3.mono s1).imp λd q v H2 s2 d2=>q v H2 (s1.trans s2) d2)
 |_=>exact hF.elim
theorem pB{σ:St}{O:az}{H:Hp}{g:bI}{ds:List D}{vs:aE}{Q:VK}{n:Nat}(ar:Ar n g)(hO:dL H O)(d1:aI X.K (hid H O) ds vs)(h:eQ X σ O H (g ds) λd=>∀v H',aP H H'->cz X.K (hid H' O) d v->Q v H'):∃E,jA (lQ X.prog X.w) X σ E/\ya X.K n g vs H Q E:=by
 cases hg:g ds with
 |ok d=>
  rw[hg]at h;refine⟨E0,vj,O,ds,by rw[<-d1.length];exact ar ds (by rw[hg];intro z;cases z),hO,d1,?_⟩;rw[hg];exact h
 |error z=>
  rw[hg]at h;cases z with
  |none=>exact h.elim
  |some x=>
   refine⟨vx X O H x,vT h,O,ds,by rw[<-d1.length];exact ar ds (by rw[hg];intro z;cases z),hO,d1,?_⟩;rw[hg];exact sK
theorem wA{P:RN}{w:RM}{K:QG}{mg:cS}{base:RP}{c y qual:Str}{C f:RH}{fd:Sn}{st:RK}{N:av}{B:bE}(h1:clsAt K c C)(h2:jv K C)(h3:Meth K C m f)(F:n9 K y qual st f fd)(b:Binds K fd ps [])(SC:b9 N ps (aw st))(hb:BodyOk P w K mg base k N qual st f B):
  MethAt P w K mg base (k+1) c m ps (aj B ps.length N.length):=⟨C,f,fd,h1,h2,h3,rQ F SC hb,b⟩
noncomputable def ME(C:RH)(fs:av):Sp:=λvs H Q _=>∃x dx as,vs=.ref x::as/\as.length=fs.length/\H x=some (.ins C dx [])/\Q .non (upd H x (.ins C dx (fs.zip as)))
noncomputable def cE(P:RN)(w:RM)(K:QG)(mg:cS)(base:RP)(k:Nat)(c:Str)(ps fs:av):Prop:=
 ∃C f fd,clsAt K c C/\Mk K C f/\gz P w K mg base (lQ P w) k f fd ps (ME C fs)/\Binds K fd ps []/\mg c=some (.ref C)
noncomputable def fNew(c:Str)(fs:av)(fas:aS):FX:=λρ=>(fas ρ).bind λas=>if as.length=fs.length then .ok (.obj c fs as)else un
theorem tP{K:QG}{H1:Hp}{O:az}{c:Str}{fs:av}{as:List D}{vs:aE}{C x dx:RH}(hc:clsAt K c C)(hl:as.length=fs.length)(d1:aI K (hid H1 O) as vs)(hO:dL H1 O)(hx:H1 x=none)(hd:H1 dx=none)(ne:dx≠x):
  aP H1 (upd (upd (upd H1 dx (.own x)) x (.ins C dx [])) x (.ins C dx (fs.zip vs)))/\cz K (hid (upd (upd (upd H1 dx (.own x)) x (.ins C dx [])) x (.ins C dx (fs.zip vs))) O) (.obj c fs as) (.ref x):=by
 have sm:aP H1 (upd (upd (upd H1 dx (.own x)) x (.ins C dx [])) x (.ins C dx (fs.zip vs))):=λb o h=>by
  have n1:=aL h hx;have n2:=aL h hd;rw[aK n1,aK n1,aK n2];exact h
 exact⟨sm,Js.mpr ⟨x,vs,rfl,d1.mono (cf sm),by rw[<-d1.length,hl],C,dx,hc,by rw[mz (hO.not hx),bi]⟩⟩
theorem HW{X:Cx}:uL (lQ X.prog X.w) X E0:=λ_ _ _ _ _ _ _ h=>by
 obtain⟨_,_,_,_,_,_,_,_,_,_,_,_,_,_,z⟩:=h;exact z.elim
theorem o3(f:Str)(v:V):∀{fs:List (Str×V)},(fs.map (·.1)).contains f=false->je f v fs=fs++[(f,v)]
 |[],_=>rfl
 |(g,w)::fs,h=>by
  rw[OH,P7,P8]at h;have ne:¬g=f:=λz=>by
   have:=h.1
   rw[z]at this;simp at this
  have:=o3 f v (fs:=fs) h.2
  unfold je;simp only[ne,if_false,this,Pg]
noncomputable def vJ(X:Cx)(cs:av)(body:dM)(fs:av)(i:Nat):Prop:=
 ∃t,t9 X body t/\∀(D:Ends)(σ:St)(H:Hp)(x dx C:RH)(done:List (Str×V))(as:aE),σ[0]?=some (some (.ref x))->(∀j v,as[j]?=some v->σ[i+j]?=some (some v))->as.length=fs.length->jv X.K C->(∀f∈fs,dB X.K C f)->done.length+fs.length<1000->(done.map (·.1)++fs).Nodup->H x=some (.ins C dx done)->
  D.nx σ (upd H x (.ins C dx (done++fs.zip as)))->t D σ H
theorem dz{st:RK}{f:Str}{i:Nat}{o v:RJ}{p1 p2:Pos}(hst:st=.Assign [.Attribute o f p1] v p2)(ho:PE X o (uA 0))(hv:PE X v (uA i))(hs:swapsWith v (some (.Attribute o f p1)) p2.line X.env=pure false):vJ X cs [st] [f] i:=by
 subst hst;refine⟨_,vy (AQ ho hv hs),λD σ H x dx C done as h0 ha hl cl na hz nd hx q=>?_⟩;obtain⟨a,rfl⟩:∃a,as=[a]:=by
  match as,hl with
  |[a],_=>exact⟨a,rfl⟩
 refine⟨a,ha 0 a rfl,.ref x,h0,x,C,dx,done,rfl,hx,cl,na f (List.mem_singleton.mpr rfl),by simp at hz;omega,?_⟩;rw[o3 f a (by
  have:=nd
  rw[P9]at this;have h3:=this.2.2;cases hc:(done.map (·.1)).contains f with
  |false=>rfl
  |true=>exact absurd rfl (h3 f (List.contains_iff_mem.mp hc) f (List.mem_singleton.mpr rfl)))]
 exact q
theorem b8{st:RK}{rest:dM}{f:Str}{fs:av}{i:Nat}{o v:RJ}{p1 p2:Pos}(hst:st=.Assign [.Attribute o f p1] v p2)(ho:PE X o (uA 0))(hv:PE X v (uA i))(hs:swapsWith v (some (.Attribute o f p1)) p2.line X.env=pure false)(hr:vJ X cs rest fs (i+1)):vJ X cs (st::rest) (f::fs) i:=by
 subst hst;obtain⟨t,ht,hq⟩:=hr;refine⟨_,sM (AQ ho hv hs) ht,λD σ H x dx C done as h0 ha hl cl na hz nd hx q=>?_⟩;obtain⟨a,as,rfl⟩:∃a r,as=a::r:=by
  match as,hl with
  |a::r,_=>exact⟨a,r,rfl⟩
 have hno:(done.map (·.1)).contains f=false:=by
  have:=nd
  rw[P9]at this;have h3:=this.2.2;cases hc:(done.map (·.1)).contains f with
  |false=>rfl
  |true=>exact absurd rfl (h3 f (List.contains_iff_mem.mp hc) f Ot)
 refine⟨a,ha 0 a rfl,.ref x,h0,x,C,dx,done,rfl,hx,cl,na f Ot,by simp at hz;omega,?_⟩;rw[o3 f a hno];refine hq D σ _ x dx C (done++[(f,a)]) as h0 (λj v e=>?_) (by simpa using hl) cl (λg hg=>na g (Ou _ hg)) (by simp at hz ⊢;omega) (by simpa [PP]using nd) (by rw[bi]) ?_
 ·have:=ha (j+1) v (by simpa using e)
  rw[show i+1+j=i+(j+1)by omega];exact this
 ·rw[CQ,PP];exact q
theorem dy{P:RN}{w:RM}{K:QG}{mg:cS}{base:RP}{c qual:Str}{C f:RH}{fd:Sn}{st:RK}{fs:av}(h1:clsAt K c C)(hM:Mk K C f)(cl:jv K C)(na:∀g∈fs,dB K C g)(F:n9 K "__init__" qual st f fd)(b:Binds K fd ps [])(hmg:mg c=some (.ref C))(SC:b9 ps ps (aw st))(hps:ps.length=fs.length+1)(hnd:fs.Nodup)(hlen:fs.length<1000)
  (hb:∀(cdv:RF)(A:RV)(outer:List Env)(s:RL)(H:Hp)(E:XK),vJ (jn Jr P w K mg base ps qual (aw st) f cdv A outer s H E).nox [] (dS st) fs 1):cE P w K mg base (k+1) c ps fs:=by
 refine⟨C,f,fd,h1,hM,?_,b,hmg⟩;refine gz.any (F.ok SC (λvs H Q E h=>?_) λcdv A outer s H vs Q E hr h=>?_)
 ·obtain⟨x,dx,as,rfl,hl,_⟩:=h;rw[OG,hl,hps]
 ·obtain⟨t,ht,hq⟩:=hb cdv A outer s H E;obtain⟨x,dx,as,rfl,hl,hx,q⟩:=h;have hst:L2.start ps (.ref x::as)=(.ref x::as).map some:=by
   unfold L2.start;rw[OG,hl,hps,Qa,Qb,OM]
  refine⟨t,ht,hq _ _ H x dx C [] as (by rw[hst];rfl) (λj v e=>?_) hl cl na (by simpa using hlen) (by simpa using hnd) hx q⟩;rw[hst,Nat.add_comm,OH,PY,OV,e];rfl
end
end TG
namespace TG
open PySem PySem.Spec L2
variable[au]
section
variable{X:Cx}
noncomputable def Ef:List D->Option (av)
 |[]=>some []
 |.str x::r=>(Ef r).bind λys=>some (x::ys)
 |_=>none
noncomputable def MG:D->Option Str
 |.str z=>some z
 |_=>none
noncomputable def My(z:Str)(as:List D):bB:=match as with
 |[.lst xs]=>(Ef xs).bind λys=>if small ((ys.map (λy=>y.length)).sum+ys.length*z.length)then some (.str (Txt.join z ys))else none
 |_=>none
noncomputable def Kr(a b:D):bB:=match a,b with
 |.bl c,.bl d=>some (.bl (c==d))
 |_,_=>none
noncomputable def Do(a b:D):bB:=match a,b with
 |.bl c,.bl d=>some (.bl (!(c==d)))
 |_,_=>none
end
section
variable{X:Cx}{C:RH}{pins:bc}{σ:St}{H:Hp}{s:RL}{Q:VK}
noncomputable def anyB:List D->Option Bool
 |[]=>some false
 |.bl b::r=>(anyB r).bind λc=>some (b||c)
 |_=>none
noncomputable def tq:List D->bB
 |[.lst xs]=>(anyB xs).bind λb=>some (.bl b)
 |_=>none
theorem tY:∀{xs:List D}{b:Bool},anyB xs=some b->∃bs:List Bool,xs=bs.map .bl/\b=bs.any id
 |[],b,h=>by cases h;exact⟨[],rfl,rfl⟩
 |d::r,b,h=>by
  cases d with
  |bl x=>
   obtain⟨c,e1,e2⟩:=bind_some (show((anyB r).bind λc=>some (x||c))=some b from h);cases e2;obtain⟨bs,e3,e4⟩:=tY e1;exact⟨x::bs,by rw[OH,e3],by rw[O7,e4];rfl⟩
  |_=>cases h
theorem range_any(bs:List Bool):((List.range bs.length).any λi=>(bs[i]?).getD false)=bs.any id:=by
 induction bs with
 |nil=>rfl
 |cons b bs ih=>
  rw[OG,Pp,O7,Qc,O7,<-ih];rfl
theorem xr(hc:X.calm=true):eJ X (.builtin "any") (A8 X.K tq):=by
 rintro pins s σ H xs us Q I r ⟨O,ds,d,hO,hd,hg,q⟩;unfold tq at hg;split at hg
 ·rename_i ys;obtain⟨bv,e1,e2⟩:=bind_some hg;cases e2;obtain⟨bs,eb,ev⟩:=tY e1;subst eb ev;obtain⟨v,evv,h1⟩:=hd.one;subst evv;obtain⟨p,vs,ep,g1,g2⟩:=cq.mp h1;subst ep;obtain⟨u,eu,ru⟩:=vals1 r;subst eu;cases ru;obtain⟨its,rv,pl,hz⟩:=I.list ((aF H O).seq g1);have ei:=kM g2 rv;have hl:=pl.isList;have hlt:p<s.heap.objs.size:=by obtain⟨_,e,_⟩:=hl;exact Rm e
  refine call_any_walk (R9 hl ?_);refine⟨s.heap.objs.size,[s.heap.objs.size,p],[s.heap.objs.size],its.toArray.size,_,_,λi=>(bs[i]?).getD false,rfl,Walks.list (A:=X.A.in1) (I.ok.hd hc) _ p (Ol hlt) its.toArray,
   ⟨⟨_,Rp _ rfl,rfl,rfl⟩,hl.push _⟩,λi v s' Q' E' hP hQ=>?_,λh' tk hk=>?_⟩
  ·have e:bs[i]?.map Value.bool=some v:=by
    rw[<-OV,<-ei]
    simpa using hP
   cases eb:bs[i]? with
   |none=>rw[eb]at e;cases e
   |some b=>
    rw[eb]at e;cases e;simp only[eb,PQ]at hQ;exact R5 hQ
  ·have e:((List.range its.toArray.size).any λi=>(bs[i]?).getD false)=bs.any id:=by
    have:its.toArray.size=bs.length:=(by rw[OB,ei,OI]);rw[this];exact range_any bs
   rw[e];have k:∀b x,s.heap.get? b=some x->h'.get? b=some x:=λb x e=>hk b x (λhm=>by rw[List.mem_singleton.mp hm]at e;exact Oj _ (Rm e)) (Ro _ e);exact⟨.bl _,H,I.kept k,rfl,q _ H (aP.refl H) (iT.mpr rfl)⟩
 ·cases hg
end
end TG
namespace TG
open PySem PySem.Spec PyProof.Rows L2
variable[au]
noncomputable def ud:List D->List D->Option Bool
 |[],[]=>some false
 |[],_::_=>some true
 |_::_,[]=>some false
 |a::as,b::bs=>match a,b with
  |.int i,.int j=>if i=j then ud as bs else some (decide (i<j))
  |.str x,.str y=>if x=y then ud as bs else some (decide (x.cps.toList<y.cps.toList))
  |_,_=>none
inductive hV:bb->List D->Prop where
 |nil:hV [] []
 |int (i:Int) (t:Tok) {vs:bb} {ds:List D} (h:hV vs ds):hV (.int i t::vs) (.int i::ds)
 |str (x:Str) (t:Tok) {vs:bb} {ds:List D} (h:hV vs ds):hV (.str x t::vs) (.str x::ds)
theorem hV.length:∀{vs:bb}{ds:List D},hV vs ds->vs.length=ds.length
 |_,_,.nil=>rfl
 |_,_,.int _ _ h=>by rw[OG,OG,h.length]
 |_,_,.str _ _ h=>by rw[OG,OG,h.length]
theorem Hc(A:RV)(s:RL)(a:Int)(t:Tok)(c:Int)(u:Tok):∃e,SeqAt.EqAt A s (.int a t) (.int c u) e/\(e=true↔a=c):=
 ⟨(a==c),SeqAt.EqAt.int_int a t c u,by simp⟩
theorem Hr(A:RV)(s:RL)(a:Str)(t:Tok)(c:Str)(u:Tok):∃e,SeqAt.EqAt A s (.str a t) (.str c u) e/\(e=true↔a=c):=
 ⟨(a==c),SeqAt.EqAt.str_str a t c u,by simp⟩
theorem HR(A:RV)(s:RL)(a:Str)(t:Tok)(c:Str)(u:Tok)(prog:RN)(w:RM)(E:bX)(Q:bX)(h:Q (.bool (decide (a.cps.toList<c.cps.toList))) s):
  RY (model prog w) A (richCompare .Lt (.str a t) (.str c u)) Q E s:=
 (PySem.P.lt_str h:RY (model prog w) A (R3 .Lt (.str a t) (.str c u)) Q E s)
section
open PySem.SeqAt
open PySem.AutoSeq1 (wpAny_loadPart')
open PySem.MeetsSeq PySem.MeetsSeq2 PySem.MeetsSeq3
set_option maxHeartbeats 1000000 in
theorem pK(l b:RH)(items items2:Array RF)(n n2:Nat)(dd dd2:Option RH)(sl sl2:Array (Option RF))(ns ms:List D)(r:Bool)(hi:hV items.toList ns)(hj:hV items2.toList ms)(hr:ud ns ms=some r):
  Meets (Builtin.«tuple.__lt__» ⟨[.ref l,.ref b],[]⟩)
   (fun _ R s=>s.heap.get? l=some { cls:=.type "tuple",dict:=dd,data:=.seq items n,slots:=sl }/\s.heap.get? b=some { cls:=.type "tuple",dict:=dd2,data:=.seq items2 n2,slots:=sl2 } /\
    R (.ok (.ret (.bool r))) s):=
 .of_wp λprog w A R s h=>by
  obtain⟨hp,g,d,tk,os⟩:=s;obtain⟨hl,hb,h⟩:=h;have f2:=AutoSeq1.sub_tuple_tuple;have z1:items.size=ns.length:=by rw[<-hi.length];simp
  have z2:items2.size=ms.length:=by rw[<-hj.length];simp
  wp_walk using wpAny_loadPart' hl,wpAny_loadPart' hb,wpAny_forIn_list _ (λrest b s'=>b.1=none/\s'=⟨hp,g,d,tk,os⟩/\∃(vs ws:bb)(ns' ms':List D),rest=vs.zip ws/\
   hV vs ns'/\hV ws ms'/\ns'.length+items2.size=ms'.length+items.size/\ud ns' ms'=some r/\R (.ok (.ret (.bool r))) ⟨hp,g,d,tk,os⟩) _
  case turn=>
   rintro⟨y,x⟩ rest b s' ⟨hb',rfl,vs,ws,ns',ms',hz,hvi,hwi,hlen,hL,hR⟩;cases hvi with
   |nil=>rw[List.zip_nil_left]at hz;cases hz
   |int a t hvi'=>
    cases hwi with
    |nil=>rw[Qd]at hz;cases hz
    |str c u hwi'=>cases hL
    |int c u hwi'=>
     rw[P6]at hz;injection hz with hyx hrest;injection hyx with hy hx;subst hy hx;have hL':(if a=c then ud _ _ else some (decide (a<c)))=some r:=hL;simp only[OG]at hlen;obtain⟨e,he,hiff⟩:=Hc A.in1 ⟨hp,g,d,tk,os⟩ a t c u;refine R8 (he prog w _ _ ?_);cases e with
     |true=>
      rw[if_pos (hiff.mp rfl)]at hL'
      wp_walk
      exact⟨rfl,rfl,_,_,_,_,hrest,hvi',hwi',by omega,hL',hR⟩
     |false=>
      rw[if_neg (λq=>absurd (hiff.mpr q) OD)]at hL';cases hL';have hri:=HT.Iy A.in1 ⟨hp,g,d,tk,os⟩ a t c u prog w
      wp_walk using hri
      exact⟨_,rfl,by simpa using hR⟩
   |str a t hvi'=>
    cases hwi with
    |nil=>rw[Qd]at hz;cases hz
    |int c u hwi'=>cases hL
    |str c u hwi'=>
     rw[P6]at hz;injection hz with hyx hrest;injection hyx with hy hx;subst hy hx;have hL':(if a=c then ud _ _ else some (decide (a.cps.toList<c.cps.toList)))=some r:=hL;simp only[OG]at hlen;obtain⟨e,he,hiff⟩:=Hr A.in1 ⟨hp,g,d,tk,os⟩ a t c u;refine R8 (he prog w _ _ ?_);cases e with
     |true=>
      rw[if_pos (hiff.mp rfl)]at hL'
      wp_walk
      exact⟨rfl,rfl,_,_,_,_,hrest,hvi',hwi',by omega,hL',hR⟩
     |false=>
      rw[if_neg (λq=>absurd (hiff.mpr q) OD)]at hL';cases hL';have hri:=HR A.in1 ⟨hp,g,d,tk,os⟩ a t c u prog w
      wp_walk using hri
      exact⟨_,rfl,by simpa using hR⟩
  case fin=>
   rintro⟨b1,b2⟩ s' ⟨hb',rfl,vs,ws,ns',ms',hz,hvi,hwi,hlen,hL,hR⟩;simp only at hb';subst hb';have hv:r=decide (items.size<items2.size):=by
    have l1:=hvi.length;have l2:=hwi.length;cases ns' with
    |nil=>
     cases ms' with
     |nil=>
      simp only[O6]at hlen;cases hL;exact(decide_eq_false ‹0›).symm
     |cons c u=>
      simp only[O6,OG]at hlen;cases hL;exact(decide_eq_true ‹0›).symm
    |cons a t=>
     cases ms' with
     |nil=>
      simp only[O6,OG]at hlen;cases hL;exact(decide_eq_false ‹0›).symm
     |cons c u=>
      have:=congrArg List.length hz
      simp only[O6,List.length_zip,l1,l2,OG]at this;omega
   rw[hv]at hR
   wp_walk
   exact⟨_,rfl,by simpa [Builtin.Tuple.tupleCompareSizes]using hR⟩
  case h=>
   exact⟨rfl,rfl,items.toList,items2.toList,ns,ms,rfl,hi,hj,by omega,hr,h⟩
end
section
variable{X:Cx}
theorem wR{α:Type}{c:Bool}{o:Option α}{a:α}(h:(if c then o else none)=some a):c=true/\o=some a:=by
 cases c with
 |true=>exact⟨rfl,h⟩
 |false=>cases h
theorem ux{prog:RN}{w:RM}{A:RV}{E:bX}{s:RL}{l b:RH}{items items2:Array RF}{ns ms:List D}{r:Bool}{Q:bX}(hl:IsTup s.heap l items)(hb:IsTup s.heap b items2)(hi:hV items.toList ns)(hj:hV items2.toList ms)(hr:ud ns ms=some r)
  (hu:A.units<Sl) (h:Q (.bool r) s):RY (model prog w) A (R3 .Lt (.ref l) (.ref b)) Q E s:=by
 obtain⟨⟨cls,dd,data,sl⟩,ho,hc,n,hd⟩:=id hl;obtain⟨⟨cls2,dd2,data2,sl2⟩,ho2,hc2,n2,hd2⟩:=id hb;simp only at hc hd hc2 hd2;subst hc hd hc2 hd2;exact richCompare_meets_room (op:=.Lt) ⟨_,ho,rfl⟩ ⟨_,ho2,rfl⟩ PySem.F.slot_tuple_lt PySem.F.entry_tuple_lt (PySem.F.args_tuple_lt_2 _ _) (pK l b items items2 n n2 dd dd2 sl sl2 ns ms r hi hj hr)
  ⟨ho,ho2,show Value.bool r≠Value.notImplemented/\Q (.bool r) s from⟨(λx=>nomatch x),h⟩⟩ hu
noncomputable def tT:List D->Bool
 |[]=>true
 |.int _::r=>tT r
 |.str _::r=>tT r
 |_=>false
theorem kY{K:QG}{H:Hp}:∀{ds:List D}{vs:aE}{us:bb},tT ds=true->aI K H ds vs->Vals vs us->hV us ds
 |[],vs,us,_,h,r=>by
  rw[cw]at h;subst h;cases r;exact .nil
 |d::ds,vs,us,hf,h,r=>by
  obtain⟨v,r',e,h1,h2⟩:=aM.mp h;subst e;cases r with
  |cons q1 q2=>
   cases d with
   |int i=>
    rw[eM]at h1;subst h1;obtain⟨t,rfl⟩:=q1;exact .int i t (kY hf h2 q2)
   |str x=>
    rw[eF]at h1;subst h1;obtain⟨t,rfl⟩:=q1;exact .str x t (kY hf h2 q2)
   |_=>cases hf
noncomputable def n5(a b:D):bB:=match a,b with
 |.int i,.int j=>some (.bl (decide (i<j)))
 |.str x,.str y=>some (.bl (decide (x.cps.toList<y.cps.toList)))
 |.tup xs,.tup ys=>if tT xs&&tT ys then(ud xs ys).bind λr=>some (.bl r)else none
 |_,_=>none
theorem sf(hu:X.A.units+64<Sl):gZ X (R3 .Lt) (rD X.K n5):=by
 rintro pins s σ H x y u v Q I rx ry ⟨O,a,b,d,hO,ha,hb,hg,q⟩;cases a with
 |int i=>
  cases b with
  |int j=>
   cases hg;exact Hv pins s σ H x y u v Q I rx ry ⟨i,j,eM.mp ha,eM.mp hb,q _ H (aP.refl H) (iT.mpr rfl)⟩
  |_=>cases hg
 |str i=>
  cases b with
  |str j=>
   cases hg;exact xX pins s σ H x y u v Q I rx ry ⟨i,j,eF.mp ha,eF.mp hb,q _ H (aP.refl H) (iT.mpr rfl)⟩
  |_=>cases hg
 |tup xs=>
  cases b with
  |tup ys=>
   obtain⟨h1,h2⟩:=wR hg;obtain⟨r,e1,e2⟩:=bind_some h2;cases e2;rw[O0]at h1;obtain⟨p,vs,ex,g1,g2⟩:=cj.mp ha;obtain⟨p',vs',ey,g1',g2'⟩:=cj.mp hb;subst ex ey;cases rx;cases ry;obtain⟨its,r1,t1,_⟩:=I.tuple (cB (aF H O) g1);obtain⟨its2,r2,t2,_⟩:=I.tuple (cB (aF H O) g1');exact ux t1 t2 (kY h1.1 g2 r1) (kY h1.2 g2' r2) e1 ‹0› (zj I (q _ H (aP.refl H) (iT.mpr rfl)) rfl)
  |_=>cases hg
 |_=>cases hg
end
end TG
namespace TG
open PySem PySem.Spec L2
variable[au]
noncomputable def kt(x:Str)(n:Int):Str:=if(n==1||x.length==0)=true then x else⟨(List.replicate n.toNat x.cps).foldl (·++·) #[]⟩
theorem foldl_size:∀(n:Nat)(c a:Array Nat),((List.replicate n c).foldl (·++·) a).size=a.size+n*c.size
 |0,_,a=>by simp
 |n+1,c,a=>by
  rw[Qe,Qf,foldl_size n c,Array.size_append,Nat.succ_mul];omega
theorem tm{x:Str}{n:Int}(h:1<=n):(kt x n).length=n.toNat*x.length:=by
 unfold kt;split
 ·rename_i q;rw[Px]at q;rcases q with q|q
  ·have:n=1:=(by simpa using q);rw[this];simp
  ·have:x.length=0:=(by simpa using q);rw[this];simp
 ·show((List.replicate n.toNat x.cps).foldl (·++·) #[]).size=n.toNat*x.cps.size;rw[foldl_size];simp
noncomputable def vP(a b:D):bB:=match a,b with
 |.int i,.int j=>gP (.int i) (.int j)
 |.str x,.int n=>if decide (1<=n/\n<=1000/\x.length<=1000)then some (.str (kt x n))else none
 |_,_=>none
section
variable{X:Cx}
theorem BW:gZ X (Se .Mult) (rD X.K vP):=by
 rintro pins s σ H x y u v Q I rx ry ⟨O,a,b,d,hO,ha,hb,hg,q⟩;cases a with
 |int i=>
  cases b with
  |int j=>exact yX pins s σ H x y u v Q I rx ry (z9 (.int i) (.int j) d x y O H Q hO hg ha hb q)
  |_=>cases hg
 |str z=>
  cases b with
  |int n=>
   obtain⟨h1,h2⟩:=aY hg;subst h2;obtain⟨n1,n2,zl⟩:=of_decide_eq_true h1;rw[eF]at ha;rw[eM]at hb;subst ha hb;obtain⟨t,rfl⟩:=rx;obtain⟨t',rfl⟩:=ry;have zn:z.length*n.toNat<=1000*1000:=Nat.mul_le_mul zl ‹0›;refine P.mul_str (by rw[decide_eq_false ‹0›,decide_eq_false ‹0›];rfl) (λ_ _=>?_) (λ_ _=>?_) ?_
   ·have:(2^63-1:Int)/n>=(2^63-1)/1000:=by
     rw[ge_iff_le,Int.le_ediv_iff_mul_le ‹0›];have h3:(2^63-1:Int)/1000*n<=(2^63-1)/1000*1000:=Int.mul_le_mul_of_nonneg_left n2 (by decide);have h4:(2^63-1:Int)/1000*1000<=2^63-1:=(by decide);omega
    have h5:(2^63-1:Int)/1000=9223372036854775:=(by decide);omega
   ·unfold Builtin.Str.tooLong;rw[decide_eq_false];rw[Sf];omega
   ·rw[if_neg ‹0›];have fin:∀tk,EP X pins σ Q (.str (kt z n) tk) {s with toks:=s.toks+1}/\EP X pins σ Q (.str (kt z n) tk) s:=λtk=>⟨⟨.str (kt z n),H,I.tok _,⟨_,rfl⟩,q _ H (aP.refl H) (eF.mpr rfl)⟩,⟨.str (kt z n),H,I,⟨_,rfl⟩,q _ H (aP.refl H) (eF.mpr rfl)⟩⟩
    by_cases e:(n==1||z.length==0)=true
    ·rw[if_pos e]
     have:kt z n=z:=(by unfold kt;rw[if_pos e]);rw[this]at fin;exact(fin t).2
    ·rw[if_neg e];have e2:kt z n=⟨(List.replicate n.toNat z.cps).foldl (·++·) #[]⟩:=(by unfold kt;rw[if_neg e]);rw[e2]at fin;refine⟨?_,(fin _).1⟩;have rl:=tm (x:=z) (n:=n) ‹0›;rw[e2]at rl;rw[rl,Sf,Nat.mul_comm];omega
  |_=>cases hg
 |_=>cases hg
end
structure NotIn(K:QG)(D C:RH):Prop where
 ne:D≠C
 cls:(PySem.W.clsIn K C).isSome=true
 ty:QS K (.ref C)=some (.type "type")
 ins:Rf K (.ref C) (.type "type")=some true
 sub:Rg K (.ref D) (.ref C)=some false
 fc:QK K (.ref D) "__class__"=some (some (.builtin "object.__class__"))
 sg:Rh K (.builtin "object.__class__") "__get__"=some (some (.builtin "getset_descriptor.__get__"))
 tk:Ri K (.builtin "object.__class__")=some true
 mo:Rj K D (.type "object")=some true
section
open PySem.W PySem.Calls PyProof.Rows
variable{prog:RN}{w:RM}{A:RV}{E:bX}{s:RL}{K:QG}{x D C:RH}{ox od:Obj}
theorem um{Q:Option RF->jE}(X:K.In s.heap)(I:InstAt s.heap x ox D (some od))(cl:L2.jv K D)(n:NotIn K D C)(h:Q (some (.ref D)) {s with toks:=s.toks+1}):RY (model prog w) A (getAttr? (.ref x) "__class__") Q E s:=by
 obtain⟨hga,hk⟩:=plainGet_of (cl.get "__class__");have hf:=findObj_data (od:=od) (name:="__class__") (by obtain⟨cd,hc,_⟩:=any_some cl.hd;rw[hc];rfl) n.fc n.sg n.tk;obtain⟨hh,g,d,t,os⟩:=s;have L0:=I.type (M:=model prog w);have L1:=looks_findIn (M:=model prog w) X hga;have L2:=looks_find (M:=model prog w) X I hf;have L3:=looks_findIn (M:=model prog w) X hk;unfold getAttr? getAttrBy? getAttrBy;refine R8 (wpAny_mkText (R8 (S4 (SE (R8 (L0.at (R8 (L1.at ?_))))))));show RY _ _ (getAttrEveryday _ _ _) _ _ _;refine R8 (SY (wpAny_runValue (S5 PySem.F.plainObj_entry_getattr_hooked ?_)));refine R8 (R7 (R8 (L0.at (R8 (L2.at (R8 (L3.at ?_)))))));show RY _ _ (holding [_] (call _ [_,.ref x,.ref D]) >>= ret) _ _ _;refine R8 (SE (Sr (class_get (s:=⟨hh,g,d,t+1,os⟩) (ox:=ox) (od:=some od) X I n.mo ?_)));refine R7 ?_;show RY _ _ (handedOut (.ref D)) _ _ _;exact handed_on rfl (R7 h)
theorem t7{dep:Int}{tk:Tok}{Q:PySem.Fin->jE}(X:K.In s.heap)(I:InstAt s.heap x ox D (some od))(cl:L2.jv K D)(n:NotIn K D C)(h:Q (.done (.ret (.bool false))) {s with toks:=s.toks+1}):
  RY (model prog w) A (Builtin.«isinstance.nested» ⟨[.ref x,.ref C,.int dep tk],[]⟩) Q E s:=by
 have ca:=λ{A E}{Q:Option RF->jE}(h:Q (some (.ref D)) {s with toks:=s.toks+1})=>um (prog:=prog) (w:=w) (A:=A) (E:=E) X I cl n h;obtain⟨hh,g,d,tt,os⟩:=s;have ht:=I.type (M:=model prog w);unfold Builtin.«isinstance.nested»;refine R8 (ht.at ?_);rw[if_neg (λq=>n.ne (by have:=beq_iff_eq.mp q;cases this;rfl))];have L1:=looks_typeIn (M:=model prog w) X n.ty;have L2:=looks_instIn (M:=model prog w) X n.ins;have L4:Looks (model prog w) hh (isSubtype (.ref D) (.ref C)) false:=looks_subIn X n.sub;have L3:Looks (model prog w) hh (isInstance (.ref x) (.ref C)) false:=ht.andThen L4;refine R8 (L1.at ?_);rw[if_pos (by decide)]
 k_delta "plainIsInstance"
 unfold isType
 repeat lk
 have e0:=n.cls;unfold clsIn at e0;split at e0
 ·rename_i ho;refine nd_load (X _ _ ho) (nd_pure (R7 ?_));simp only[Qg,Pb,if_false];refine R8 (L3.at ?_);simp only[Pb,if_false];refine R8 (ca ?_);have e1:(clsIn K D).isSome=true:=by obtain⟨cd,hc,_⟩:=any_some cl.hd;rw[hc];rfl
  unfold clsIn at e1;split at e1
  ·rename_i ho2;refine R8 (nd_load (X _ _ ho2) (R7 ?_));simp only[Qg,Pb,if_false];refine R8 (SL ?_);refine L4.at ?_;exact R7 h
  ·cases e1
 ·cases e0
theorem w6{Q:bX}(X:K.In s.heap)(I:InstAt s.heap x ox D (some od))(cl:L2.jv K D)(n:NotIn K D C)(h:Q (.bool false) {s with toks:=s.toks+1}):
  RY (model prog w) A (call (.builtin "isinstance") [.ref x,.ref C]) Q E s:=
 call_isinstance (S:=λ_ R s=>(K.In s.heap/\InstAt s.heap x ox D (some od))/\R (.ok (.ret (.bool false))) {s with toks:=s.toks+1})
  (λ_ _ _ _ _ hs=>isinstance_outer (t7 hs.1.1 hs.1.2 cl n hs.2) (λz=>nomatch z)) ⟨⟨X,I⟩,h⟩
end
noncomputable def eL(K:QG)(mg:cS)(x:Str)(yes no:av):Prop:=∃C,mg x=some (.ref C)/\(∀c∈yes,∀D,clsAt K c D->Rk K (.ref D) C=true)/\∀c∈no,∀D,clsAt K c D->jv K D/\NotIn K D C
noncomputable def aX(yes no:av)(d:D):bB:=match d with
 |.obj c _ _=>if yes.contains c then some (.bl true)else if no.contains c then some (.bl false)else none
 |_=>none
noncomputable def KJ(K:QG)(C:RH):aE->Hp->VK->Prop:=λxs H Q=>∃p D dx fs,xs=[.ref p,.ref C]/\H p=some (.ins D dx fs)/\((Rk K (.ref D) C=true/\Q (.bl true) H)\/(jv K D/\NotIn K D C/\Q (.bl false) H))
section
variable{X:Cx}{p pos:Pos}{e:RJ}{C:RH}
theorem yB:eJ X (.builtin "isinstance") (KJ X.K C):=by
 rintro pins s σ H xs us Q I r ⟨p,D,dx,fs,ex,hp,hq⟩;subst ex;obtain⟨u,w',rfl,rx,rt⟩:=vals2 r;cases rx;cases rt;obtain⟨mA,om,_⟩:=oa I.hok hp;obtain⟨od,ia,_⟩:=om.look;rcases hq with⟨hi,q⟩|⟨cl,n,q⟩
 ·exact PySem.W.isi_call I.kIn (λM=>ia.type) hi (λz=>nomatch z) ⟨.bl true,H,I,rfl,q⟩
 ·exact w6 I.kIn ia cl n ⟨.bl false,H,I.tok _,rfl,q⟩
end
end TG
namespace TG
open PySem PySem.Spec PyProof.Rows PySem.W L2
variable[au]
end TG
namespace TG
open PySem PySem.Spec L2
variable[au]
section
variable{X:Cx}{tg:RJ}
end
end TG
namespace TG
open PySem PySem.Spec L2
variable[au]
end TG
namespace TG
open PySem PySem.Spec L2
variable[au]
end TG
namespace TG
open PySem PySem.Spec L2
variable[au]
noncomputable def keyOf:D->Option Key
 |.int i=>some (.inl i)
 |.str x=>some (.inr x)
 |_=>none
theorem pc{d:D}{k:Key}(h:keyOf d=some k):d=dQ k:=by
 cases d with
 |int i=>cases h;rfl
 |str x=>cases h;rfl
 |_=>cases h
theorem oM{K:QG}{H:Hp}{k:Key}{v:V}(h:cz K H (dQ k) v):v=kV k:=by
 cases k with
 |inl i=>exact eM.mp h
 |inr x=>exact eF.mp h
section
variable{P:RN}{w:RM}{H H':Hp}{h:RP}{a:RH}
theorem zS(x:dr P w H h a (.dK [])):dr P w H' h a (.dT []):=by
 obtain⟨z,hd,vs,rel,o,es,ep,h1,h2,h3,h4,h5,h6⟩:=x;have e:vs=[]:=by have:=rel.length;simpa using this.symm
 subst e;refine⟨OL _,hd,[],.nil,o,es,ep,h1,h2,h3,?_,by simp⟩
 have:=h5.length
 simpa using this
theorem AU(x:dr P w H h a (.dT [])):dr P w H' h a (.dK []):=by
 obtain⟨z,hd,xs,rel,o,es,ep,h1,h2,h3,h4,h5⟩:=x;have e:xs=[]:=by have:=rel.length;simpa using this.symm
 subst e;have e2:es=#[]:=by simpa using h4
 subst e2;exact⟨OL _,hd,[],.nil,o,#[],ep,h1,h2,h3,λe he=>by simp at he,.nil,by simp⟩
end
section
variable{X:Cx}{pins:bc}{σ:St}{H:Hp}{s:RL}{a:RH}
theorem JP(I:Inv X pins σ H s)(h1:H a=some (.dK [])):Inv X pins σ (upd H a (.dT [])) s:=by
 have hx:=I.hok a _ h1;have hq:∃q,s.heap.get? a=some q:=by obtain⟨_,_,_,_,o,_,_,e,_⟩:=id hx;exact⟨o,e⟩
 exact rL (ob:=.dT []) (h':=s.heap) (t':=s.toks) I (by rw[h1];exact trivial) ⟨rfl,λ_ _=>rfl⟩ hq (zS hx)
theorem JZ(I:Inv X pins σ H s)(h1:H a=some (.dT [])):Inv X pins σ (upd H a (.dK [])) s:=by
 have hx:=I.hok a _ h1;have hq:∃q,s.heap.get? a=some q:=by obtain⟨_,_,_,_,o,_,_,e,_⟩:=id hx;exact⟨o,e⟩
 exact rL (ob:=.dK []) (h':=s.heap) (t':=s.toks) I (by rw[h1];exact trivial) ⟨rfl,λ_ _=>rfl⟩ hq (AU hx)
end
theorem AH{H:Hp}{a:RH}{o1 o2:HO}(h:H a=some o1):upd (upd H a o2) a o1=H:=by
 funext b;by_cases e:b=a
 ·subst e;rw[bi,h]
 ·rw[aK e,aK e]
end TG
namespace TG
open PySem PySem.Spec L2
variable[au]
end TG
namespace TG
open PySem PySem.Spec PySem.W PySem.Calls PyProof.Rows Builtin Builtin.ObjectAttr Builtin.Getset_descriptor
variable[au]
end TG
namespace TG
open PySem PySem.Spec PySem.W PySem.Calls PyProof.Rows Builtin Builtin.ObjectAttr Builtin.Getset_descriptor
end TG
namespace TG
open PySem PySem.Spec L2
variable[au]
open PyProof.Rows (AllBare OwnCls)
end TG
namespace TG
open PySem PySem.Spec L2
variable[au]
end TG
namespace TG
open PySem PySem.Spec L2
variable[au]
noncomputable def sB(val:Nat->Int):Nat->Int
 |0=>0
 |1=>val 0
 |n+2=>if val (n+1)>sB val (n+1)then val (n+1)else sB val (n+1)
noncomputable def lg:List D->Option (List Int)
 |[]=>some []
 |.int i::r=>(lg r).map (i::·)
 |_=>none
theorem qy:∀{xs:List D}{ns:List Int},lg xs=some ns->xs=ns.map .int
 |[],_,h=>by cases h;rfl
 |d::r,ns,h=>by
  cases d with
  |int i=>
   cases e:lg r with
   |none=>rw[show lg (.int i::r)=(lg r).map (i::·)from rfl,e]at h;cases h
   |some ms=>rw[show lg (.int i::r)=(lg r).map (i::·)from rfl,e]at h;cases h;rw[qy e];rfl
  |_=>cases h
noncomputable def qL(i:Int)(d:D):bB:=match d with
 |.lst xs=>(lg xs).map λns=>.int (if ns.length=0 then i else sB (λk=>ns.getD k 0) ns.length)
 |_=>none
section
variable{prog:RN}{w:RM}{A:RV}{R:Result->jE}{I:RH}{fp wr:az}{n:Nat}{P:Nat->RF->Prop}{St:Nat->RP->Prop}
theorem xI(W:Walks prog w A.in1 I fp wr n P St)(val:Nat->Int)(hv:∀i v,P i v->∃t,v=.int (val i) t)(dv:RF)(Z:RH)(hZ:Z∉fp):
  ∀(k j:Nat)(s:RL)(cs:Array RF)(c:Nat),n-j=k->j<=n->St j s.heap->(cs=#[]/\j=0\/0<j/\∃t,cs=#[.int (sB val j) t,.int (sB val j) t])->
   s.heap.get? Z=some {cls:=.type "list",dict:=none,data:=.seq cs c,slots:=#[]}->
   (∀v h' tk,(n=0/\v=dv\/0<n/\∃t,v=.int (sB val n) t)->(∀b o,b∉wr->b≠Z->s.heap.get? b=some o->h'.get? b=some o)->R (.ok (.ret v)) {s with heap:=h',toks:=tk})->
   Sg (model prog w) A (.builtin "max.loop" ⟨[.ref I,.none,.ref Z],[(Str.ofString "default",dv)]⟩) R s:=by
 have zw:Z∉wr:=λh=>hZ (W.sub _ h);have nm:(toString "max"++toString ".loop":String)="max.loop":=by
  decide
 intro k
 induction k with
 |zero=>
  intro j s cs c hk hj hst hcs hl hR;have en:j=n:=by omega
  subst en;refine S5 F.entry_max_loop ?_;rw[Around.under_plainId F.plain_max_loop _];refine R8 (m:=seqItems? (.ref Z)) (SR hl rfl ?_);refine R8 (m:=tryCatch (pyNext (.ref I)) _)
   (S6 (W.done s _ _ hst λh' tk hk'=>?_))
  have hl':=hk' Z _ zw hl;rcases hcs with⟨rfl,rfl⟩|⟨hp,t,rfl⟩
  ·refine R8 (SL ?_);exact R7 (hR dv h' tk (.inl ⟨rfl,rfl⟩) λb o hb _ e=>hk' b o hb e)
  ·refine R8 (m:=updateSeq Z λ_=>#[]) (S7 hl' rfl
    (R8 (S0 (R7 (hR _ _ tk (.inr ⟨hp,t,rfl⟩) λb o hb hz e=>?_)))))
   exact(Rr _ _ hz.symm).trans (hk' b o hb e)
 |succ k ih=>
  intro j s cs c hk hj hst hcs hl hR;have hlt:j<n:=by omega
  refine S5 F.entry_max_loop ?_;rw[Around.under_plainId F.plain_max_loop _];refine R8 (m:=seqItems? (.ref Z)) (SR hl rfl ?_);refine R8 (m:=tryCatch (pyNext (.ref I)) _)
   (S6 (W.item j s _ _ hlt hst λv h' tk hP hst' hk'=>?_))
  have hl':=hk' Z _ zw hl;obtain⟨tv,rfl⟩:=hv j v hP;have next:∀(h2:RP)(cs2:Array RF)(c2:Nat),(∀b o,b≠Z->h'.get? b=some o->h2.get? b=some o)->h2.get? Z=some {cls:=.type "list",dict:=none,data:=.seq cs2 c2,slots:=#[]}->(∃t,cs2=#[.int (sB val (j+1)) t,.int (sB val (j+1)) t])->
    Sg (model prog w) A (.builtin "max.loop" ⟨[.ref I,.none,.ref Z],[(Str.ofString "default",dv)]⟩) R {s with heap:=h2,toks:=tk}:=λh2 cs2 c2 k2 l2 hc2=>by
   refine ih (j+1) _ cs2 c2 ‹0› hlt (W.frame _ _ _ hst' λb hb o e=>k2 b o (λz=>hZ (z ▸ hb)) e) (.inr ⟨by omega,hc2⟩) l2 λv' h'' tk'' hv' hk''=>?_;exact hR v' h'' tk'' hv' λb o hb hz e=>hk'' b o hb hz (k2 b o hz (hk' b o hb e))
  rcases hcs with⟨rfl,rfl⟩|⟨hp,t,rfl⟩
  ·refine R8 (R7 ?_);refine R8 (m:=updateSeq Z λ_=>#[.int (val 0) tv,.int (val 0) tv]) (S7 hl' rfl ?_);rw[nm];exact R7 ⟨S8 F.plain_max_loop _,next _ _ _ (λb o hz e=>(Rr _ _ hz.symm).trans e) (Ru _ hl' rfl) ⟨tv,rfl⟩⟩
  ·obtain⟨m,rfl⟩:∃m,j=m+1:=⟨j-1,by omega⟩
   refine R8 (R7 ?_);refine R8 (m:=tryCatch _ _) (S6 (SE
    (R8 (CmpOf.ints_gt (P:=λi v=>∃t,v=.int (if i=0 then val (m+1)else sB val (m+1)) t) (λi=>if i=0 then val (m+1)else sB val (m+1)) (λi v h=>h) 0 1 _ _ _ _ _ ⟨tv,rfl⟩ ⟨t,rfl⟩ ?_))))
   refine R8 (SE (R5 ?_));refine R8 (S0
    (R7 ?_))
   split
   ·rename_i hz;have hb:val (m+1)>sB val (m+1):=of_decide_eq_true (show decide (val (m+1)>sB val (m+1))=true from hz);refine R8 (m:=updateSeq Z λ_=>#[.int (val (m+1)) tv,.int (val (m+1)) tv])
     (S7 hl' rfl (R8 (S0 ?_)))
    rw[nm];exact R7 ⟨S8 F.plain_max_loop _,next _ _ _ (λb o hz e=>(Rr _ _ hz.symm).trans e) (Ru _ hl' rfl) ⟨tv,by rw[sB,if_pos hb]⟩⟩
   ·rename_i hz;have hb:¬val (m+1)>sB val (m+1):=λz=>hz (show decide (val (m+1)>sB val (m+1))=true from decide_eq_true z);refine R8 (S0 ?_);rw[nm];exact R7 ⟨S8 F.plain_max_loop _,next _ _ _ (λb o _ e=>e) hl' ⟨t,by rw[sB,if_neg hb]⟩⟩
theorem xA(a v:RF):argsOk "max" ⟨[a],[(Str.ofString "default",v)]⟩:=by
 unfold argsOk
 kernel_rfl
theorem wf:RU "max"=some (.builtin "max"):=by first|rfl|decide +kernel
theorem wm{E:bX}{s:RL}{l:RH}{its:bb}{ns:List Int}{dv:RF}{Q:bX}(hh:A.handled=none)(hl:s.heap.IsList l its.toArray)(hi:∀(i:Nat)(v:RF),its[i]?=some v->∃t,v=.int (ns.getD i 0) t)(hn:its.length=ns.length)
  (hQ:∀v h' tk,(ns.length=0/\v=dv\/0<ns.length/\∃t,v=.int (sB (λk=>ns.getD k 0) ns.length) t)->(∀b o,s.heap.get? b=some o->h'.get? b=some o)->Q v {s with heap:=h',toks:=tk}):
  RY (model prog w) A (call (.builtin "max") [.ref l] [(Str.ofString "default",dv)]) Q E s:=by
 have nm:(toString "max"++toString ".loop":String)="max.loop":=by
  decide
 have hlt:l<s.heap.objs.size:=by obtain⟨_,e,_⟩:=hl;exact Rm e
 refine Sr (codeAny_call_builtin F.plain_max F.entry_max ?_);have go:RY (model prog w) A.in1 (Builtin.«max» ⟨[.ref l],[(Str.ofString "default",dv)]⟩) (λfin s'=>match fin with
   |.done f=>(match(Except.ok f:Result)with|.ok (.ret v)=>Q v s'|.ok _=>False|.error e=>E e s')
   |.again c'=>c'.quiet=true/\Sg (model prog w) A c' (λr s'=>match r with|.ok (.ret v)=>Q v s'|.ok _=>False|.error e=>E e s') s') E s:=by
  show RY _ A.in1 (Builtin.Builtins.bindParams "max" ["key","default"] 0 ⟨[],[(Str.ofString "default",dv)]⟩ >>= _) _ _ s;refine R8 (wpAny_of_eq (show Builtin.Builtins.bindParams "max" ["key","default"] 0 ⟨[],[(Str.ofString "default",dv)]⟩=pure [none,some dv]from rfl) ?_);refine R8 (R7 ?_);refine R8 (R9 hl ?_);refine R8 (SJ ?_);rw[nm];have hne:l≠s.heap.objs.size:=Ol hlt;refine R7 ⟨S8 F.plain_max_loop _,xI (Walks.list (A:=A.in1) hh s.heap.objs.size l hne its.toArray) (λk=>ns.getD k 0) (λi v h=>hi i v (by simpa using h)) dv _ (λhm=>?_) _ 0 _ #[] _ rfl (OL _) ⟨⟨_,Ro _ (Rp _ rfl),rfl,rfl⟩,(hl.push _).push _⟩ (.inl ⟨rfl,rfl⟩) (Rp _ rfl) λv h' tk hv hk=>?_⟩
  ·simp only[Rq,PR,Qh,or_false]at hm;rcases hm with hm|hm
   ·exact Nat.succ_ne_self _ hm
   ·rw[<-hm]at hlt;exact Oj _ (Nat.lt_of_succ_lt hlt)
  ·have e:its.toArray.size=ns.length:=(by rw[OB,hn]);rw[e]at hv;refine hQ v h' tk hv λb o q=>hk b o (λz=>?_) (λz=>?_) (Ro _ (Ro _ q))
   ·have h1:=Rm q;simp only[PR,Qh,or_false]at z;rw[z]at h1;exact Oj _ h1
   ·have h1:=Rm q;rw[z,Rq]at h1;exact Oj _ (Nat.lt_of_succ_lt h1)
 simp only[checkBuiltinCall,F.kind_max];cases hsig:Manifest.signature? "max"with
 |none=>exact R7 go
 |some sig=>
  have ha:Bind.checkArgs "max" sig ⟨[.ref l],[(Str.ofString "default",dv)]⟩=pure ():=by
   have:=xA (.ref l) dv
   unfold argsOk at this;rw[hsig]at this;exact this
  simp only[ha];exact R7 go
end
section
variable{X:Cx}{p pos kp:Pos}{e:RJ}
theorem v9{K:QG}{H:Hp}:∀{ns:List Int}{ys:aE}{its:bb},aI K H (ns.map .int) ys->Vals ys its->∀(k:Nat)(v:RF),its[k]?=some v->∃t,v=.int (ns.getD k 0) t
 |[],ys,its,h,r,k,v,e=>by
  rw[O3,cw]at h;subst h;cases r;simp at e
 |n::ns,ys,its,h,r,k,v,e=>by
  rw[OH,aM]at h;obtain⟨y,ys',rfl,h1,h2⟩:=h;cases r with
  |cons r1 r2=>
   cases k with
   |zero=>
    rw[eM]at h1;subst h1;obtain⟨t,rfl⟩:=r1;simp at e;exact⟨t,e.symm⟩
   |succ k=>
    simp only[PY]at e;exact v9 h2 r2 k v e
end
end TG
namespace TG
open PySem PySem.Spec L2
variable[au]
end TG
namespace TG
open PySem PySem.Spec L2
open PySem PySem.Spec PyProof.Rows PySem.W L2
variable[au]
end TG
namespace TG
open PySem PySem.Spec PyProof.Rows PySem.W L2
variable[au]
end TG
namespace TG
open PySem PySem.Spec PyProof.Rows PySem.W L2
variable[au]
end TG
namespace TG
open PySem PySem.Spec PyProof.Rows PySem.W L2
end TG
namespace TG
open PySem PySem.Spec PySem.Calls L2
open PySem.SeqAt (EqAt list_indexAt)
variable[au]
section
variable{X:Cx}{p pos:Pos}{e:RJ}
end
end TG
namespace TG
open PySem PySem.Spec L2
variable[au]
end TG
namespace TG
open PySem PySem.Spec PySem.Calls L2
open PySem.SeqAt (EqAt list_countAt)
variable[au]
noncomputable def lx:List D->List D->Option (List (Key×D))
 |[],[]=>some []
 |k::ks,d::ds=>(keyOf k).bind λk=>(lx ks ds).map ((k,d)::·)
 |_,_=>none
noncomputable abbrev kC(al:List (Key×D)):List D:=al.map λp=>dQ p.1
noncomputable abbrev uQ(al:List (Key×D)):D:=.dct (kC al) (al.map (·.2))
theorem kP(k:Key):keyOf (dQ k)=some k:=by cases k<;>rfl
theorem yG{a b:Key}(h:dQ a=dQ b):a=b:=by
 have e:=congrArg keyOf h;rw[kP,kP]at e;exact Option.some.inj e
theorem tH:∀{ks ds:List D}{al:List (Key×D)},lx ks ds=some al->ks=kC al/\ds=al.map (·.2)
 |[],[],_,h=>by cases h;exact⟨rfl,rfl⟩
 |k::ks,d::ds,al,h=>by
  unfold lx at h;cases e1:keyOf k with
  |none=>rw[e1]at h;cases h
  |some k'=>
   rw[e1]at h;cases e2:lx ks ds with
   |none=>rw[e2]at h;cases h
   |some al'=>
    rw[e2]at h;cases h;obtain⟨h1,h2⟩:=tH e2;rw[pc e1,h1,h2];exact⟨rfl,rfl⟩
 |[],_::_,_,h=>by cases h
 |_::_,[],_,h=>by cases h
theorem qS:∀al:List (Key×D),lx (kC al) (al.map (·.2))=some al
 |[]=>rfl
 |p::r=>by
  show(keyOf (dQ p.1)).bind _=_;rw[kP];show(lx (kC r) (r.map (·.2))).map ((p.1,p.2)::·)=_;rw[qS r];rfl
theorem pZ:∀{al:List (Key×D)}{ks:List Key},kC al=ks.map dQ->al.map (·.1)=ks
 |[],[],_=>rfl
 |p::r,k::ks,h=>by
  have h:dQ p.1::kC r=dQ k::ks.map dQ:=h;injection h with h1 h2;rw[OH,yG h1,pZ h2]
 |[],_::_,h=>by cases h
 |_::_,[],h=>by cases h
section
variable{κ:Type}[DecidableEq κ]
noncomputable def uy(al:List (κ×D))(k:κ)(v:D):List (κ×D):=if(al.any λp=>decide (p.1=k))=true then al.map (λp=>if p.1=k then(p.1,v)else p)else al++[(k,v)]
theorem wZ{kvs:List (κ×V)}{al:List (κ×D)}(e:kvs.map (·.1)=al.map (·.1))(k:κ)(w:V)(d:D):(putK kvs k w).map (·.1)=(uy al k d).map (·.1):=by
 have e2:(kvs.any λp=>decide (p.1=k))=(al.any λp=>decide (p.1=k)):=by
  have:=congrArg (λl=>l.any λq=>decide (q=k)) e
  simpa [Qc,Function.comp_def]using this
 unfold putK uy;rw[e2];split
 ·have e3:∀(l:List (κ×V)),(l.map λkv=>if kv.1=k then(kv.1,w)else kv).map (·.1)=l.map (·.1):=λl=>by
   rw[Qi];refine Pz λp _=>?_;show(if p.1=k then(p.1,w)else p).1=p.1;split<;>rfl
  have e4:∀(l:List (κ×D)),(l.map λkv=>if kv.1=k then(kv.1,d)else kv).map (·.1)=l.map (·.1):=λl=>by
   rw[Qi];refine Pz λp _=>?_;show(if p.1=k then(p.1,d)else p).1=p.1;split<;>rfl
  rw[e3,e4,e]
 ·rw[PB,PB,e];rfl
theorem qz{K:QG}{H:Hp}{k:κ}{w:V}{d:D}(hw:cz K H d w):∀{kvs:List (κ×V)}{al:List (κ×D)},kvs.map (·.1)=al.map (·.1)->aI K H (al.map (·.2)) (kvs.map (·.2))->
  aI K H ((al.map λp=>if p.1=k then(p.1,d)else p).map (·.2)) ((kvs.map λp=>if p.1=k then(p.1,w)else p).map (·.2))
 |[],[],_,h=>h
 |p::r,q::r',e,h=>by
  rw[OH,OH]at e;injection e with e1 e2;rw[OH,OH,aM]at h;obtain⟨v,ws,h0,h1,h2⟩:=h;injection h0 with h0 h0';subst h0 h0';have ih:=qz (k:=k) hw e2 h2;rw[OH,OH,OH,OH,aM];refine⟨_,_,rfl,?_,ih⟩;rw[e1];split
  ·exact hw
  ·exact h1
 |[],_::_,e,_=>by cases e
 |_::_,[],e,_=>by cases e
theorem zh{K:QG}{H:Hp}{k:κ}{w:V}{d:D}(hw:cz K H d w){kvs:List (κ×V)}{al:List (κ×D)}(e:kvs.map (·.1)=al.map (·.1))(h:aI K H (al.map (·.2)) (kvs.map (·.2))):
  aI K H ((uy al k d).map (·.2)) ((putK kvs k w).map (·.2)):=by
 have e2:(kvs.any λp=>decide (p.1=k))=(al.any λp=>decide (p.1=k)):=by
  have:=congrArg (λl=>l.any λq=>decide (q=k)) e
  simpa [Qc,Function.comp_def]using this
 unfold putK uy;rw[e2];split
 ·exact qz hw e h
 ·rw[PB,PB];exact h.append (aM.mpr ⟨w,[],rfl,hw,cw.mpr rfl⟩)
end
theorem vO{kvs:List (Key×V)}{al:List (Key×D)}(e:kvs.map (·.1)=al.map (·.1)):kC al=kvs.map λp=>dQ p.1:=by
 have:=congrArg (List.map dQ) e
 rw[Qi,Qi]at this;exact this.symm
end TG
namespace TG
open PySem PySem.Spec L2
variable[au]
end TG
namespace TG
open PySem PySem.Spec PySem.Calls L2
variable[au]
end TG
namespace TG
open PySem PySem.Spec L2
variable[au]
end TG
namespace TG
open PySem PySem.Spec L2
variable[au]
end TG
namespace TG
open PySem PySem.Spec L2
variable[au]
end TG
namespace TG
open PySem PySem.Spec PySem.Calls L2
variable[au]
end TG
namespace TG
open PySem PySem.Spec L2
variable[au]
end TG
namespace TG
open PySem PySem.Spec L2
variable[au]
end TG
namespace TG
open PySem PySem.Spec L2
variable[au]
end TG
namespace TG
open PySem PySem.Spec L2
variable[au]
end TG
namespace TG
open PySem PySem.Spec PySem.Calls L2
variable[au]
end TG
namespace L2
open PySem PySem.Spec PyProof.Rows
end L2
namespace TG
open PySem PySem.Spec L2
variable[au]
end TG
namespace TG
open PySem PySem.Spec L2
variable[au]
end TG
namespace TG
open PySem PySem.Spec L2
variable[au]
end TG
namespace TG
open PySem PySem.Spec L2
variable[au]
end TG
namespace TG
open PySem PySem.Spec L2
variable[au]
end TG
namespace L2
open PySem PySem.Spec PyProof.Rows
end L2
namespace TG
open PySem PySem.Spec L2
variable[au]
end TG
namespace TG
open PySem PySem.Spec PySem.Calls L2
variable[au]
theorem tX{K:QG}{H:Hp}{v:V}{al:List (Key×D)}(h:cz K H (uQ al) v):
  ∃a,v=.ref a/\((∃kvs:List (Key×V),H a=some (.dK kvs)/\kvs.map (·.1)=al.map (·.1)/\aI K H (al.map (·.2)) (kvs.map (·.2)))\/(H a=some (.dT [])/\al=[])):=by
 obtain⟨a,vs,e0,h2,h3⟩:=Ji.mp h;refine⟨a,e0,?_⟩;rcases h3 with⟨kvs,e,e1,e2⟩|⟨kvs,e,e1,e2⟩|⟨kvs,o,e,e1,e2⟩
 ·refine .inl ⟨kvs,e,?_,by rw[<-e2];exact h2⟩;exact(pZ (ks:=kvs.map (·.1)) (by rw[Qi];exact e1)).symm
 ·cases kvs with
  |nil=>exact .inr ⟨e,by simpa using e1⟩
  |cons p r=>
   cases al with
   |nil=>cases e1
   |cons q r'=>
    have e1:dQ q.1::kC r'=D.tup (p.1.map dQ)::r.map (λp=>D.tup (p.1.map dQ)):=e1;injection e1 with e1 _;rcases q with⟨k,v⟩
    cases k<;>cases e1
 ·cases al with
  |nil=>cases e1
  |cons q r=>
   have e1:dQ q.1::kC r=D.non::kvs.map (λp=>D.tup (p.1.map dQ)):=e1;injection e1 with e1 _;rcases q with⟨k,v⟩
   cases k<;>cases e1
noncomputable def mL(al:List (Key×D))(q:Key):bB:=(al.find? λp=>decide (p.1=q)).map (·.2)
theorem oT{K:QG}{H:Hp}(q:Key):∀{kvs:List (Key×V)}{al:List (Key×D)},kvs.map (·.1)=al.map (·.1)->aI K H (al.map (·.2)) (kvs.map (·.2))->(lG kvs q=none/\mL al q=none)\/∃v d,lG kvs q=some v/\mL al q=some d/\cz K H d v
 |[],[],_,_=>.inl ⟨rfl,rfl⟩
 |p::r,a::al,e,h=>by
  rw[OH,OH]at e;injection e with e1 e2;rw[OH,OH,aM]at h;obtain⟨v,ws,h0,h1,h2⟩:=h;injection h0 with h0 h0';subst h0 h0';by_cases z:p.1=q
  ·refine .inr ⟨p.2,a.2,oG z,?_,h1⟩;unfold mL;rw[List.find?_cons_of_pos (by rw[<-e1];simpa using z)];rfl
  ·have ih:=oT q e2 h2;have g:mL (a::al) q=mL al q:=by
    unfold mL;rw[List.find?_cons_of_neg (by rw[<-e1];simpa using z)]
   rw[oI z,g];exact ih
 |[],_::_,e,_=>by cases e
 |_::_,[],e,_=>by cases e
noncomputable def Ea(dd k:D):Option (bB):=match dd with
 |.dct ks ds=>(lx ks ds).bind λal=>(keyOf k).map λq=>mL al q
 |_=>none
noncomputable def qD(dd k:D):bB:=(Ea dd k).bind id
noncomputable def iR(x y:D):bB:=(Ea y x).map λo=>.bl (!o.isSome)
theorem sP{dd k:D}{o:bB}(h:Ea dd k=some o):∃al q,dd=uQ al/\k=dQ q/\o=mL al q:=by
 unfold Ea at h;split at h
 ·rename_i ks ds;cases e1:lx ks ds with
  |none=>rw[e1]at h;cases h
  |some al=>
   rw[e1]at h;cases e2:keyOf k with
   |none=>rw[e2]at h;cases h
   |some q=>
    rw[e2]at h;cases h;obtain⟨h1,h2⟩:=tH e1;exact⟨al,q,by rw[h1,h2],pc e2,rfl⟩
 ·cases h
theorem Gm{X:Cx}{pins:bc}{σ:St}{H:Hp}{s:RL}{O:az}{al:List (Key×D)}{q:Key}{x y:V}(I:Inv X pins σ H s)(hb:cz X.K (hid H O) (uQ al) y)(ha:cz X.K (hid H O) (dQ q) x):
  ∃(a:RH)(o:Option V)(H':Hp),y=.ref a/\Inv X pins σ H' s/\xZ H' a x o/\(∀s',Inv X pins σ H' s'->Inv X pins σ H s')/\((o=none/\mL al q=none)\/∃v d,o=some v/\mL al q=some d/\cz X.K (hid H O) d v):=by
 obtain⟨a,ey,hh⟩:=tX hb;have ex:=oM ha;subst ex;rcases hh with⟨kvs,k1,k2,k3⟩|⟨k1,rfl⟩
 ·exact⟨a,lG kvs q,H,ey,I,xZ.k ((aF H O) _ _ k1),λs' z=>z,oT q k2 k3⟩
 ·have k1':=(aF H O) _ _ k1;refine⟨a,lG [] q,upd H a (.dK []),ey,JZ I k1',xZ.k bi,λs' I4=>?_,.inl ⟨rfl,rfl⟩⟩;have I5:=JP I4 bi;rw[AH k1']at I5;exact I5
section
variable{X:Cx}
theorem qi(hu:X.A.units+64<Sl):gZ X (R3 .NotIn) (rD X.K iR):=by
 rintro pins s σ H x y u v Q I rx ry ⟨O,a,b,d,hO,ha,hb,hg,q⟩;unfold iR at hg;cases e:Ea b a with
 |none=>rw[e]at hg;cases hg
 |some o=>
  rw[e]at hg;cases hg;obtain⟨al,qk,rfl,rfl,rfl⟩:=sP e;obtain⟨p,o,H',ey,I',g,bk,z⟩:=Gm I hb ha;subst ey;cases ry;refine C7 ‹0› I' g rx λs3 I3=>⟨.bl (!o.isSome),H,bk s3 I3,rfl,q _ H (aP.refl H) (iT.mpr ?_)⟩
  rcases z with⟨z1,z2⟩|⟨v,d,z1,z2,_⟩<;>rw[z1,z2]<;>rfl
end
noncomputable def wu:List (FX×FX)->ao->R (List (D×D))
 |[],_=>.ok []
 |(fk,fv)::r,ρ=>(fk ρ).bind λk=>(fv ρ).bind λv=>(wu r ρ).bind λps=>.ok ((k,v)::ps)
noncomputable def jD:List (D×D)->Option (List (Key×D))
 |[]=>some []
 |(k,v)::r=>(keyOf k).bind λk=>(jD r).map ((k,v)::·)
noncomputable def zL(al:List (Key×D)):List (Key×D):=al.foldl (λm p=>uy m p.1 p.2) []
noncomputable def nD(ps:List (D×D)):bB:=(jD ps).bind λal=>if decide (al.length<=15)then some (uQ (zL al))else none
noncomputable def gK(fs:List (FX×FX)):FX:=λρ=>(Bl (wu fs ρ)).bind λps=>rO (nD ps)
theorem lT:∀{ps:List (D×D)}{al:List (Key×D)},jD ps=some al->ps=al.map λp=>(dQ p.1,p.2)
 |[],_,h=>by cases h;rfl
 |(k,v)::r,al,h=>by
  unfold jD at h;cases e1:keyOf k with
  |none=>rw[e1]at h;cases h
  |some k'=>
   rw[e1]at h;cases e2:jD r with
   |none=>rw[e2]at h;cases h
   |some al'=>
    rw[e2]at h;cases h;rw[OH,lT e2,pc e1]
section
variable{X:Cx}
theorem uP{σ:St}{O:az}{ρ:ao}:∀{fs:List (FX×FX)}{ps:List (D×D)}{H:Hp}{Q:List (V×V)->Hp->Prop},wu fs ρ=.ok ps->dD X.K O H ρ σ->
  (∀(vs:List (V×V)) H',aP H H'->aI X.K (hid H' O) (ps.map (·.1)) (vs.map (·.1))->aI X.K (hid H' O) (ps.map (·.2)) (vs.map (·.2))->Q vs H')->rB (fs.map λp=>(tF X p.1,tF X p.2)) σ H Q
 |[],ps,H,Q,e,E,q=>by
  cases e;exact q [] H (aP.refl H) (cw.mpr rfl) (cw.mpr rfl)
 |(fk,fv)::r,ps,H,Q,e,E,q=>by
  unfold wu at e;cases e1:fk ρ with
  |error z=>rw[e1]at e;cases e
  |ok k=>
   rw[e1]at e;have e:(fv ρ).bind (λv=>(wu r ρ).bind λps=>.ok ((k,v)::ps))=.ok ps:=e;cases e2:fv ρ with
   |error z=>rw[e2]at e;cases e
   |ok v=>
    rw[e2]at e;have e:(wu r ρ).bind (λps=>(.ok ((k,v)::ps):R (List (D×D))))=.ok ps:=e;cases e3:wu r ρ with
    |error z=>rw[e3]at e;cases e
    |ok ps'=>
     rw[e3]at e;cases e;refine⟨O,ρ,E,?_⟩;show eQ X σ O H (fk ρ) _;rw[e1];intro x H1 s1 d1;refine⟨O,ρ,E.same s1,?_⟩;show eQ X σ O H1 (fv ρ) _;rw[e2];intro y H2 s2 d2;refine uP e3 ((E.same s1).same s2) λvs H3 s3 d3 d4=>q ((x,y)::vs) H3 ((s1.trans s2).trans s3) ?_ ?_
     ·exact aM.mpr ⟨x,_,rfl,d1.mono (cf (s2.trans s3)),d3⟩
     ·exact aM.mpr ⟨y,_,rfl,d2.mono (cf s3),d4⟩
theorem jt{K:QG}{H:Hp}:∀{al:List (Key×D)}{vs:List (V×V)},aI K H ((al.map λp=>(dQ p.1,p.2)).map (·.1)) (vs.map (·.1))->aI K H ((al.map λp=>(dQ p.1,p.2)).map (·.2)) (vs.map (·.2))->
  ∃kvs:List (Key×V),vs=kvs.map (λkv=>(kV kv.1,kv.2))/\kvs.map (·.1)=al.map (·.1)/\aI K H (al.map (·.2)) (kvs.map (·.2))
 |[],[],_,_=>⟨[],rfl,rfl,cw.mpr rfl⟩
 |[],_::_,h,_=>by rw[O3,O3,cw]at h;cases h
 |_::_,[],h,_=>by
  rw[OH,OH,aM]at h;obtain⟨_,_,e,_⟩:=h;cases e
 |p::al,w::vs,h1,h2=>by
  rw[OH,OH,OH,aM]at h1 h2;obtain⟨a,as,ea,ha,has⟩:=h1;obtain⟨b,bs,eb,hb,hbs⟩:=h2;injection ea with ea eas;injection eb with eb ebs;subst ea eas eb ebs;obtain⟨kvs,e1,e2,e3⟩:=jt has hbs;refine⟨(p.1,w.2)::kvs,?_,by rw[OH,OH,e2],aM.mpr ⟨w.2,_,rfl,hb,e3⟩⟩;rw[OH,e1,<-oM ha]
theorem oA{K:QG}{H:Hp}:∀{al:List (Key×D)}{kvs:List (Key×V)}{al0:List (Key×D)}{kvs0:List (Key×V)},kvs.map (·.1)=al.map (·.1)->aI K H (al.map (·.2)) (kvs.map (·.2))->kvs0.map (·.1)=al0.map (·.1)->aI K H (al0.map (·.2)) (kvs0.map (·.2))->
  (kvs.foldl (λacc kv=>putK acc kv.1 kv.2) kvs0).map (·.1)=(al.foldl (λm p=>uy m p.1 p.2) al0).map (·.1)/\aI K H ((al.foldl (λm p=>uy m p.1 p.2) al0).map (·.2)) ((kvs.foldl (λacc kv=>putK acc kv.1 kv.2) kvs0).map (·.2))
 |[],[],_,_,_,_,e0,h0=>⟨e0,h0⟩
 |p::al,kv::kvs,al0,kvs0,e,h,e0,h0=>by
  rw[OH,OH]at e;injection e with e1 e2;rw[OH,OH,aM]at h;obtain⟨v,ws,h1,h2,h3⟩:=h;injection h1 with h1 h1';subst h1 h1';rw[Qf,Qf];rw[e1];exact oA e2 h3 (wZ e0 p.1 kv.2 p.2) (zh h2 e0 h0)
 |[],_::_,_,_,e,_,_,_=>by cases e
 |_::_,[],_,_,e,_,_,_=>by cases e
theorem oJ{pos:Pos}{keys:List (Option RJ)}{values:aZ}{fs:List (FX×FX)}(h:G9 X pos keys values (fs.map λp=>(tF X p.1,tF X p.2)))(hall:keys.all (·.isSome)=true)(hl:keys.length=values.length)(h0:keys≠[])(h15:keys.length<=15):
  FE X (.Dict keys values pos) (gK fs):=PE.weak (vY h hall hl h0 h15) λσ H Q ⟨O,ρ,E,hF⟩ p hp=>by
 unfold gK at hF;cases e:wu fs ρ with
 |error z=>rw[e]at hF;exact hF.elim
 |ok ps=>
  rw[e]at hF;obtain⟨d,hg,q⟩:=eQ.rO (show eQ X σ O H (rO (nD ps)) _ from hF);unfold nD at hg;cases ek:jD ps with
  |none=>rw[ek]at hg;cases hg
  |some al=>
   rw[ek]at hg;obtain⟨z15,hd⟩:=aY (show(if decide (al.length<=15)then some (uQ (zL al))else none)=some d from hg);have z15:=of_decide_eq_true z15;subst hd;have e0:=lT ek;subst e0;refine uP e (E.hideNew (o:=.dK []) trivial hp) λvs H2 s2 d1 d2=>?_;obtain⟨kvs,e1,e2,e3⟩:=jt d1 d2;have hp2:H2 p=some (.dK []):=s2 _ _ bi;have pO:p∉O:=E.all.not hp;refine⟨hp2,kvs,e1,?_,q _ _ ?_ ?_⟩
   ·have:=congrArg List.length e2
    rw[OI,OI]at this;omega
   ·intro b u hb;have ne:=aL hb hp;rw[aK ne];exact s2 b u (by rw[aK ne];exact hb)
   ·have sm:aP (hid H2 (p::O)) (hid (upd H2 p (.dK (iL [] kvs))) O):=(jQ Ot).trans (g9 λa ha=>Ou _ ha);obtain⟨f1,f2⟩:=oA (al0:=[]) (kvs0:=[]) e2 (e3.mono sm) rfl (cw.mpr rfl);refine Ji.mpr ⟨p,_,rfl,f2,.inl ⟨iL [] kvs,by rw[mz pO];exact bi,?_,rfl⟩⟩;exact vO f1
end
end TG
namespace TG
open PySem PySem.Spec PySem.Calls L2
variable[au]
end TG
namespace TG
open PySem PySem.Spec L2
variable[au]
noncomputable def Aj:FX:=λ_=>un
end TG
namespace TG
open PySem PySem.Spec PySem.Calls L2
variable[au]
section
variable{X:Cx}{pos:Pos}
theorem xO{pos:Pos}{keys:List (Option RJ)}{values:aZ}{fs:List (FX×FX)}(h:G9 X pos keys values (fs.map λp=>(tF X p.1,tF X p.2)))(hall:keys.all (·.isSome)=true)(hl:keys.length=values.length)(h0:keys≠[])(h15:keys.length<=15):
  FN X (.Dict keys values pos) (gK fs):=PE.weak (vY h hall hl h0 h15) λσ H Q ⟨O,ρ,E,hF⟩ p hp=>by
 unfold gK at hF;cases e:wu fs ρ with
 |error z=>rw[e]at hF;exact hF.elim
 |ok ps=>
  rw[e]at hF;obtain⟨d,hg,q⟩:=eQ.rO (show eQ X σ O H (rO (nD ps)) _ from hF);unfold nD at hg;cases ek:jD ps with
  |none=>rw[ek]at hg;cases hg
  |some al=>
   rw[ek]at hg;obtain⟨z15,hd⟩:=aY (show(if decide (al.length<=15)then some (uQ (zL al))else none)=some d from hg);have z15:=of_decide_eq_true z15;subst hd;have e0:=lT ek;subst e0;refine uP e (E.hideNew (o:=.dK []) trivial hp) λvs H2 s2 d1 d2=>?_;obtain⟨kvs,e1,e2,e3⟩:=jt d1 d2;have hp2:H2 p=some (.dK []):=s2 _ _ bi;refine⟨hp2,kvs,e1,?_,q p _ ?_ hp ⟨_,bi,trivial⟩ ?_⟩
   ·have:=congrArg List.length e2
    rw[OI,OI]at this;omega
   ·intro b u hb;have ne:=aL hb hp;rw[aK ne];exact s2 b u (by rw[aK ne];exact hb)
   ·have sm:aP (hid H2 (p::O)) (hid (upd H2 p (.dK (iL [] kvs))) (p::O)):=jQ Ot;obtain⟨f1,f2⟩:=oA (al0:=[]) (kvs0:=[]) e2 (e3.mono sm) rfl (cw.mpr rfl);exact⟨_,_,bi,f2,.inl ⟨iL [] kvs,rfl,vO f1,rfl⟩⟩
end
end TG
namespace TG
open PySem PySem.Spec PySem.Calls L2
variable[au]
end TG
namespace L2
open PySem PySem.Spec PyProof.Rows
end L2
namespace TG
open PySem PySem.Spec L2
variable[au]
end TG
namespace TX
open PySem PySem.Spec L2 TG
variable[au]
structure XE(X:Cx)(e:RJ)(F:FX):Prop where h:FE X e F
structure XT(X:Cx)(e:RJ)(F:bZ):Prop where h:FT X e F
structure XW(X:Cx)(e:RJ)(F:bZ):Prop where h:FW X e F
structure XA(X:Cx)(e:aZ)(F:aS):Prop where h:FA X e F
structure XS(X:Cx)(e:RK)(F:bE):Prop where h:FS X e F
structure su(X:Cx)(e:dM)(F:bE):Prop where h:Mv X e F
structure XI(X:Cx)(t e:RJ)(F:aS):Prop where h:FI X t e F
structure XG(X:Cx)(e:RJ)(F:GF):Prop where h:FG X e F
structure GK(X:Cx)(e:aZ)(F:Bi):Prop where h:MU X e F
structure XO(X:Cx)(e:Option RJ)(F:ao->R dA):Prop where h:FO X e F
structure XN(X:Cx)(e:RJ)(F:FX):Prop where h:FN X e F
structure Hm(X:Cx)(e:aZ)(F:bZ):Prop where h:Mp X e F
structure XV(X:Cx)(e:RJ)(i:Nat):Prop where h:PE X e (uA i)
structure XB(X:Cx)(scope:RW)(N:av)(tg elt:RJ)(ifs:aZ)(g:GF)(C:bZ)(Fe:FX)(cl:mH)(C':RH)(fp:az)(s:RL)(H:Hp)(E:bX):Prop where
 a:XG (cg X scope N cl C' fp s H E) tg g
 b:Hm (cg X scope N cl C' fp s H E) ifs C
 c:XE (cg X scope N cl C' fp s H E) elt Fe
structure pM(X:Cx)(scope:RW)(N:av)(tg elt:RJ)(ifs:aZ)(g:GF)(C:bZ)(Fe:FX):Prop where
 q:∀cl C' fp s H E,XB X scope N tg elt ifs g C Fe cl C' fp s H E
theorem pM.h{X:Cx}{scope:RW}{N:av}{tg elt:RJ}{ifs:aZ}{g:GF}{C:bZ}{Fe:FX}(x:pM X scope N tg elt ifs g C Fe):Mu X scope N tg elt ifs g C Fe:=λcl C' fp s H E=>⟨(x.q cl C' fp s H E).a.h,(x.q cl C' fp s H E).b.h,(x.q cl C' fp s H E).c.h⟩
theorem xv{X:Cx}(i:Nat){x:Str}{pos:Pos}(hN:X.N[i]?=some x:=by rfl)(hv:Ha X.env.scope x:=by first|exact Or.inl rfl|exact Or.inr (Or.inl rfl)|exact Or.inr (Or.inr rfl))(hd:(x==("__debug__":Str))=false:=by decide)
  (hcd:(x==("__classdict__":Str))=false:=by decide):XV X (.Name x pos) i:=⟨pv i hN hv hd hcd⟩
theorem Mq{X:Cx}{e:RJ}{f:bZ}(h:XW X e f):XT X e f:=⟨FW.ft h.h⟩
section
variable[au]{X:Cx}
theorem Cu{i:Nat}{x:Str}{pos:Pos}(h:XV X (.Name x pos) i):XE X (.Name x pos) (ae i):=⟨PE.weak h.h λσ H Q ⟨O,ρ,E,hF⟩=>by
  obtain⟨d,e,q⟩:=wg hF;obtain⟨v,e,dv⟩:=E.val i d e;exact⟨v,e,q v H (aP.refl H) dv⟩⟩
theorem B1{i j pos}:XE X (.Constant (.int i) j pos) (fC (.int i)):=⟨jo Ai λ_ _=>eM.mpr rfl⟩
theorem G3{b j pos}:XE X (.Constant (.bool b) j pos) (fC (.bl b)):=⟨jo Iw λ_ _=>iT.mpr rfl⟩
theorem Cb{j pos}:XE X (.Constant .none j pos) (fC .non):=⟨jo Gy λ_ _=>iI.mpr rfl⟩
theorem Dq{x j pos}:XE X (.Constant (.str x) j pos) (fC (.str x)):=⟨jo GZ λ_ _=>eF.mpr rfl⟩
theorem B7:XA X [] af:=⟨TG.Kp ⟩
theorem AY{e:RJ}{es:aZ}{f:FX}{g:aS}(he:XE X e f)(hs:XA X es g)(hns:noStar e=true:=by rfl):XA X (e::es) (ac f g):=⟨TG.Jc he.h hs.h hns⟩
theorem DA{es:aZ}{g:aS}{k pos}(h:XA X es g):XE X (.Tuple es k pos) (aO g):=⟨PE.weak (GR h.h) λσ H Q ⟨O,ρ,E,hF⟩=>⟨O,ρ,E,(eQ.bind hF).imp λxs hF vs H1 s1 d1=>by
  obtain⟨d,e,q⟩:=eQ.rO hF;obtain⟨hz,e⟩:=aY e;subst e;refine⟨by rw[<-d1.length];exact dE hz,λp hp=>?_⟩;exact q _ _ (s1.trans (du hp _)) (d9 (E.all.same s1) hp d1)⟩⟩
theorem Du{es:aZ}{g:aS}{pos}(h:XA X es g):XE X (.List es pos) (dC g):=⟨PE.weak (zo h.h) λσ H Q ⟨O,ρ,E,hF⟩=>⟨O,ρ,E,(eQ.bind hF).imp λxs hF vs H1 s1 d1=>by
  obtain⟨d,e,q⟩:=eQ.rO hF;obtain⟨hz,e⟩:=aY e;subst e;refine⟨by rw[<-d1.length];exact dE hz,λp hp=>?_⟩;exact q _ _ (s1.trans (du hp _)) (jp (E.all.same s1) hp d1)⟩⟩
theorem iS{a b:RJ}{op:Operator}{r:R2}{g:D->D->bB}{fa fb:FX}{pos:Pos}(ho:gZ X (Se op) r)(s:dh X.K r g)(ha:XE X a fa)(hb:XE X b fb):XE X (.BinOp a op b pos) (f2 g fa fb):=⟨PE.weak (IP ho ha.h hb.h) (rJ s)⟩
theorem fT{a b:RJ}{op:R1}{r:R2}{g:D->D->bB}{fa fb:FX}{pos:Pos}(ho:gZ X (R3 op) r)(s:dh X.K r g)(ha:XE X a fa)(hb:XE X b fb)(hm:R4 op b=false):XE X (.Compare a [op] [b] pos) (f2 g fa fb):=⟨PE.weak (Cm ho ha.h hb.h hm) (rJ s)⟩
theorem fU{a b:RJ}{op:R1}{r:R2}{g:D->D->bB}{fa fb:FX}{pos:Pos}(ho:gZ X (R3 op) r)(s:dh X.K r g)(ha:XE X a fa)(hb:XE X b fb)(hm:R4 op b=false):XT X (.Compare a [op] [b] pos) (fB (f2 g fa fb)):=⟨PT.weak (DQ ho ha.h hb.h hm) (oz (rJ s))⟩
end
section
variable[au]{X:Cx}{a b c:RJ}{rest:aZ}{pos:Pos}{f g:bZ}
theorem CM(h:XT X a f):XT X (.UnaryOp .Not a pos) (jg f):=⟨PT.weak (Gs h.h) λσ H Q ⟨O,ρ,E,hF⟩=>⟨O,ρ,E,(eQ.bind hF).imp λb q H1 s1=>q H1 s1⟩⟩
theorem y9(h:XT X a f):XW X (.BoolOp .And [a] pos) f:=⟨DB h.h⟩
theorem CH(h:XT X a f):XW X (.BoolOp .Or [a] pos) f:=⟨EB h.h⟩
theorem C5(ha:XT X a f)(hb:XW X (.BoolOp .And (b::rest) pos) g):XW X (.BoolOp .And (a::b::rest) pos) (mJ f g):=⟨PW.weak (Gx ha.h hb.h) λσ H Q ⟨O,ρ,E,hF⟩=>⟨O,ρ,E,(eQ.bind hF).imp λc hF H1 s1=>by
 cases c with
 |true=>exact sQ ⟨O,ρ,E.same s1,(hF.mono s1).imp λb q H2 s2=>q H2 (s1.trans s2)⟩
 |false=>exact sW (hF H1 s1)⟩⟩
theorem GA(ha:XT X a f)(hb:XW X (.BoolOp .Or (b::rest) pos) g):XW X (.BoolOp .Or (a::b::rest) pos) (vm f g):=⟨PW.weak (Ie ha.h hb.h) λσ H Q ⟨O,ρ,E,hF⟩=>⟨O,ρ,E,(eQ.bind hF).imp λc hF H1 s1=>by
 cases c with
 |false=>exact sW ⟨O,ρ,E.same s1,(hF.mono s1).imp λb q H2 s2=>q H2 (s1.trans s2)⟩
 |true=>exact sQ (hF H1 s1)⟩⟩
end
section
variable[au]{X:Cx}{a b c:RJ}{rest:aZ}{pos:Pos}{f g:bZ}{fa fb:FX}
theorem B5{op}(h:XE X a fa):XE X (.BoolOp op [a] pos) fa:=⟨EW h.h⟩
theorem Dn(ha:XE X a fa)(hb:XE X (.BoolOp .And (b::rest) pos) fb):XE X (.BoolOp .And (a::b::rest) pos) (gB fa fb):=⟨PE.weak (G2 ha.h hb.h) λσ H Q ⟨O,ρ,E,hF⟩=>⟨O,ρ,E,(eQ.bind hF).imp λd hF x H1 s1 d1=>by
 cases d with
 |bl c=>
  refine⟨c,iT.mp d1,?_⟩;cases c with
  |true=>exact sQ ⟨O,ρ,E.same s1,(hF.mono s1).imp λd q v H2 s2 d2=>q v H2 (s1.trans s2) d2⟩
  |false=>exact sW (hF _ H1 s1 (iT.mpr rfl))
 |_=>exact hF.elim⟩⟩
theorem Es(ha:XE X a fa)(hb:XE X (.BoolOp .Or (b::rest) pos) fb):XE X (.BoolOp .Or (a::b::rest) pos) (AR fa fb):=⟨PE.weak (Iz ha.h hb.h) λσ H Q ⟨O,ρ,E,hF⟩=>⟨O,ρ,E,(eQ.bind hF).imp λd hF x H1 s1 d1=>by
 cases d with
 |bl c=>
  refine⟨c,iT.mp d1,?_⟩;cases c with
  |false=>exact sW ⟨O,ρ,E.same s1,(hF.mono s1).imp λd q v H2 s2 d2=>q v H2 (s1.trans s2) d2⟩
  |true=>exact sQ (hF _ H1 s1 (iT.mpr rfl))
 |_=>exact hF.elim⟩⟩
theorem CJ(ha:XE X a fa):XE X (.UnaryOp .Not a pos) (tx fa):=⟨PE.weak (EI ha.h) λσ H Q ⟨O,ρ,E,hF⟩=>⟨O,ρ,E,(eQ.bind hF).imp λd hF x H1 s1 d1=>by
 obtain⟨d',e,q⟩:=eQ.rO hF;cases d with
 |bl c=>
  cases e;exact⟨c,iT.mp d1,q _ H1 s1 (iT.mpr rfl)⟩
 |_=>cases e⟩⟩
theorem FH(hc:XT X c f)(ha:XE X a fa)(hb:XE X b fb):XE X (.IfExp c a b pos) (vd f fa fb):=⟨PE.weak (Ac hc.h ha.h hb.h) λσ H Q ⟨O,ρ,E,hF⟩=>⟨O,ρ,E,(eQ.bind hF).imp λd hF H1 s1=>by
 cases d with
 |true=>exact sQ ⟨O,ρ,E.same s1,(hF.mono s1).imp λd q v H2 s2 d2=>q v H2 (s1.trans s2) d2⟩
 |false=>exact sW ⟨O,ρ,E.same s1,(hF.mono s1).imp λd q v H2 s2 d2=>q v H2 (s1.trans s2) d2⟩⟩⟩
end
section
variable[au]{X:Cx}
theorem EC{a b:RJ}{fa fb:FX}{pos:Pos}(ha:XE X a fa)(hb:XE X b fb)(hs:sh b):XE X (.Subscript a b pos) (f2 ai fa fb):=⟨PE.weak (Ib K2 ha.h hb.h hs) (rJ bK)⟩
theorem AD:XO X none gA:=⟨λpins s σ H Q I ⟨O,ρ,E,q⟩=>B3 pins s σ H Q I (q H (aP.refl H))⟩
theorem Ah{e:RJ}{f:FX}(h:XE X e f):XO X (some e) (nM f):=⟨λpins s σ H Q I ⟨O,ρ,E,hF⟩=>
 C1 h.h pins s σ H Q I ⟨O,ρ,E,(eQ.bind hF).imp λd hF v H1 s1 d1=>by
  obtain⟨o,e,q⟩:=eQ.rO hF;cases d with
  |int i=>
   cases e;exact⟨i,eM.mp d1,q H1 s1⟩
  |_=>cases e⟩⟩
theorem xH{e:RJ}{f:FX}{l h:ao->R dA}{lo hi:Option RJ}{p2 pos:Pos}(he:XE X e f)(hl:XO X lo l)(hh:XO X hi h):XE X (.Subscript e (.Slice lo hi none p2) pos) (js f l h):=⟨PE.weak (zB Lq he.h hl.h hh.h) λσ H Q ⟨O,ρ,E,hF⟩=>⟨O,ρ,E,(eQ.bind hF).imp λa hF x H1 s1 d1=>⟨O,ρ,E.same s1,((eQ.bind hF).mono s1).imp λlo' hF H2 s2=>⟨O,ρ,E.same (s1.trans s2),((eQ.bind hF).mono (s1.trans s2)).imp λhi' hF H3 s3=>by
  obtain⟨d,e,q⟩:=eQ.rO hF;exact⟨O,a,d,E.all.same ((s1.trans s2).trans s3),d1.mono (cf (s2.trans s3)),e,λv H4 s4 d4=>q v H4 (((s1.trans s2).trans s3).trans s4) d4⟩⟩⟩⟩⟩
end
section
variable[au]{X:Cx}{x:Str}{p pos:Pos}{e:RJ}{es:aZ}{id T:String}{g:List D->bB}{f:aS}
theorem iB(hc:eJ X (.builtin id) (A8 X.K g))(hg:Gl X x)(hm:X.mg x=none)(hv:RU x=some (.builtin id))(ha:XA X (e::es) f)(hn:x≠"__name__":=by decide)(hdb:(x==("__debug__":Str))=false:=by decide)(hns:(e::es).all noStar=true:=by rfl):XE X (.Call (.Name x p) (e::es) [] pos) (fL g f):=⟨PE.weak (oQ hc hg hm hv ha.h hn hdb (dm (O0 _ _ ▸ hns).1) (eE (O0 _ _ ▸ hns).2)) (zU pD)⟩
theorem oy(hc:eJ X (.type T) (A8 X.K g))(hg:Gl X x)(hm:X.mg x=none)(hv:RU x=some (.type T))(ha:XA X (e::es) f)(hn:x≠"__name__":=by decide)(hdb:(x==("__debug__":Str))=false:=by decide)(hns:(e::es).all noStar=true:=by rfl):XE X (.Call (.Name x p) (e::es) [] pos) (fL g f):=⟨PE.weak (xL hc hg hm hv ha.h hn hdb (dm (O0 _ _ ▸ hns).1) (eE (O0 _ _ ▸ hns).2)) (zU pD)⟩
theorem n8{f:FX}{xT:Str}{p2:Pos}(ok:uo X.K T)(hg:Gl X "isinstance")(hm:X.mg "isinstance"=none)(hgT:Gl X xT)(hmT:X.mg xT=none)(hvT:RU xT=some (.type T))(he:XE X e f)(hn2:xT≠"__name__":=by decide)(hd2:(xT==("__debug__":Str))=false:=by decide)(hns:noStar e=true:=by rfl):XE X (.Call (.Name "isinstance" p) [e,.Name xT p2] [] pos) (n6 T f):=⟨PE.weak (oQ (AC ok) hg hm sX (jW he.h (jW (Cv (v:=.ty T) hgT hmT hvT rfl hn2 hd2) rG (dm rfl)) (dm hns)) (by decide) (by decide) (dm hns) (eE rfl)) λσ H Q ⟨O,ρ,E,hF⟩=>⟨O,ρ,E,(eQ.bind hF).imp λa hF v H1 s1 d1=>by
  obtain⟨d,e,q⟩:=eQ.rO hF;obtain⟨h1,h2⟩:=aY e;subst h2;exact⟨O,v,a,rfl,h1,d1,q _ H1 s1 (iT.mpr rfl)⟩⟩⟩
end
section
variable[au]{X:Cx}{a:RJ}{f:FX}{pos:Pos}
theorem B8{j pos'}(h:XE X a f):XE X (.Compare a [.Is] [.Constant .none j pos'] pos) (sZ f):=⟨PE.weak (G4 (AF h.h)) λσ H Q q=>vo σ H Q q⟩
theorem C9{j pos'}(h:XE X a f):XT X (.Compare a [.Is] [.Constant .none j pos'] pos) (fB (sZ f)):=⟨PT.weak (E8 (AF h.h)) λσ H Q q=>oz (t:=λσ H Q=>tF X f σ H λv H'=>Q (.bl (decide (v=.non))) H') vo σ H Q q⟩
theorem xP(h:XE X a f)(he:∀whole,isTrue a X.env whole=(do let v<-whole;standAt a.pos;holding [v] (truthy v)):=by intro _;rfl):XT X a (aJ f):=⟨PT.weak (yE h.h he) λσ H Q ⟨O,ρ,E,hF⟩=>⟨O,ρ,E,(eQ.bind hF).imp λd hF x H1 s1 d1=>by
 obtain⟨r,hF,q⟩:=eQ.rO hF;refine⟨r,?_,q H1 s1⟩;cases d with
 |non=>cases hF;rw[iI.mp d1];rfl
 |bl b=>cases hF;rw[iT.mp d1];rfl
 |int i=>cases hF;rw[eM.mp d1];rfl
 |str y=>
  obtain⟨hz,e⟩:=aY hF;subst e;rw[eF.mp d1];refine⟨dE hz,?_⟩;show(y.length !=0)=((y.length:Int) !=0)
  cases y.length<;>rfl
 |tup xs=>
  cases hF;obtain⟨p,vs,e,g1,g2⟩:=cj.mp d1;rw[e];refine .inr (.inl ⟨vs,cB (aF H1 O) g1,?_⟩);have l:=g2.length;cases xs<;>cases vs<;>first|rfl|(simp at l)
 |lst xs=>
  cases hF;obtain⟨p,vs,e,g1,g2⟩:=cq.mp d1;rw[e];refine .inl ⟨vs,(aF H1 O).seq g1,?_⟩;have l:=g2.length;cases xs<;>cases vs<;>first|rfl|(simp at l)
 |_=>cases hF⟩⟩
end
section
variable[au]{X:Cx}{tg:RJ}
theorem Ds{e:RJ}{f:FX}(h:XE X e f):XI X tg e (cu f):=by
 refine⟨?_⟩;rintro pins s σ H R I ⟨O,ρ,E,hG⟩;have hG':=eQ.bind hG;cases hf:f ρ with
 |error z=>exact vq h.h pins s σ H R I ⟨O,ρ,E,by rw[hf]at hG' ⊢;cases z with|none=>exact hG'.elim|some x=>exact hG'⟩
 |ok d=>
  rw[hf]at hG';obtain⟨ds,e1,q⟩:=eQ.rO (α:=List D) (o:=ph d) hG';cases d with
  |lst xs=>
   cases e1;refine vq h.h pins s σ H R I ⟨O,ρ,E,?_⟩;rw[hf];refine λv H1 s1 d1=>?_;obtain⟨p,vs,ev,g1,g2⟩:=cq.mp d1;exact⟨p,ev,⟨vs,(aF H1 O).seq g1⟩,q _ H1 s1 (xx g1 g2)⟩
  |tup xs=>
   cases e1;refine GC h.h pins s σ H R I ⟨O,ρ,E,?_⟩;rw[hf];refine λv H1 s1 d1=>?_;obtain⟨p,vs,ev,g1,g2⟩:=cj.mp d1;exact⟨p,ev,⟨vs,cB (aF H1 O) g1⟩,q _ H1 s1 (yT g1 g2)⟩
  |_=>cases e1
theorem uv{a:RJ}{f:aS}{p pos:Pos}(hg:Gl X "range")(hm:X.mg "range"=none)(ha:XA X [a] f)(hs:RZ [a] X.env=[(false,eval a X.env)]:=by rfl):XI X tg (.Call (.Name "range" p) [a] [] pos) (fA f):=by
 refine⟨?_⟩;rintro pins s σ H R I ⟨O,ρ,E,hG⟩;refine w8 hg hm ha.h hs pins s σ H R I ⟨O,ρ,E,(eQ.bind hG).imp λes hG' vs H1 s1 d1=>?_⟩;clear hG;obtain⟨ds,hG,q⟩:=eQ.rO hG';clear hG';unfold lP at hG;split at hG
 ·rename_i j;obtain⟨h1,h2⟩:=aY hG;subst h2;obtain⟨j1,j2⟩:=of_decide_eq_true h1;obtain⟨v,ev,dv⟩:=d1.one;exact⟨j,by rw[ev,eM.mp dv],j1,j2,q _ H1 s1 (oZ 0 _)⟩
 ·cases hG
theorem uH{a b:RJ}{f:aS}{p pos:Pos}(hg:Gl X "range")(hm:X.mg "range"=none)(ha:XA X [a,b] f)(hs:RZ [a,b] X.env=[(false,eval a X.env),(false,eval b X.env)]:=by rfl)(hs2:RZ [b] X.env=[(false,eval b X.env)]:=by rfl):XI X tg (.Call (.Name "range" p) [a,b] [] pos) (lA f):=by
 refine⟨?_⟩;rintro pins s σ H R I ⟨O,ρ,E,hG⟩;refine wM hg hm ha.h hs hs2 pins s σ H R I ⟨O,ρ,E,(eQ.bind hG).imp λes hG' vs H1 s1 d1=>?_⟩;clear hG;obtain⟨ds,hG,q⟩:=eQ.rO hG';clear hG';unfold lF at hG;split at hG
 ·rename_i i j;obtain⟨h1,h2⟩:=aY hG;subst h2;rw[O0]at h1;obtain⟨i1,i2⟩:=of_decide_eq_true h1.1;obtain⟨j1,j2⟩:=of_decide_eq_true h1.2;obtain⟨v,w,ev,dv,dw⟩:=d1.two;exact⟨i,j,by rw[ev,eM.mp dv,eM.mp dw],⟨i1,i2,j1,j2⟩,q _ H1 s1 (oZ i _)⟩
 ·cases hG
end
section
variable[au]{X:Cx}{pos:Pos}
theorem zP{i:Nat}{x:Str}(hN:X.N.Nodup)(hi:X.N[i]?=some x)(hx:Loc X.env.scope x)(hf:X.fn x=true\/X.env.scope.names.lookup x=some .local:=by first|exact .inl rfl|exact .inr rfl|assumption):XG X (.Name x pos) (gN i):=by
 refine⟨?_⟩;rintro pins s σ H v u Q I r ⟨O,ρ,d,ρ',E,hd,hg,q⟩;cases hg;have hiσ:i<σ.length:=by rw[I.len];exact(List.getElem?_eq_some_iff.mp hi).1
 refine Ct hN hi hx hf pins s σ H v u Q I r (q _ (E.setV hiσ hd) λj x e nv=>?_);rcases aR e with⟨_,eq⟩|⟨ne,eq⟩
 ·cases eq;exact absurd rfl (nv _)
 ·exact⟨Ox (Ne.symm ne),eq⟩
theorem z6:GK X [] D3:=by
 refine⟨?_⟩;rintro pins s σ H vs us Q I r ⟨O,ρ,ds,ρ',E,hd,hg,q⟩;cases ds with
 |nil=>
  cases hg;rw[cw]at hd;exact C8 pins s σ H vs us Q I r ⟨hd,q _ E λi x e _=>⟨rfl,e⟩⟩
 |cons _ _=>cases hg
theorem xQ{e:RJ}{es:aZ}{g:GF}{h:Bi}(h1:XG X e g)(h2:GK X es h)(hs:(assignEach (e::es) X.env).map (·.2)=assign e X.env::(assignEach es X.env).map (·.2):=by rfl):GK X (e::es) (Ay g h):=by
 refine⟨?_⟩;rintro pins s σ H vs us Q I r ⟨O,ρ,ds,ρ',E,hd,hg,q⟩;cases ds with
 |nil=>cases hg
 |cons d ds=>
  obtain⟨ρ1,e1,e2⟩:=bind_some hg;rw[aM]at hd;obtain⟨v,vr,ev,d1,d2⟩:=hd;exact zD h1.h h2.h hs pins s σ H vs us Q I r ⟨v,vr,ev,O,ρ,d,ρ1,E,d1,e1,λσ1 E1 k1=>⟨O,ρ1,ds,ρ',E1,d2,e2,λσ2 E2 k2=>q σ2 E2 λi x e nv=>by
   obtain⟨a1,a2⟩:=k2 i x e nv;obtain⟨b1,b2⟩:=k1 i x a2 nv;exact⟨a1.trans b1,b2⟩⟩⟩
theorem BI{es:aZ}{k:Nat}{g:Bi}{n:Nat}(hc:X.calm=true)(h:GK X es g)(hn:(assignEach es X.env).length=n:=by rfl)(hst:(assignEach es X.env).findIdx? (·.1)=none:=by rfl):XG X (.Tuple es k pos) (gT n g):=by
 refine⟨?_⟩;rintro pins s σ H v u Q I r ⟨O,ρ,d,ρ',E,hd,hg,q⟩;cases d with
 |tup xs=>
  obtain⟨p,vs,ev,g1,g2⟩:=cj.mp hd;have hg':(if xs.length=n then g xs ρ else none)=some ρ':=hg;by_cases hl:xs.length=n
  ·rw[if_pos hl]at hg';exact GY hc h.h hn hst pins s σ H v u Q I r ⟨p,vs,ev,cB (aF H O) g1,by rw[<-g2.length];exact hl,O,ρ,xs,ρ',E,g2,hg',q⟩
  ·rw[if_neg hl]at hg';cases hg'
 |_=>cases hg
end
section
variable[au]
theorem Ax{X:Cx}:Hm X [] dg:=⟨λpins s σ H Q I ⟨O,ρ,E,q⟩=>Ci pins s σ H Q I (q H (aP.refl H))⟩
theorem yN{X:Cx}{c:RJ}{F:bZ}(h:XT X c F):Hm X [c] F:=⟨CP h.h⟩
end
section
variable[au]{X:Cx}{elt tg iter:RJ}{ifs:aZ}{scope:RW}{pos:Pos}{N:av}{ix:fI}{G:aS}{g:GF}{C:bZ}{Fe:FX}
theorem ER(hc:X.calm=true)(ok:lh X scope N ix)(tk:nZ ix g)(hi:XI X tg iter G)(hb:pM X scope N tg elt ifs g C Fe)(hs:∀x,Sb iter X.env x=pure x:=by intro _;rfl):XE X (.ListComp elt [⟨tg,iter,ifs,0⟩] scope pos) (iC ix G g C Fe):=⟨PE.weak (D8 hc ok.cell ok.kind ok.names ok.free ok.ix hi.h hb.h.k hs) (DZ tk)⟩
end
section
variable[au]{X:Cx}{st:RK}{rest body:dM}{pos:Pos}
theorem yY:su X [] aN:=⟨λHb Ob=>t9.weak Dh λE σ H ⟨O,ρ,k,r,S,hF,hk⟩=>hk.nx O ρ σ H S hF⟩
theorem wG{F1 F2:bE}(h1:XS X st F1)(h2:su X rest F2):su X (st::rest) (ak F1 F2):=⟨λHb Ob=>t9.weak (sM (h1.h Hb Ob) (h2.h Hb Ob)) λE σ H ⟨O,ρ,k,r,S,hF,hk⟩=>
 ⟨O,ρ,{k with nx:=F2 k},r,S,hF,hk.ne,λO' ρ' σ' H' S' e=>⟨O',ρ',k,r,S',e,hk⟩,hk.bk,hk.ct,hk.rt,hk.ex⟩⟩
theorem Av{F1:bE}(h1:XS X st F1):su X [st] F1:=⟨λHb Ob=>vy (h1.h Hb Ob)⟩
theorem BU{e:RJ}{f:FX}(h:XE X e f):XS X (.Return (some e) pos) (aB f):=⟨λHb Ob=>PS.weak (Fa h.h) λE σ H ⟨O,ρ,k,r,S,hF,hk⟩=>
 ⟨O,ρ,S.env,eQ.on hF hk S λd e v H' s' d'=>hk.rt d O v H' e.symm (S.base.same' s') d'⟩⟩
theorem Af:XS X (.Pass pos) aN:=⟨λHb Ob=>PS.weak BG λE σ H ⟨O,ρ,k,r,S,hF,hk⟩=>hk.nx O ρ σ H S hF⟩
theorem BL{x j pos'}:XS X (.Expr (.Constant (.str x) j pos) pos') aN:=⟨λHb Ob=>PS.weak GB λE σ H ⟨O,ρ,k,r,S,hF,hk⟩=>hk.nx O ρ σ H S hF⟩
theorem yw{e:RJ}{f:FX}(h:XE X e f)(hs:swapsWith e none pos.line X.env=pure false:=by rfl):XS X (.Expr e pos) (nU f):=⟨λHb Ob=>PS.weak (vz h.h hs) λE σ H ⟨O,ρ,k,r,S,hF,hk⟩=>
 ⟨O,ρ,S.env,eQ.on hF hk S λd e v H' s' d'=>hk.nx O ρ σ H' (S.same s') e⟩⟩
theorem G6{c:RJ}{a b:dM}{tc:bZ}{A B:bE}(hc:XT X c tc)(ha:su X a A)(hb:su X b B):XS X (.If c a b pos) (dG tc A B):=⟨λHb Ob=>PS.weak (Iu hc.h (ha.h Hb Ob) (hb.h Hb Ob)) λE σ H ⟨O,ρ,k,r,S,hF,hk⟩=>
 ⟨O,ρ,S.env,eQ.on hF hk S fun z e H1 s1=>by
  cases z with
  |true=>exact sQ ⟨O,ρ,k,r,S.same s1,e,hk⟩
  |false=>exact sW ⟨O,ρ,k,r,S.same s1,e,hk⟩⟩⟩
theorem DF{i:Nat}{x:Str}{e:RJ}{f:FX}{pos':Pos}(hN:X.N.Nodup)(hi:X.N[i]?=some x)(hx:Loc X.env.scope x)(he:XE X e f)(hs:swapsWith e (some (.Name x pos')) pos.line X.env=pure false:=by rfl)(hf:X.fn x=true\/X.env.scope.names.lookup x=some .local:=by first|exact .inl rfl|exact .inr rfl|assumption):XS X (.Assign [.Name x pos'] e pos) (aG i f):=⟨qQ (List.getElem?_eq_some_iff.mp hi).1 (yA hN hi hx he.h hs hf)⟩
theorem EZ{elt tg iter:RJ}{ifs:aZ}{scope:RW}{N:av}{ix:fI}{G:aS}{g:GF}{C:bZ}{Fe:FX}{i:Nat}{y:Str}{lpos py spos:Pos}(hN:X.N.Nodup)(hi':X.N[i]?=some y)(hx:Loc X.env.scope y)(hc:X.calm=true)(ok:lh X scope N ix)(tk:nZ ix g)(hi:XI X tg iter G)(hb:pM X scope N tg elt ifs g C Fe)(hsw:swapsWith (.ListComp elt [⟨tg,iter,ifs,0⟩] scope lpos) (some (.Name y py)) spos.line X.env=pure true:=by rfl)(hs:∀x,Sb iter X.env x=pure x:=by intro _;rfl)(hf:X.fn y=true\/X.env.scope.names.lookup y=some .local:=by first|exact .inl rfl|exact .inr rfl|assumption):XS X (.Assign [.Name y py] (.ListComp elt [⟨tg,iter,ifs,0⟩] scope lpos) spos) (aG i (iC ix G g C Fe)):=⟨qQ (List.getElem?_eq_some_iff.mp hi').1 (PS.weak (DT hN hi' hx hc ok.cell ok.kind ok.names ok.free ok.ix hi.h hb.h.k hsw hs hf) λE σ H q=>DZ tk σ H _ q)⟩
theorem C2{tg e:RJ}{f:FX}{g:GF}(he:XE X e f)(hg:XG X tg g)(hs:swapsWithSole [tg] e pos.line X.env=pure false:=by rfl)(hw:swappedStores [tg] e X.env=pure none:=by rfl)(h1:(assignEach [tg] X.env).map (·.2)=[assign tg X.env]:=by rfl):XS X (.Assign [tg] e pos) (DC f g):=⟨λHb Ob=>PS.weak (EV he.h hg.h hs hw h1) λE σ H ⟨O,ρ,k,r,S,hF,hk⟩=>
 ⟨O,ρ,S.env,eQ.on hF hk S fun d e v H1 s1 d1=>by
  cases hg.h:g d ρ with
  |none=>rw[hg.h]at e;exact absurd e.symm hk.ne
  |some ρ1=>
   rw[hg.h]at e;refine⟨O,ρ,d,ρ1,(S.same s1).env,d1,hg.h,λσ' E' own=>hk.nx O ρ1 σ' H1 ((S.same s1).after E' own) e⟩⟩⟩
theorem zT:XS X st cO:=⟨λHb Ob pins s σ H E I ⟨O,ρ,k,r,S,hF,hk⟩=>absurd hF.symm hk.ne⟩
theorem ym{st:dM}:su X st cO:=⟨λHb Ob pins s σ H E I ⟨O,ρ,k,r,S,hF,hk⟩=>absurd hF.symm hk.ne⟩
theorem xR{st:dM}{F:bE}(is:List Nat)(h:su X st F):su X st (fG is F):=⟨λHb Ob=>t9.weak (h.h Hb Ob) λE σ H ⟨O,ρ,k,r,S,hF,hk⟩=>⟨O,TG.kill is ρ,k,r,S.kill is,hF,hk⟩⟩
theorem Cw{tg iter:RJ}{G:aS}{g:GF}{B:bE}(hp:Sa (model X.prog X.w) X.A X.env X.xe)(hc:X.calm=true)(hi:XI X tg iter G)(hg:XG X tg g)(hb:su X body B)(hs:∀x,Sb iter X.env x=pure x:=by intro _;rfl):XS X (.For tg iter body [] pos) (nY G g B):=⟨λHb Ob pins s σ H E I ⟨O,ρ,k,r,S,hF,hk⟩=>by
 have hall:t9 X body (λE σ H=>∃Hb',JQ X Hb' Ob B E σ H):=λpins s σ H E I ⟨Hb',q⟩=>hb.h Hb' Ob pins s σ H E I q;refine Eu hp hc hi.h hg.h hall hs pins s σ H E I ⟨O,ρ,S.env,eQ.on hF hk S λds hF J H1 s1 wk=>?_⟩;have E1:=S.same s1;refine⟨λi m σ H=>m=ds.length-i/\i<=ds.length/\∃O' ρ',eI X.K (lb H1 O Ob) Ob O' H ρ' σ/\dY g B k (ds.drop i) ρ'=r,
  ⟨ds.length,by rw[PF],OL _,O,ρ,E1.loop,by rw[Pl];exact hF⟩,?_⟩
 rintro i m σ' H' ⟨rfl,hi',O',ρ',E',hr⟩;have sD:=AG E1.base E'.base;by_cases hlt:i<ds.length
 ·right;obtain⟨go,yl⟩:=(wk H' O' i E'.env.all sD).1 ds[i] (by simp[hlt]);refine⟨go,λσ2 H2=>ds.length-(i+1)=ds.length-(i+1)/\i+1<=ds.length/\∃O' ρ',eI X.K (lb H1 O Ob) Ob O' H2 ρ' σ2/\dY g B k (ds.drop (i+1)) ρ'=r,λσ2 H2 z=>⟨ds.length-(i+1),by omega,z⟩,λx H2 y=>?_⟩;obtain⟨s2,dx⟩:=yl x H2 y;have E':=E'.same s2;rw[PL hlt]at hr;cases hg':g ds[i] ρ' with
  |none=>
   have hr':(rO (g ds[i] ρ')).bind (λρ1=>B ⟨dY g B k (ds.drop (i+1)),k.nx,dY g B k (ds.drop (i+1)),k.ex⟩ ρ1)=r:=hr;rw[hg']at hr';exact absurd hr'.symm hk.ne
  |some ρ1=>
   have hr':(rO (g ds[i] ρ')).bind (λρ1=>B ⟨dY g B k (ds.drop (i+1)),k.nx,dY g B k (ds.drop (i+1)),k.ex⟩ ρ1)=r:=hr;rw[hg']at hr';refine⟨O',ρ',ds[i],ρ1,E'.env,dx,hg',λσ3 E3 own=>?_⟩;have E3':eI X.K (lb H1 O Ob) Ob O' H2 ρ1 σ3:=E'.after E3 own;exact⟨lb H1 O Ob,O',ρ1,⟨dY g B k (ds.drop (i+1)),k.nx,dY g B k (ds.drop (i+1)),k.ex⟩,r,E3',hr',hk.loop E1.base (λO4 ρ4 σ4 H4 E4 z=>⟨rfl,hlt,O4,ρ4,E4,z⟩) (λO4 ρ4 σ4 H4 E4 z=>⟨rfl,hlt,O4,ρ4,E4,z⟩) rfl rfl rfl rfl⟩
 ·left;have ei:i=ds.length:=by omega
  subst ei;refine⟨(wk H' O' ds.length E'.env.all sD).2 rfl,?_⟩;rw[List.drop_length]at hr;exact hk.nx O' ρ' σ' H' (E'.back E1.base) hr⟩
end
section
variable[au]{X:Cx}{pos:Pos}
theorem DI{es:aZ}{g:aS}(h:XA X es g):XN X (.List es pos) (dC g):=⟨PE.weak (zo h.h) λσ H Q ⟨O,ρ,E,hF⟩=>⟨O,ρ,E,(eQ.bind hF).imp λxs hF vs H1 s1 d1=>by
  obtain⟨d,e,q⟩:=eQ.rO hF;obtain⟨hz,e⟩:=aY e;subst e;refine⟨by rw[<-d1.length];exact dE hz,λp hp=>?_⟩;exact q p _ (s1.trans (du hp _)) (s1.free hp) ⟨_,bi,trivial⟩ (tU hp d1)⟩⟩
theorem C4{i:Nat}{x:Str}{e:RJ}{f:FX}{pos':Pos}(hN:X.N.Nodup)(hi:X.N[i]?=some x)(hx:Loc X.env.scope x)(he:XN X e f)(hs:swapsWith e (some (.Name x pos')) pos.line X.env=pure false:=by rfl)(hf:X.fn x=true\/X.env.scope.names.lookup x=some .local:=by first|exact .inl rfl|exact .inr rfl|assumption):XS X (.Assign [.Name x pos'] e pos) (rj i f):=⟨ql (List.getElem?_eq_some_iff.mp hi).1 (yA hN hi hx he.h hs hf)⟩
end
section
variable[au]
theorem x9{X:Cx}{elt tg iter:RJ}{ifs:aZ}{scope:RW}{N:av}{ix:fI}{G:aS}{g:GF}{C:bZ}{Fe:FX}{i:Nat}{y:Str}{lpos py spos:Pos}(hN:X.N.Nodup)(hi':X.N[i]?=some y)(hx:Loc X.env.scope y)(hc:X.calm=true)(ok:lh X scope N ix)(tk:nZ ix g)(hi:XI X tg iter G)(hb:pM X scope N tg elt ifs g C Fe)(hsw:swapsWith (.ListComp elt [⟨tg,iter,ifs,0⟩] scope lpos) (some (.Name y py)) spos.line X.env=pure true:=by rfl)(hs:∀x,Sb iter X.env x=pure x:=by intro _;rfl)(hf:X.fn y=true\/X.env.scope.names.lookup y=some .local:=by first|exact .inl rfl|exact .inr rfl|assumption):XS X (.Assign [.Name y py] (.ListComp elt [⟨tg,iter,ifs,0⟩] scope lpos) spos) (rj i (iC ix G g C Fe)):=⟨ql (List.getElem?_eq_some_iff.mp hi').1 (PS.weak (DT hN hi' hx hc ok.cell ok.kind ok.names ok.free ok.ix hi.h hb.h.k hsw hs hf) λE σ H q=>Aw tk σ H _ (Em σ H _ q))⟩
theorem Gw{X:Cx}{elt tg iter:RJ}{ifs:aZ}{scope:RW}{pos:Pos}{N:av}{ix:fI}{G:aS}{g:GF}{C:bZ}{Fe:FX}(hc:X.calm=true)(ok:lh X scope N ix)(tk:nZ ix g)(hi:XI X tg iter G)(hb:pM X scope N tg elt ifs g C Fe)(hs:∀x,Sb iter X.env x=pure x:=by intro _;rfl):XN X (.ListComp elt [⟨tg,iter,ifs,0⟩] scope pos) (iC ix G g C Fe):=⟨PE.weak (D8 hc ok.cell ok.kind ok.names ok.free ok.ix hi.h hb.h.k hs) λσ H Q q=>Aw tk σ H _ (Em σ H _ q)⟩
theorem Gc{X : Cx}{i : Nat}{x m : Str}{id : String}{r : V -> aE -> Hp -> VK -> Prop}{u : List D -> List D -> Option (List D)}{e : RJ}{es : aZ}{f : aS}{npos apos cpos pos : Pos}(slot : Slot "list" m id)(hty : typeOf (.builtin id) = pure (.type "method_descriptor"))(hm : Mr X id r)(ok : DX X.K r u)(hx : XV X (.Name x npos) i)(he : XA X (e :: es) f)(hbase : Sh (.Name x npos) m X.env (eval (.Name x npos) X.env) = eval (.Name x npos) X.env := by rfl)(hfew : ((backTo cpos (RZ (e :: es) X.env)).all (fun x => !x.1) && (backToKw cpos (Sj [] X.env)).all (fun x => x.1.isSome)
      && decide ((e::es:aZ).length+([]:List Sv).length+(if([]:List Sv).isEmpty then 0 else 1)<30))=true:=by rfl)(hline:(apos.endLine==cpos.line)=true:=by rfl)(hs:RZ (e::es) X.env=(false,eval e X.env)::RZ es X.env:=by rfl)(hplain:(backTo cpos (RZ es X.env)).any (·.1)=false:=by rfl)(hsw:swapsWith (.Call (.Attribute (.Name x npos) m apos) (e::es) [] cpos) none pos.line X.env=pure false:=by rfl):XS X (.Expr (.Call (.Attribute (.Name x npos) m apos) (e::es) [] cpos) pos) (D5 i u f):=⟨λHb Ob pins s σ H E I ⟨O,ρ,k,rr,S,hF,hk⟩=>by
  unfold D5 at hF;split at hF
  · rename_i xs hxs
    obtain⟨a,ha,haO,hat⟩:=S.env.own i _ hxs;obtain⟨o,vs0,ho,eo,dn⟩:=hat;subst eo;refine vz (HI F.plainAttrs_list slot hty hm hx.h he.h hbase hfew hline hs hplain) hsw pins s σ H E I ⟨.ref a,ha,.inl ⟨rfl,vs0,lM.of ho⟩,O,ρ,S.env,eQ.on hF hk S λds hr vs H1 s1 d1=>?_⟩;have S1:=S.same s1;cases hu1:u xs ds with
    |none=>rw[hu1]at hr;exact absurd hr.symm hk.ne
    |some ys=>
      rw[hu1]at hr;exact ok H1 O a xs ys ds vs0 vs _ S1.env.all haO (s1 _ _ ho) (dn.mono (cf s1)) d1 hu1 λws' v new=>hk.nx O _ σ _ (S1.setO hxs ha trivial (sR haO new)) hr
  ·exact absurd hF.symm hk.ne⟩
theorem Ae{X:Cx}{st:dM}{F:bE}(i:Nat)(h:su X st F):su X st (AW i F):=⟨λHb Ob=>t9.weak (h.h Hb Ob) λE σ H ⟨O,ρ,k,r,S,hF,hk⟩=>by
 obtain⟨O',S'⟩:=S.frz i;exact⟨O',TG.frz i ρ,k,r,S',hF,hk⟩⟩
theorem ul{X:Cx}{k k':Nat}{ps:av}{g:bI}{h:aS}{x:Str}{p pos:Pos}{e:RJ}{es:aZ}(C:Callee X.prog X.w X.K X.mg X.base k x ps g)(hn:Ar ps.length g)(hr:fM k' X.A)(hk:k<=k')(ha:XA X (e::es) h)(hg:Gl X x:=by rfl)(hdb:(x==("__debug__":Str))=false:=by decide)(hns:(e::es).all noStar=true:=by rfl):XE X (.Call (.Name x p) (e::es) [] pos) (fR g h):=by
 refine⟨?_⟩;obtain⟨f,fd,F,b,kp,m⟩:=C;exact PE.weak (zk F (hr.mono hk) hg m kp b ha.h hdb (dm (O0 _ _ ▸ hns).1) (eE (O0 _ _ ▸ hns).2)) (xg hn)
end
section
variable[au]{X:Cx}{a b c:RJ}{fa fb fc:FX}{pos:Pos}
theorem qo{op op':R1}{r r':R2}{g g':D->D->bB}(ho:gZ X (R3 op) r)(s:dh X.K r g)(ho':gZ X (R3 op') r')(s':dh X.K r' g')(ha:XE X a fa)(hb:XE X b fb)(hc:XE X c fc)(hm:lastMarks [op,op'] [b,c]=false:=by with_unfolding_all rfl):XE X (.Compare a [op,op'] [b,c] pos) (fJ g g' fa fb fc):=⟨PE.weak (AO ho ho' ha.h hb.h hc.h hm) (qq s s')⟩
theorem qP{op op':R1}{r r':R2}{g g':D->D->bB}(ho:gZ X (R3 op) r)(s:dh X.K r g)(ho':gZ X (R3 op') r')(s':dh X.K r' g')(ha:XE X a fa)(hb:XE X b fb)(hc:XE X c fc)(hm:lastMarks [op,op'] [b,c]=false:=by with_unfolding_all rfl):XT X (.Compare a [op,op'] [b,c] pos) (fB (fJ g g' fa fb fc)):=⟨PT.weak (As ho ho' ha.h hb.h hc.h hm) (oz (qq s s'))⟩
theorem BJ(ha:XE X a fa):XE X (.UnaryOp .USub a pos) (CZ fa):=⟨PE.weak (Hq Fg ha.h) (Fp λx d v O H Q _ e dv q=>by
 cases x with
 |int i=>cases e;exact⟨i,eM.mp dv,q _ H (aP.refl H) (eM.mpr rfl)⟩
 |_=>cases e)⟩
theorem y8{x:Str}{i:Int}(hg:Gl X x)(hm:∃t,X.mg x=some (.int i t))(hd:(x==("__debug__":Str))=false:=by decide):XE X (.Name x pos) (fC (.int i)):=by
 refine⟨?_⟩;obtain⟨t,m⟩:=hm;exact jo (vI (v:=.int i) hg m ⟨t,rfl⟩ hd) λ_ _=>eM.mpr rfl
end
section
variable[au]{X:Cx}
theorem Cz{a b:RJ}{es:aZ}{k:Nat}{tpos:Pos}{f:aS}{p pos:Pos}(hg:Gl X "zip")(hm:X.mg "zip"=none)(ha:XA X [a,b] f)(hs:RZ [a,b] X.env=(false,eval a X.env)::RZ [b] X.env:=by rfl)(hpl:(backTo pos (RZ [b] X.env)).any (·.1)=false:=by rfl):XI X (.Tuple es k tpos) (.Call (.Name "zip" p) [a,b] [] pos) (Cg f):=by
 refine⟨?_⟩;rintro pins s σ H RR I ⟨O,ρ,E,hG⟩;have hA:=ha.h pos pins s σ H (λvs H1=>∃ds r,zm ds=some r/\aI X.K (hid H1 O) ds vs/\∀J,Walk X.K (hid H1 O) J r->RR J H1) I ⟨O,ρ,E,(eQ.bind hG).imp λds hG vs H1 s1 d1=>by
  obtain⟨r,e,q⟩:=eQ.rO hG;exact⟨ds,r,e,d1,λJ wk=>q J H1 s1 wk⟩⟩
 refine Rz (jm I hg hm PyProof.Rows.boot_zip (Rv (cD hA λus s1 ⟨vs,H1,I1,r1,ds,r,er,d1,q⟩=>?_) hs hpl));exact Gf I1 er d1 r1 q
theorem pP{a:RJ}{es:aZ}{k:Nat}{tpos:Pos}{f:aS}{p pos:Pos}(hg:Gl X "enumerate")(hm:X.mg "enumerate"=none)(ha:XA X [a] f)(hs:RZ [a] X.env=(false,eval a X.env)::RZ [] X.env:=by rfl)(hpl:(backTo pos (RZ [] X.env)).any (·.1)=false:=by rfl):XI X (.Tuple es k tpos) (.Call (.Name "enumerate" p) [a] [] pos) (fh f):=by
 refine⟨?_⟩;rintro pins s σ H RR I ⟨O,ρ,E,hG⟩;have hA:=ha.h pos pins s σ H (λvs H1=>∃ds r,qX ds=some r/\aI X.K (hid H1 O) ds vs/\∀J,Walk X.K (hid H1 O) J r->RR J H1) I ⟨O,ρ,E,(eQ.bind hG).imp λds hG vs H1 s1 d1=>by
  obtain⟨r,e,q⟩:=eQ.rO hG;exact⟨ds,r,e,d1,λJ wk=>q J H1 s1 wk⟩⟩
 refine Rz (jm I hg hm PyProof.Rows.boot_enumerate (Rv (cD hA λus s1 ⟨vs,H1,I1,r1,ds,r,er,d1,q⟩=>?_) hs hpl));exact Cj I1 er d1 r1 q
end
section
variable[au]{X:Cx}{a o e:RJ}{es:aZ}{fa fo:FX}{fas:aS}{f m x:Str}{cs:av}{pos apos p:Pos}{k k':Nat}{ps:av}
theorem CY(ok:aQ X.K f cs)(h:XE X a fa)(hb:Sh a f X.env (eval a X.env)=eval a X.env:=by rfl):XE X (.Attribute a f pos) (f1 (aq f cs) fa):=⟨PE.weak (Fy h.h hb) λσ H Q ⟨O,ρ,E,hF⟩=>⟨O,ρ,E,(eQ.bind hF).imp λd hF v H1 s1 d1=>by
  obtain⟨r,e,q⟩:=eQ.rO hF;cases d with
  |obj c fs vs=>
   have e':(if cs.contains c then(fs.zip vs).lookup f else none)=some r:=e;cases hc:cs.contains c with
   |false=>rw[hc]at e';cases e'
   |true=>
    rw[hc]at e';obtain⟨a,ws,ev,g1,g2,C,dx,g3,g4⟩:=Js.mp d1;obtain⟨w,l1,l2⟩:=pf g1 e';obtain⟨cl,na⟩:=ok c (List.contains_iff_mem.mp hc) C g3;exact⟨a,C,dx,_,w,ev,aF H1 O _ _ g4,cl,na,l1,q w H1 s1 l2⟩
  |_=>cases e⟩⟩
theorem yW{tbl : List (Str × (bI))}{pl : Sem Bool}(tb : o4 X.prog X.w X.K X.mg X.base k m ps tbl)(hr : fM k' X.A)(hk : k <= k')(ho : XE X o fo)(ha : XA X (e :: es) fas)(hns : (e :: es).all noStar = true := by rfl)(ht : eval (.Call (.Attribute o m apos) (e :: es) [] pos) X.env = (do
      let ov<-eval o X.env
      standAt apos.atName
      let (f,first)<-holding [ov] (getMethod ov m pl)
      Si pos f first (backTo pos (RZ (e::es) X.env)) (backToKw pos (Sj [] X.env))):=by rfl):XE X (.Call (.Attribute o m apos) (e::es) [] pos) (cv m tbl fo fas):=⟨tI tb (hr.mono hk) ho.h (λpins s1 σ H1 O ρ a f od Q g fd _ kp F b ar I1 E1 dO hP=>by
    refine QV (first:=[.ref a]) (h₀:=X.base) I1.ok.mod.kin kp (cD (ha.h pos pins s1 σ H1 _ I1 ⟨O,ρ,E1,(eQ.bind hP).imp λas hP vs H2 s2 d2=>pB (vs:=.ref a::vs) ar (E1.all.same s2) (aM.mpr ⟨_,_,rfl,dO.mono (cf s2),d2⟩) ((hP.mono s2).imp λd q v H3 s3 d3=>q v H3 (s2.trans s3) d3)⟩) λus s2 ⟨vs,H2,I2,r,Ex,hx,q2⟩=>⟨I2.kIn,?_⟩) (dm (O0 _ _ ▸ hns).1) (eE (O0 _ _ ▸ hns).2);exact si (us:=.ref a::us) (vs:=.ref a::vs) F (hr.mono hk) b hx I2 (.cons rfl r) q2) ht⟩
theorem wH{tbl : List (Str × (bI))}{pl : Sem Bool}(tb : o4 X.prog X.w X.K X.mg X.base k m ps tbl)(hr : fM k' X.A)(hk : k <= k')(ho : XE X o fo)(ht : eval (.Call (.Attribute o m apos) [] [] pos) X.env = (do
      let ov<-eval o X.env
      standAt apos.atName
      let (f,first)<-holding [ov] (getMethod ov m pl)
      Si pos f first (backTo pos (RZ [] X.env)) (backToKw pos (Sj [] X.env))):=by rfl):XE X (.Call (.Attribute o m apos) [] [] pos) (cv m tbl fo af):=⟨tI tb (hr.mono hk) ho.h (λpins s1 σ H1 O ρ a f od Q g fd _ kp F b ar I1 E1 dO hP=>by
    have hP':eQ X σ O H1 (g [od]) λd=>∀v H',aP H1 H'->cz X.K (hid H' O) d v->Q v H':=hP;obtain⟨Ex,hx,q2⟩:=pB (vs:=[.ref a]) ar E1.all (aM.mpr ⟨_,_,rfl,dO,cw.mpr rfl⟩) hP';exact PySem.W.callWith_K0 (first:=[.ref a]) I1.kIn kp (si (us:=[.ref a]) (vs:=[.ref a]) F (hr.mono hk) b hx I1 (.cons rfl .nil) q2)) ht⟩
theorem BO{c:Str}{fs:av}(IA:cE X.prog X.w X.K X.mg X.base k c ps fs)(hr:fM k' X.A)(hk:k+1<=k')(hg:Gl X c)(ha:XA X (e::es) fas)(hdb:(c==("__debug__":Str))=false:=by decide)(hns:(e::es).all noStar=true:=by rfl):XE X (.Call (.Name c p) (e::es) [] pos) (fNew c fs fas):=by
 refine⟨?_⟩;obtain⟨C,f,fd,h1,h2,h3,h4,h5⟩:=IA;refine PE.weak (Ce (dvs:=[]) (E:=E0) h2 h3 (hr.mono hk) hg h5 h4 .nil HW ha.h hdb (dm (O0 _ _ ▸ hns).1) (eE (O0 _ _ ▸ hns).2)) λσ H Q ⟨O,ρ,E,hF⟩=>⟨O,ρ,E,(eQ.bind hF).imp λas hF vs H1 s1 d1 x dx hx hd ne=>?_⟩
 by_cases hl:as.length=fs.length
 ·rw[if_pos hl]at hF;rw[OM];refine⟨x,dx,vs,rfl,by rw[<-d1.length,hl],by rw[bi],rfl,?_⟩;obtain⟨sm,dn⟩:=tP h1 hl d1 (E.all.same s1) hx hd ne;exact hF _ _ (s1.trans sm) dn
 ·rw[if_neg hl]at hF;exact hF.elim
end
section
variable[au]{X:Cx}{p pos:Pos}{e:RJ}{C:RH}
theorem Dk{f:FX}{x:Str}{p2:Pos}{yes no:av}(h:eL X.K X.mg x yes no)(hg:Gl X "isinstance")(hm:X.mg "isinstance"=none)(hgx:Gl X x)(he:XE X e f)(hd2:(x==("__debug__":Str))=false:=by decide)(hns:noStar e=true:=by rfl):XE X (.Call (.Name "isinstance" p) [e,.Name x p2] [] pos) (f1 (aX yes no) f):=by
 refine⟨?_⟩;obtain⟨C,hC,hy,hn⟩:=h;exact PE.weak (oQ yB hg hm sX (jW he.h (jW (vI (v:=.ref C) hgx hC rfl hd2) rG (dm rfl)) (dm hns)) (by decide) (by decide) (dm hns) (eE rfl)) λσ H Q ⟨O,ρ,E,hF⟩=>⟨O,ρ,E,(eQ.bind hF).imp λa hF v H1 s1 d1=>by
  obtain⟨d,e,q⟩:=eQ.rO hF;unfold aX at e;split at e
  ·rename_i c fs vs;obtain⟨a,ws,rfl,_,_,D,dx,hcl,ha⟩:=Js.mp d1;by_cases h1:yes.contains c=true
   ·rw[if_pos h1]at e;cases e;exact⟨a,D,dx,_,rfl,aF _ _ _ _ ha,.inl ⟨hy c (by simpa using h1) D hcl,q _ H1 s1 (iT.mpr rfl)⟩⟩
   ·rw[if_neg h1]at e;obtain⟨h2,h3⟩:=aY e;subst h3;obtain⟨cl,n⟩:=hn c (by simpa using h2) D hcl;exact⟨a,D,dx,_,rfl,aF _ _ _ _ ha,.inr ⟨cl,n,q _ H1 s1 (iT.mpr rfl)⟩⟩
  ·cases e⟩
end
section
variable[au]{X:Cx}{p pos kp:Pos}{e:RJ}
theorem zR{f:FX}{i:Int}{j:Nat}{cp:Pos}(hc:X.calm=true)(hg:Gl X "max")(hm:X.mg "max"=none)(he:XE X e f)(hns:noStar e=true:=by rfl):XE X (.Call (.Name "max" p) [e] [⟨some "default",.Constant (.int i) j cp,kp⟩] pos) (f1 (qL i) f):=by
 refine⟨?_⟩;rintro pins s σ H Q I ⟨O,ρ,E,hF⟩;refine Su (jm I hg hm wf ?_);have st:backTo pos (RZ [e] X.env)=(false,eval e X.env)::backTo pos (RZ [] X.env):=by rw[dm hns];rfl
 refine PyProof.Rows.callWith_kw ?_ ?_ (eE (by rw[Pn,hns];rfl))
 ·refine cD (jW he.h rG (dm hns) pos pins s σ H (λvs H1=>∃v d a,vs=[v]/\aP H H1/\qL i a=some d/\cz X.K (hid H1 O) a v/\∀v H',aP H H'->cz X.K (hid H' O) d v->Q v H') I ⟨O,ρ,E,(eQ.bind hF).imp λa hF v H1 s1 d1=>?_⟩) λus s1 ⟨vs,H1,I1,rv,v,d,a,ev,s1',hd,dn,q⟩=>?_
  ·obtain⟨d,e,q⟩:=eQ.rO hF;exact⟨v,d,a,rfl,s1,e,d1,q⟩
  ·subst ev;refine cD (Di (kws:=[]) Ai Fv pos pins s1 σ H1 (λzs H2=>zs=[.int i]/\H2=H1) I1 ⟨rfl,rfl⟩) λws s2 ⟨zs,H2,I2,rz,ez,eh⟩=>?_;subst ez eh;obtain⟨u,eu,ru⟩:=vals1 rv;obtain⟨wv,ew,rw'⟩:=vals1 rz;subst eu ew;unfold qL at hd;split at hd
   ·rename_i xs;cases ei:lg xs with
    |none=>rw[ei]at hd;cases hd
    |some ns=>
     rw[ei]at hd;cases hd;have exs:=qy ei;subst exs;obtain⟨l,ys,el,g1,g2⟩:=cq.mp dn;subst el;cases ru;obtain⟨its,ri,pl,hz⟩:=I2.list ((aF H2 O).seq g1);have hlen:its.length=ns.length:=(by rw[<-ri.length,<-g2.length,OI]);refine wm (I2.ok.hd hc) pl.isList (ns:=ns) (λk v hk=>?_) hlen λv h' tk hv kk=>?_
     ·exact v9 g2 ri k v hk
     ·have I3:=I2.kept (t':=tk) kk;have q:∀(v:V)(H':Hp),aP H H'->cz X.K (hid H' O) (.int (if ns.length=0 then i else sB (λk=>ns.getD k 0) ns.length)) v->Q v H':=q;rcases hv with⟨z,rfl⟩|⟨z,t,rfl⟩
      ·rw[if_pos z]at q;exact⟨.int i,H2,I3,rw',q _ H2 s1' (eM.mpr rfl)⟩
      ·rw[if_neg ‹0›]at q;exact⟨.int _,H2,I3,⟨t,rfl⟩,q _ H2 s1' (eM.mpr rfl)⟩
   ·cases hd
 ·exact st
end
section
variable[au]{X:Cx}
theorem zY{o e:RJ}{fo fk:FX}{pos:Pos}(hu:X.A.units+64<Sl)(ho:XE X o fo)(hi:XE X e fk)(hs:GQ e):XE X (.Subscript o e pos) (f2 qD fo fk):=⟨PE.weak (CV ‹0› ho.h hi.h hs) λσ H Q ⟨O,ρ,E,hF⟩=>⟨O,ρ,E,(eQ.bind hF).imp λdd hF v H1 s1 d1=>⟨O,ρ,E.same s1,((eQ.bind hF).mono s1).imp λk hF y H2 s2 d2=>by
  obtain⟨d,hg,q⟩:=eQ.rO hF;unfold qD at hg;cases e:Ea dd k with
  |none=>rw[e]at hg;cases hg
  |some o=>
   rw[e]at hg;have hg:o=some d:=hg;subst hg;obtain⟨al,qk,rfl,rfl,z0⟩:=sP e;obtain⟨a,ea,hh⟩:=tX (d1.mono (cf s2));have ey:=oM d2;subst ey;rcases hh with⟨kvs,k1,k2,k3⟩|⟨_,rfl⟩
   ·rcases oT qk k2 k3 with⟨_,z2⟩|⟨w,d',z1,z2,z3⟩
    ·rw[z2]at z0;cases z0
    ·rw[z2]at z0;cases z0;exact⟨a,w,ea,by rw[<-z1];exact xZ.k ((aF H2 O) _ _ k1),q w H2 (s1.trans s2) z3⟩
   ·cases z0⟩⟩⟩
theorem wV{k v:RJ}{fk fv:FX}{pos:Pos}(hk:XE X k fk)(hv:XE X v fv):XE X (.Dict [some k] [v] pos) (gK [(fk,fv)]):=⟨oJ (fs:=[(fk,fv)]) (gx hk.h hv.h oj) rfl rfl (by simp) (by simp)⟩
theorem xV{k v k' v':RJ}{fk fv fk' fv':FX}{pos:Pos}(hk:XE X k fk)(hv:XE X v fv)(hk':XE X k' fk')(hv':XE X v' fv'):XE X (.Dict [some k,some k'] [v,v'] pos) (gK [(fk,fv),(fk',fv')]):=⟨oJ (fs:=[(fk,fv),(fk',fv')]) (gx hk.h hv.h (gx hk'.h hv'.h oj)) rfl rfl (by simp) (by simp)⟩
theorem xN{k v k' v' k2 v2:RJ}{fk fv fk' fv' fk2 fv2:FX}{pos:Pos}(hk:XE X k fk)(hv:XE X v fv)(hk':XE X k' fk')(hv':XE X v' fv')(hk2:XE X k2 fk2)(hv2:XE X v2 fv2):XE X (.Dict [some k,some k',some k2] [v,v',v2] pos) (gK [(fk,fv),(fk',fv'),(fk2,fv2)]):=⟨oJ (fs:=[(fk,fv),(fk',fv'),(fk2,fv2)]) (gx hk.h hv.h (gx hk'.h hv'.h (gx hk2.h hv2.h oj))) rfl rfl (by simp) (by simp)⟩
end
section
variable[au][au]
theorem AK{X:Cx}{e:RJ}:XE X e Aj:=⟨λpins s σ H Q I ⟨O,ρ,E,h⟩=>h.elim⟩
end
section
variable[au]{X:Cx}{pos:Pos}
theorem xj{k v:RJ}{fk fv:FX}{pos:Pos}(hk:XE X k fk)(hv:XE X v fv):XN X (.Dict [some k] [v] pos) (gK [(fk,fv)]):=⟨xO (fs:=[(fk,fv)]) (gx hk.h hv.h oj) rfl rfl (by simp) (by simp)⟩
end
noncomputable abbrev Lk(K:QG)(f:RH)(nm qual:Str)(st:RK)(oc:RF)(od:Option RH)(kV dc pm:RF)(an:Option RH)(cd ct:RF)(sl:Array (Option RF)):Prop:=K.lookup f=some ⟨oc,od,.func (QX nm qual (iM st) (dS st) (aw st) .none kV dc pm an cd ct),sl⟩
structure vn(P:RN)(w:RM)(K:QG)(mg:cS)(base:RP)(k:Nat)(N:av)(qual:Str)(st:RK)(f:RH)(B:bE):Prop where
 h:∀(cdv:RF)(A:RV)(outer:List Env)(s:RL)(H:Hp)(E:XK),fM k (A.deeper (Rx qual (aw st) s.heap.objs.size f cdv))->Sa (model P w) (A.deeper (Rx qual (aw st) s.heap.objs.size f cdv)) (Rx qual (aw st) s.heap.objs.size f cdv) (jn (lQ P w) P w K mg base N qual (aw st) f cdv A outer s H E).xe->
  su (jn (lQ P w) P w K mg base N qual (aw st) f cdv A outer s H E) (dS st) B
theorem vn.ok{P:RN}{w:RM}{K:QG}{mg:cS}{base:RP}{k:Nat}{N:av}{qual:Str}{st:RK}{f:RH}{B:bE}(h:vn P w K mg base k N qual st f B):BodyOk P w K mg base k N qual st f B:=⟨λcdv A outer s H E hr hp=>(h.h cdv A outer s H E hr hp).h⟩
section
variable{X:Cx}{x:Str}{pos:Pos}
theorem xw(i:Nat)(hN:X.N[i]?=some x:=by rfl)(hv:Ha X.env.scope x:=by first|exact Or.inl rfl|exact Or.inr (Or.inl rfl)|exact Or.inr (Or.inr rfl))(hd:(x==("__debug__":Str))=false:=by decide)(hcd:(x==("__classdict__":Str))=false:=by decide):XE X (.Name x pos) (ae i):=Cu (xv i hN hv hd hcd)
theorem xi{a b:RJ}{fa fb:FX}(ha:XE X a fa)(hb:XE X b fb)(hs:sh b:=by exact λ_ _=>rfl):XE X (.Subscript a b pos) (f2 ai fa fb):=EC ha hb hs
theorem xs(i:Nat){e:RJ}{f:FX}{pos':Pos}(hN:X.N.Nodup)(he:XE X e f)(hi:X.N[i]?=some x:=by rfl)(hx:Loc X.env.scope x:=by first|exact Or.inl rfl|exact Or.inr rfl)(hs:swapsWith e (some (.Name x pos')) pos.line X.env=pure false:=by rfl)(hf:X.fn x=true\/X.env.scope.names.lookup x=some .local:=by first|exact .inl rfl|exact .inr rfl|assumption):XS X (.Assign [.Name x pos'] e pos) (aG i f):=DF hN hi hx he hs hf
end
noncomputable def Kj:av->Bool
 |[]=>true
 |x::r=>!(r.contains x)&&Kj r
theorem ug{l:av}(h:Kj l=true):l.Nodup:=by
 induction l with
 |nil=>exact List.nodup_nil
 |cons x r ih=>
  simp only[Kj,O0,Bool.not_eq_true']at h;exact List.nodup_cons.mpr ⟨λm=>by rw[List.contains_iff_mem.mpr m]at h;exact absurd h.1 (by decide),ih h.2⟩
noncomputable def D6:RJ->av
 |.Name x _=>[x]
 |.Tuple es _ _=>es.filterMap λe=>match e with
  |.Name x _=>some x
  |_=>none
 |_=>[]
noncomputable def AB(N:av):fI->av->av
 |[],_=>[]
 |some j::r,t=>N.getD j ""::AB N r t
 |none::r,x::t=>x::AB N r t
 |none::r,[]=>""::AB N r []
section
variable{X:Cx}{elt tg iter:RJ}{ifs:aZ}{scope:RW}{ix:fI}{G:aS}{g:GF}{C:bZ}{Fe:FX}{i:Nat}{y:Str}{lpos py pos:Pos}
theorem xl(hc:X.calm=true)(tk:nZ ix g)(hi:XI X tg iter G)(hb:pM X scope (AB X.N ix (D6 tg)) tg elt ifs g C Fe)(ok:jI X.env.scope.names X.N scope (AB X.N ix (D6 tg)) ix=true:=by rfl)(hs:∀x,Sb iter X.env x=pure x:=by intro _;rfl):XE X (.ListComp elt [⟨tg,iter,ifs,0⟩] scope pos) (iC ix G g C Fe):=ER hc (.of ok) tk hi hb hs
theorem NT(hc:X.calm=true)(tk:nZ ix g)(hi:XI X tg iter G)(hb:pM X scope (AB X.N ix (D6 tg)) tg elt ifs g C Fe)(ok:jI X.env.scope.names X.N scope (AB X.N ix (D6 tg)) ix=true:=by rfl)(hs:∀x,Sb iter X.env x=pure x:=by intro _;rfl):XN X (.ListComp elt [⟨tg,iter,ifs,0⟩] scope pos) (iC ix G g C Fe):=Gw hc (.of ok) tk hi hb hs
theorem NS(hN:X.N.Nodup)(hc:X.calm=true)(tk:nZ ix g)(hi:XI X tg iter G)(hb:pM X scope (AB X.N ix (D6 tg)) tg elt ifs g C Fe)(hi':X.N[i]?=some y:=by rfl)(hx:Loc X.env.scope y:=by first|exact Or.inl rfl|exact Or.inr rfl)(ok:jI X.env.scope.names X.N scope (AB X.N ix (D6 tg)) ix=true:=by rfl)(hsw:swapsWith (.ListComp elt [⟨tg,iter,ifs,0⟩] scope lpos) (some (.Name y py)) pos.line X.env=pure true:=by rfl)(hs:∀x,Sb iter X.env x=pure x:=by intro _;rfl)(hf:X.fn y=true\/X.env.scope.names.lookup y=some .local:=by first|exact .inl rfl|exact .inr rfl|assumption):XS X (.Assign [.Name y py] (.ListComp elt [⟨tg,iter,ifs,0⟩] scope lpos) pos) (aG i (iC ix G g C Fe)):=EZ hN hi' hx hc (.of ok) tk hi hb hsw hs hf
theorem Nb(hN:X.N.Nodup)(hc:X.calm=true)(tk:nZ ix g)(hi:XI X tg iter G)(hb:pM X scope (AB X.N ix (D6 tg)) tg elt ifs g C Fe)(hi':X.N[i]?=some y:=by rfl)(hx:Loc X.env.scope y:=by first|exact Or.inl rfl|exact Or.inr rfl)(ok:jI X.env.scope.names X.N scope (AB X.N ix (D6 tg)) ix=true:=by rfl)(hsw:swapsWith (.ListComp elt [⟨tg,iter,ifs,0⟩] scope lpos) (some (.Name y py)) pos.line X.env=pure true:=by rfl)(hs:∀x,Sb iter X.env x=pure x:=by intro _;rfl)(hf:X.fn y=true\/X.env.scope.names.lookup y=some .local:=by first|exact .inl rfl|exact .inr rfl|assumption):XS X (.Assign [.Name y py] (.ListComp elt [⟨tg,iter,ifs,0⟩] scope lpos) pos) (rj i (iC ix G g C Fe)):=x9 hN hi' hx hc (.of ok) tk hi hb hsw hs hf
end
structure U where
 P:RN
 w:RM
 K:QG
 mg:cS
 base:RP
 cL:RH
 T:RH
noncomputable abbrev Ca(u:U)(k:Nat)(x:Str)(ps:av)(g:bI):Prop:=Callee u.P u.w u.K u.mg u.base k x ps g
noncomputable abbrev Ma(u:U)(k:Nat)(c m:Str)(ps:av)(g:bI):Prop:=MethAt u.P u.w u.K u.mg u.base k c m ps g
noncomputable abbrev Ta(u:U)(k:Nat)(m:Str)(ps:av)(t:List (Str×(bI))):Prop:=o4 u.P u.w u.K u.mg u.base k m ps t
noncomputable def Df(u:U)(x:Str)(st:RK):Prop:=∃f fd,n9 u.K x x st f fd/\u.mg x=some (.ref f)
noncomputable def Dm(u:U)(c m qual:Str)(st:RK):Prop:=∃C f fd,clsAt u.K c C/\jv u.K C/\Meth u.K C m f/\n9 u.K m qual st f fd
noncomputable def Bd(x qual:Str)(st:RK)(ps:av):Prop:=∀us:bb,us.length=ps.length->∀(kV doc pm:RF)(an:Option RH)(cdv ct:RF),bindArgs (QX x qual (iM st) (dS st) (aw st) .none kV doc pm an cdv ct) ⟨us,[]⟩=pure (ps.zip us)
theorem n9.bd{K:QG}{x qual:Str}{st:RK}{f:RH}{fd:Sn}{ps:av}(F:n9 K x qual st f fd)(h:Bd x qual st ps):Binds K fd ps []:=F.binds λkV doc pm an cdv ct us e=>h us e kV doc pm an cdv ct
section
variable{u:U}{x c m qual:Str}{st:RK}{ps:av}{k:Nat}{B:bE}
theorem Bq(M:av)(d:Df u x st)(b:Bd x x st ps)(sc:b9 (ps++M) ps (aw st))(h:(ps++M).Nodup->∀f,vn u.P u.w u.K u.mg u.base k (ps++M) x st f B):Ca u (k+1) x ps (aj B ps.length (ps++M).length):=by
 obtain⟨f,fd,F,e⟩:=d;exact xD F (n9.bd F b) e sc (h sc.nd f).ok
theorem Dp(d:Df u x st)(b:Bd x x st ps):Ca u k x ps λ_=>un:=by
 obtain⟨f,fd,F,e⟩:=d;exact uc k F (n9.bd F b) e
theorem BM(d:Dm u c m qual st)(b:Bd m qual st ps):Ma u k c m ps λ_=>un:=by
 obtain⟨C,f,fd,h1,h2,h3,F⟩:=d;have no:∀vs H Q E,¬ya u.K ps.length (λ_=>un) vs H Q E:=λvs H Q E ⟨O,ds,_,_,_,e⟩=>e;exact⟨C,f,fd,h1,h2,h3,⟨λvs H Q E h=>absurd h (no vs H Q E),λA outer s H args us vs Q E _ _ _ _ h=>absurd h (no vs H Q E)⟩,n9.bd F b⟩
theorem HC(M:av)(d:Dm u c m qual st)(b:Bd m qual st ps)(sc:b9 (ps++M) ps (aw st))(h:(ps++M).Nodup->∀f,vn u.P u.w u.K u.mg u.base k (ps++M) qual st f B):Ma u (k+1) c m ps (aj B ps.length (ps++M).length):=by
 obtain⟨C,f,fd,h1,h2,h3,F⟩:=d;exact wA h1 h2 h3 F (n9.bd F b) sc (h sc.nd f).ok
theorem M0(M:av){f:RH}{fd:Sn}(F:n9 u.K x x st f fd)(sc:b9 (ps++M) ps (aw st))(h:(ps++M).Nodup->vn u.P u.w u.K u.mg u.base k (ps++M) x st f B):gz u.P u.w u.K u.mg u.base (lQ u.P u.w) (k+1) f fd ps (ya u.K ps.length (aj B ps.length (ps++M).length)):=rQ F sc (h sc.nd).ok
end
noncomputable def KD(K:QG)(x:Str)(st:RK):Prop:=∃f oc od kV dc pm an cd ct sl,Ra K RT x=some (some (.ref f))/\Lk K f x x st oc od kV dc pm an cd ct sl/\QY K cd x=true/\QU K (.ref f)=true
theorem KD.mk{K:QG}{x:Str}{st:RK}{f:RH}{oc:RF}{od:Option RH}{kV dc pm:RF}{an:Option RH}{cd ct:RF}{sl:Array (Option RF)}(a:Ra K RT x=some (some (.ref f)))(l:Lk K f x x st oc od kV dc pm an cd ct sl)(c:QY K cd x=true)(k:QU K (.ref f)=true):KD K x st:=⟨f,oc,od,kV,dc,pm,an,cd,ct,sl,a,l,c,k⟩
noncomputable def KDs(K:QG):List (Str×RK)->Prop
 |[]=>True
 |p::r=>KD K p.1 p.2/\KDs K r
theorem KDs.mk{K:QG}{x:Str}{st:RK}{r:List (Str×RK)}(h:KD K x st)(t:KDs K r):KDs K ((x,st)::r):=⟨h,t⟩
noncomputable def Je(u:U)(Z:Prop):List (Str×RK)->Prop
 |[]=>Z
 |p::r=>Je u Z r/\Df u p.1 p.2
noncomputable def KZs(K:QG):av->Prop
 |[]=>True
 |x::r=>Ra K RT x=some none/\KZs K r
theorem KZs.mk{K:QG}{x:Str}{r:av}(h:Ra K RT x=some none)(t:KZs K r):KZs K (x::r):=⟨h,t⟩
noncomputable def Zs(u:U):av->Prop
 |[]=>True
 |x::r=>Zs u r/\u.mg x=none
section
variable{u:U}{h:RP}
theorem Je.of{Z:Prop}(X:u.K.In h)(G:h.Ns RT u.mg)(z:Z):∀{l:List (Str×RK)},KDs u.K l->Je u Z l
 |[],_=>z
 |_::_,h=>by
  obtain⟨⟨_,_,_,_,_,_,_,_,_,_,a,l,c,k⟩,r⟩:=h;exact⟨Je.of X G z r,_,_,aW l c k,Rl X G a⟩
theorem Zs.of(X:u.K.In h)(G:h.Ns RT u.mg):∀{l:av},KZs u.K l->Zs u l
 |[],_=>trivial
 |_::_,⟨a,r⟩=>⟨Zs.of X G r,PySem.W.mg_none_of X G a⟩
end
theorem Dv{us:bb}{n:Nat}(h:us.length=n+1):∃a r,us=a::r/\r.length=n:=by
 cases us with
 |nil=>cases h
 |cons a r=>exact⟨a,r,rfl,Nat.succ.inj h⟩
theorem Hi{us:bb}(h:us.length=1):∃a,us=[a]:=List.length_eq_one_iff.mp h
theorem Cr{us:bb}(h:us.length=2):∃a b,us=[a,b]:=by
 obtain⟨a,r,rfl,k⟩:=Dv h;obtain⟨b,rfl⟩:=Hi k;exact⟨a,b,rfl⟩
theorem uC{us:bb}(h:us.length=3):∃a b c,us=[a,b,c]:=by
 obtain⟨a,r,rfl,k⟩:=Dv h;obtain⟨b,c,rfl⟩:=Cr k;exact⟨a,b,c,rfl⟩
theorem Gg{us:bb}(h:us.length=4):∃a b c d,us=[a,b,c,d]:=by
 obtain⟨a,r,rfl,k⟩:=Dv h;obtain⟨b,c,d,rfl⟩:=uC k;exact⟨a,b,c,d,rfl⟩
theorem IB{us:bb}(h:us.length=5):∃a b c d e,us=[a,b,c,d,e]:=by
 obtain⟨a,r,rfl,k⟩:=Dv h;obtain⟨b,c,d,e,rfl⟩:=Gg k;exact⟨a,b,c,d,e,rfl⟩
end TX
namespace TG
open L2
instance(priority:=low) noTabs:au:=⟨λ_=>True,λ_ _=>trivial,λ_ _ _=>trivial⟩
open PySem PySem.Spec L2
theorem nr{α:Sort _}{a b:α}(h:a=b):a=b:=h
theorem ed{α β:Type}(a:α)(f:α->R β):Except.bind (Except.ok a:R α) f=f a:=nr rfl
theorem qf{α β:Type}(x:Option Ex)(f:α->R β):Except.bind (Except.error x:R α) f=.error x:=nr rfl
theorem qC{α:Type}(a:α)(k:Ks)(ρ:ao)(f:α->R D):pI (.ok a) k ρ f=f a:=nr rfl
theorem qb{α:Type}(x:Ex)(k:Ks)(ρ:ao)(f:α->R D):pI (.error (some x)) k ρ f=k.ex x ρ:=nr rfl
theorem iV{α:Type}(a:α):Bl (.ok a:R α)=.ok a:=nr rfl
theorem dU{α:Type}(a:α):rO (some a)=.ok a:=nr rfl
theorem ge_0(d:D)(ρ:ao):pJ (some (.val d)::ρ) 0=.ok d:=rfl
theorem yg(x:Option S)(ρ:ao)(i:Nat):pJ (x::ρ) (i+1)=pJ ρ i:=rfl
theorem mj(i:Nat)(ρ:ao):ae i ρ=pJ ρ i:=rfl
theorem yn(d:D)(ρ:ao):fC d ρ=.ok d:=rfl
theorem lU(ρ:ao):af ρ=.ok []:=rfl
theorem jR(f:FX)(g:aS)(ρ:ao):ac f g ρ=(f ρ).bind λx=>(g ρ).bind λxs=>.ok (x::xs):=rfl
theorem mq(g:aS)(ρ:ao):aO g ρ=(g ρ).bind λxs=>rO (nG xs):=rfl
theorem mZ(g:aS)(ρ:ao):dC g ρ=(g ρ).bind λxs=>rO (lJ xs):=rfl
theorem xY(g:D->bB)(f:FX)(ρ:ao):f1 g f ρ=(f ρ).bind λa=>rO (g a):=rfl
theorem yd(g:D->D->bB)(f h:FX)(ρ:ao):f2 g f h ρ=(f ρ).bind λa=>(h ρ).bind λb=>rO (g a b):=rfl
theorem xW(f:FX)(ρ:ao):fB f ρ=(f ρ).bind λd=>rO (K5 d):=rfl
theorem wc(g:List D->bB)(f:aS)(ρ:ao):fL g f ρ=(f ρ).bind λds=>rO (g ds):=rfl
theorem wO(g:bI)(f:aS)(ρ:ao):fR g f ρ=(f ρ).bind g:=nr rfl
theorem ng(f:bZ)(ρ:ao):jg f ρ=(f ρ).bind λb=>.ok (!b):=rfl
theorem nc(f g:bZ)(ρ:ao):mJ f g ρ=(f ρ).bind λb=>if b then g ρ else .ok false:=rfl
theorem qF(f g:bZ)(ρ:ao):vm f g ρ=(f ρ).bind λb=>if b then .ok true else g ρ:=rfl
theorem gW(f:FX)(ρ:ao):aJ f ρ=(f ρ).bind λd=>rO (truth d):=rfl
theorem ke(f g:FX)(ρ:ao):gB f g ρ=(f ρ).bind λd=>uB d (g ρ):=rfl
theorem mS(f g:FX)(ρ:ao):AR f g ρ=(f ρ).bind λd=>IC d (g ρ):=rfl
theorem jO(f:FX)(ρ:ao):tx f ρ=(f ρ).bind λa=>rO (G0 a):=rfl
theorem pX(t:bZ)(f g:FX)(ρ:ao):vd t f g ρ=(t ρ).bind λc=>if c then f ρ else g ρ:=rfl
theorem ni(T:String)(f:FX)(ρ:ao):n6 T f ρ=(f ρ).bind λa=>rO (zA T a):=rfl
theorem lV(f:FX)(ρ:ao):sZ f ρ=(f ρ).bind λa=>.ok (.bl (isNon a)):=rfl
theorem kn(f:FX)(ρ:ao):II f ρ=(f ρ).bind λa=>.ok (.bl (!isNon a)):=rfl
theorem mX(f:FX)(ρ:ao):CZ f ρ=(f ρ).bind λa=>rO (EK a):=rfl
theorem hW(f:FX)(ρ:ao):GD f ρ=(f ρ).bind λa=>rO (zG a):=rfl
theorem md(f:FX)(ρ:ao):KH f ρ=(f ρ).bind λa=>rO (FL a):=rfl
theorem hJ(g g':D->D->bB)(fa fb fc:FX)(ρ:ao):fJ g g' fa fb fc ρ=(fa ρ).bind λx=>(fb ρ).bind λy=>(rO (g x y)).bind λz=>uB z ((fc ρ).bind λw=>rO (g' y w)):=rfl
theorem iu(f:FX)(ρ:ao):cu f ρ=(f ρ).bind λd=>rO (ph d):=rfl
theorem fX(f:aS)(ρ:ao):fA f ρ=(f ρ).bind λds=>rO (lP ds):=rfl
theorem fY(f:aS)(ρ:ao):lA f ρ=(f ρ).bind λds=>rO (lF ds):=rfl
theorem mP(f:aS)(ρ:ao):Cg f ρ=(f ρ).bind λds=>rO (zm ds):=rfl
theorem j3(f:aS)(ρ:ao):fh f ρ=(f ρ).bind λds=>rO (qX ds):=rfl
theorem mM(z:Str):MG (.str z)=some z:=rfl
theorem fV(ρ:ao):gA ρ=.ok none:=rfl
theorem jN(f:FX)(ρ:ao):nM f ρ=(f ρ).bind λd=>rO (uI d):=rfl
theorem iA(f:FX)(l h:ao->R dA)(ρ:ao):js f l h ρ=(f ρ).bind λa=>(l ρ).bind λlo=>(h ρ).bind λhi=>rO (oW a lo hi):=rfl
theorem j8(ρ:ao):dg ρ=.ok true:=rfl
theorem jV(k:Ks)(ρ:ao):aN k ρ=k.nx ρ:=nr rfl
theorem gL(A B:bE)(k:Ks)(ρ:ao):ak A B k ρ=A {k with nx:=B k} ρ:=nr rfl
theorem j5(f:FX)(k:Ks)(ρ:ao):aB f k ρ=pI (f ρ) k ρ .ok:=nr rfl
theorem iz(k:Ks)(ρ:ao):H0 k ρ=.ok .non:=nr rfl
theorem mF(c:bZ)(A B:bE)(k:Ks)(ρ:ao):dG c A B k ρ=pI (c ρ) k ρ λb=>if b then A k ρ else B k ρ:=nr rfl
theorem jZ(i:Nat)(f:FX)(k:Ks)(ρ:ao):aG i f k ρ=pI (f ρ) k ρ λd=>k.nx (setV i d ρ):=nr rfl
theorem iE(is:List Nat)(F:bE)(k:Ks)(ρ:ao):fG is F k ρ=F k (kill is ρ):=nr rfl
theorem gH(G:aS)(g:GF)(B:bE)(k:Ks)(ρ:ao):nY G g B k ρ=pI (G ρ) k ρ λds=>dY g B k ds ρ:=nr rfl
theorem yf(d:D)(x:Option S)(ρ:ao):setV 0 d (x::ρ)=some (.val d)::ρ:=rfl
theorem wC(i:Nat)(d:D)(x:Option S)(ρ:ao):setV (i+1) d (x::ρ)=x::setV i d ρ:=rfl
theorem mO(ρ:ao):kill [] ρ=ρ:=rfl
theorem km(i:Nat)(is:List Nat)(ρ:ao):kill (i::is) ρ=kill is (ρ.set i none):=rfl
theorem cP(B:bE)(n:Nat)(a:D):aj B 1 n [a]=B K0 (env0 n [a]):=nr rfl
theorem b6(B:bE)(n:Nat)(a b:D):aj B 2 n [a,b]=B K0 (env0 n [a,b]):=nr rfl
theorem cy(B:bE)(n:Nat)(a b c:D):aj B 3 n [a,b,c]=B K0 (env0 n [a,b,c]):=nr rfl
theorem Au(B:bE)(n:Nat)(a b c d:D):aj B 4 n [a,b,c,d]=B K0 (env0 n [a,b,c,d]):=nr rfl
theorem lW(ρ:ao):inB [] ρ=[]:=rfl
theorem jL(ix:fI)(ρ:ao):inB (none::ix) ρ=none::inB ix ρ:=rfl
noncomputable def pick(ρ:ao)(i:Nat):Option S:=match ρ[i]? with
 |some (some (.val d))=>some (.val d)
 |_=>none
theorem jT(i:Nat)(ix:fI)(ρ:ao):inB (some i::ix) ρ=pick ρ i::inB ix ρ:=rfl
theorem wQ(d:D)(ρ:ao):pick (some (.val d)::ρ) 0=some (.val d):=rfl
theorem xo(x:Option S)(ρ:ao)(i:Nat):pick (x::ρ) (i+1)=pick ρ i:=rfl
theorem jP(i:Nat)(f:FX)(k:Ks)(ρ:ao):rj i f k ρ=pI (f ρ) k ρ λd=>k.nx (ρ.set i (some (.own d))):=nr rfl
theorem kq(i:Nat)(F:bE)(k:Ks)(ρ:ao):AW i F k ρ=F k (frz i ρ):=nr rfl
theorem xU(d:D)(ρ:ao):frz 0 (some (.own d)::ρ)=some (.val d)::ρ:=rfl
theorem qN(d:D)(ρ:ao):frz 0 (some (.val d)::ρ)=some (.val d)::ρ:=rfl
theorem wI(i:Nat)(x:Option S)(ρ:ao):frz (i+1) (x::ρ)=x::frz i ρ:=by
 unfold frz;rw[PY];split<;>rename_i h
 ·rw[h];rfl
 ·rfl
theorem zF(i:Nat)(u:List D->List D->Option (List D))(f:aS)(k:Ks)(ρ:ao){xs:List D}(h:ρ[i]?=some (some (.own (.lst xs)))):D5 i u f k ρ=pI (f ρ) k ρ λds=>(rO (u xs ds)).bind λys=>k.nx (ρ.set i (some (.own (.lst ys)))):=by
 unfold D5;rw[h]
theorem z7{xs:List D}{y:D}(h:xs.length<100000):oB xs [y]=some (xs++[y]):=by
 show(if small (xs.length+1)then some (xs++[y])else none)=_;rw[iD ‹0›];rfl
theorem lS(i j:Int):bm (.int i) (.int j)=some (.int (i+j)):=nr rfl
theorem mG(i j:Int):TG.kU (.int i) (.int j)=some (.int (i-j)):=nr rfl
theorem qc(i j:Int):NZ (.int i) (.int j)=some (.bl (decide (i<j))):=nr rfl
theorem mW(i j:Int):n5 (.int i) (.int j)=some (.bl (decide (i<j))):=nr rfl
theorem mn(x y:Str):n5 (.str x) (.str y)=some (.bl (decide (x.cps.toList<y.cps.toList))):=nr rfl
theorem mQ(c d:Bool):Kr (.bl c) (.bl d)=some (.bl (c==d)):=nr rfl
theorem fZ(c d:Bool):Do (.bl c) (.bl d)=some (.bl (!(c==d))):=nr rfl
theorem qV(i j:Int):sI (.int i) (.int j)=some (.bl (decide (i<=j))):=nr rfl
theorem qW(i j:Int):G7 (.int i) (.int j)=some (.bl (decide (j<i))):=nr rfl
theorem qZ(i j:Int):He (.int i) (.int j)=some (.bl (decide (j<=i))):=nr rfl
theorem mh(i:Int):EK (.int i)=some (.int (-i)):=nr rfl
theorem eG{i j:Int}(h:0<j):cI (.int i) (.int j)=some (.int (i%j)):=by
 show(if decide (0<j)then some (D.int (i%j))else none)=_;rw[decide_eq_true h];rfl
theorem ju{i j:Int}(h:0<j)(h':j<10^200):eB (.int i) (.int j)=some (.int (i/j)):=by
 show(if decide (0<j/\j<10^200)then some (D.int (i/j))else none)=_;rw[decide_eq_true ⟨h,h'⟩];rfl
theorem lm{i j:Int}(h:-(2^64)<i)(h':i<2^64):gP (.int i) (.int j)=some (.int (i*j)):=by
 show(if decide ((-(2^64)<i/\i<2^64)\/(-(2^64)<j/\j<2^64))then some (D.int (i*j))else none)=_;rw[decide_eq_true (.inl ⟨h,h'⟩)];rfl
theorem jH{i j:Int}(h:-(2^64)<j)(h':j<2^64):gP (.int i) (.int j)=some (.int (i*j)):=by
 show(if decide ((-(2^64)<i/\i<2^64)\/(-(2^64)<j/\j<2^64))then some (D.int (i*j))else none)=_;rw[decide_eq_true (.inr ⟨h,h'⟩)];rfl
theorem Ab(i:Int)(n:Nat)(h:n<=1000000)(h':i.natAbs<2^64):pS (.int i) (.int n)=some (.int (i^n)):=by
 show(if decide (0<=(n:Int)/\(n:Int)<=1000000/\i.natAbs<2^64)then some (D.int (i^(n:Int).toNat))else none)=_;rw[decide_eq_true ⟨by omega,by omega,h'⟩];rfl
theorem il(i j:Int):fw (.int i) (.int j)=some (.bl (i==j)):=by unfold fw pyEq;rfl
theorem ic(i j:Str):fw (.str i) (.str j)=some (.bl (i==j)):=by unfold fw pyEq;rfl
theorem iF(i j:Bool):fw (.bl i) (.bl j)=some (.bl (i==j)):=by unfold fw pyEq;rfl
theorem gY(i j:Int):mC (.int i) (.int j)=some (.bl (!(i==j))):=by unfold mC pyEq;rfl
theorem iq(i j:Str):mC (.str i) (.str j)=some (.bl (!(i==j))):=by unfold mC pyEq;rfl
theorem gX(i j:Bool):mC (.bl i) (.bl j)=some (.bl (!(i==j))):=by unfold mC pyEq;rfl
theorem yC{α:Type}(xs:List α)(n:Nat):nH xs (n:Int)=xs[n]?:=by
 unfold nH FJ;rw[if_pos ‹0›];by_cases h:n<xs.length
 ·rw[if_pos ‹0›];rfl
 ·rw[if_neg ‹0›,Qj ‹0›];rfl
theorem xh{α:Type}(a:α)(xs:List α):nH (a::xs) 0=some a:=yC (a::xs) 0
theorem wd{α:Type}(a:α)(xs:List α)(n:Nat):nH (a::xs) ((n+1:Nat):Int)=nH xs (n:Int):=by
 rw[yC,yC,PY]
theorem IV(xs:List D)(i:Int):ai (.tup xs) (.int i)=nH xs i:=nr rfl
theorem gh(a:D)(xs:List D):ai (.tup (a::xs)) (.int 0)=some a:=xh a xs
theorem gQ(a b:D)(xs:List D):ai (.tup (a::b::xs)) (.int 1)=some b:=(wd a _ 0).trans (xh b xs)
theorem qJ(a b c:D)(xs:List D):ai (.tup (a::b::c::xs)) (.int 2)=some c:=(wd a _ 1).trans ((wd b _ 0).trans (xh c xs))
theorem qM(a:D)(xs:List D):ai (.lst (a::xs)) (.int 0)=some a:=xh a xs
theorem qH(a b:D)(xs:List D):ai (.lst (a::b::xs)) (.int 1)=some b:=(wd a _ 0).trans (xh b xs)
theorem qd(a b c:D)(xs:List D):ai (.lst (a::b::c::xs)) (.int 2)=some c:=(wd a _ 1).trans ((wd b _ 0).trans (xh c xs))
theorem gR(xs:List D):cX [.lst xs]=some (.int xs.length):=nr rfl
theorem iw(xs:List D):cX [.tup xs]=some (.int xs.length):=nr rfl
theorem eZ(xs:List D):fH [.lst xs]=some (.tup xs):=nr rfl
theorem eX(xs:List D):fH [.tup xs]=some (.tup xs):=nr rfl
theorem mB(b:Bool):K5 (.bl b)=some b:=nr rfl
theorem fW(i:Int):uI (.int i)=some (some i):=nr rfl
theorem fj(b:Bool):truth (.bl b)=some b:=nr rfl
theorem eV(xs:List D):truth (.tup xs)=some (!xs.isEmpty):=nr rfl
theorem fe(xs:List D):truth (.lst xs)=some (!xs.isEmpty):=nr rfl
theorem kN(i j:Int):nE [.int i,.int j]=some (.int (if j>i then j else i)):=nr rfl
theorem kT(i j:Int):ny [.int i,.int j]=some (.int (if j<i then j else i)):=nr rfl
theorem eS(xs:List D):ph (.lst xs)=some xs:=nr rfl
theorem fi(xs:List D):ph (.tup xs)=some xs:=nr rfl
theorem gU(k:R D):uB (.bl true) k=k:=nr rfl
theorem ir(k:R D):uB (.bl false) k=.ok (.bl false):=nr rfl
theorem j7(k:R D):IC (.bl true) k=.ok (.bl true):=nr rfl
theorem jS(k:R D):IC (.bl false) k=k:=nr rfl
theorem eN(a b:Bool):uB (.bl a) (.ok (.bl b))=.ok (.bl (a&&b)):=by cases a<;>rfl
theorem jM(a b:Bool):IC (.bl a) (.ok (.bl b))=.ok (.bl (a||b)):=by cases a<;>rfl
theorem mD(b:Bool):G0 (.bl b)=some (.bl (!b)):=nr rfl
theorem mK(xs:List D):FL (.lst xs)=some (.lst xs.reverse):=nr rfl
theorem mU(n:Nat)(h:n<2^62):lP [.int n]=some (d7 0 n):=by
 show(if okR (n:Int)then some (d7 0 ((n:Int).toNat))else none)=_
 have:okR (n:Int)=true:=decide_eq_true ⟨by omega,by omega⟩
 rw[this];rfl
theorem rK{α:Type}(f:α->D)(h:∀a,pl (f a)=true):∀xs:List α,oq (xs.map f)=true
 |[]=>rfl
 |x::xs=>by
  show(pl (f x)&&oq (xs.map f))=true;rw[h,rK f h xs];rfl
theorem C0(f:Str->D)(hf:f=D.str)(w:Str)(ws:av):inD (.str w) (ws.map f)=ws.any λy=>y==w:=by
 subst hf;unfold inD;rw[Qc];congr 1
theorem vG(w:Str)(ws:av):vw (.str w) (.tup (ws.map .str))=some (.bl (ws.contains w)):=by
 show(if(pl (.str w)&&oq (ws.map .str))&&df 8 (.str w)then some (D.bl (inD (.str w) (ws.map .str)))else none)=_;rw[C0 _ rfl,rK _ λ_=>rfl];show some (D.bl _)=_;congr 2
 induction ws with
 |nil=>rfl
 |cons x xs ih=>rw[O7,P7,ih,Bool.beq_comm]
theorem DG(w:Str)(ws:av):vw (.str w) (.lst (ws.map .str))=some (.bl (ws.contains w)):=vG w ws
theorem An(xs ys:List D)(h:xs.length+ys.length<=100000):bm (.lst xs) (.lst ys)=some (.lst (xs++ys)):=by
 show(if small (xs.length+ys.length)then some (D.lst (xs++ys))else none)=_;rw[iD h];rfl
theorem eD(xs ys:List D)(h:xs.length+ys.length<=100000):bm (.tup xs) (.tup ys)=some (.tup (xs++ys)):=by
 show(if small (xs.length+ys.length)then some (D.tup (xs++ys))else none)=_;rw[iD h];rfl
theorem jJ(xs:List D)(lo hi:dA):oW (.lst xs) lo hi=some (.lst (cutD xs lo hi)):=nr rfl
theorem jK(xs:List D)(lo hi:dA):oW (.tup xs) lo hi=some (.tup (cutD xs lo hi)):=nr rfl
theorem gF{ix:fI}{G:aS}{g:GF}{C:bZ}{Fe:FX}{ρ:ao}{ds r:List D}(h1:G ρ=.ok ds)(h2:ds.length<=100000)(h3:xC (inB ix ρ) g C Fe ds=.ok r):iC ix G g C Fe ρ=.ok (.lst r):=by
 unfold iC;rw[h1,ed,iD h2,h3];rfl
theorem oK{α:Type}{ρ:ao}{g:GF}{C:bZ}{Fe:FX}(mk:α->D)(p:α->Bool)(v:α->D):∀xs:List α,(∀a∈xs,∃ρ1,g (mk a) ρ=some ρ1/\C ρ1=.ok (p a)/\Fe ρ1=.ok (v a))->
  xC ρ g C Fe (xs.map mk)=.ok ((xs.filter p).map v)
 |[],_=>rfl
 |a::xs,h=>by
  obtain⟨ρ1,h1,h2,h3⟩:=h a Ot;rw[OH,lD,h1,dU,ed,h2,iV,ed,h3,iV,ed,oK mk p v xs λb hb=>h b (Ou _ hb)];cases e:p a with
  |true=>rw[if_pos rfl,Qk e];rfl
  |false=>rw[if_neg OD,Ql (by simp[e])]
theorem kh{α:Type}{ρ:ao}{g:GF}{C:bZ}{Fe:FX}(mk:α->D)(v:α->D)(xs:List α)(h:∀a∈xs,∃ρ1,g (mk a) ρ=some ρ1/\C ρ1=.ok true/\Fe ρ1=.ok (v a)):xC ρ g C Fe (xs.map mk)=.ok (xs.map v):=by
 rw[oK mk (λ_=>true) v xs h,List.filter_eq_self.mpr λ_ _=>rfl]
theorem vD{g:GF}{B:bE}{k:Ks}(Iv:Nat->ao->Prop):∀(ds:List D)(i:Nat)(ρ:ao),(∀j d ρ (k':Ks),i<=j->ds[j-i]?=some d->Iv j ρ->∃ρ1 ρ2,g d ρ=some ρ1/\Iv (j+1) ρ2/\B k' ρ1=k'.nx ρ2)->Iv i ρ->∃ρ',Iv (i+ds.length) ρ'/\dY g B k ds ρ=k.nx ρ'
 |[],i,ρ,_,h=>⟨ρ,h,rfl⟩
 |d::ds,i,ρ,st,h=>by
  obtain⟨ρ1,ρ2,e1,h2,e2⟩:=st i d ρ ⟨dY g B k ds,k.nx,dY g B k ds,k.ex⟩ (Oz _) (by rw[Qa];rfl) h;obtain⟨ρ',h3,e3⟩:=vD (g:=g) (B:=B) (k:=k) Iv ds (i+1) ρ2 (λj d' ρ k' hj hd=>st j d' ρ k' ‹0› (by rw[show j-i=(j-(i+1))+1 by omega,PY];exact hd)) h2;refine⟨ρ',?_,?_⟩
  ·rw[OG]
   have:i+(ds.length+1)=i+1+ds.length:=(by omega);rw[this];exact h3
  ·show((rO (g d ρ)).bind λρ1=>B ⟨dY g B k ds,k.nx,dY g B k ds,k.ex⟩ ρ1)=_;rw[e1,dU,ed,e2];exact e3
theorem sr{g:GF}{B:bE}{k:Ks}{ds:List D}{ρ:ao}{Q:R D->Prop}(Iv:Nat->ao->Prop)(st:∀i d ρ (k':Ks),ds[i]?=some d->Iv i ρ->∃ρ1 ρ2,g d ρ=some ρ1/\Iv (i+1) ρ2/\B k' ρ1=k'.nx ρ2)(h:Iv 0 ρ)(q:∀ρ',Iv ds.length ρ'->Q (k.nx ρ')):Q (dY g B k ds ρ):=by
 obtain⟨ρ',h1,e⟩:=vD (k:=k) Iv ds 0 ρ (λj d ρ k' _ hd=>st j d ρ k' hd) h;rw[e];rw[P5]at h1;exact q ρ' h1
theorem j6{α:Type}{xs:List α}{i:Nat}{a:α}(h:xs[i]?=some a):i<xs.length:=by
 rcases Nat.lt_or_ge i xs.length with z|z
 ·exact z
 ·rw[Qj z]at h;cases h
theorem C3{α β:Type}(f:α->β)(xs:List α)(i:Int):nH (xs.map f) i=(nH xs i).map f:=by
 unfold nH;rw[OI];cases FJ xs.length i with
 |none=>rfl
 |some j=>simp
theorem ua{α:Type}{xs:List α}{k:Nat}(h:k<xs.length):nH xs (k:Int)=some xs[k]:=by
 unfold nH FJ;rw[if_pos ‹0›,if_pos ‹0›];simp[h]
theorem B6{α:Type}{xs:List α}{i:Int}(h0:0<=i)(h:i<xs.length):nH xs i=some (xs[i.toNat]'‹0›):=by
 have e:i=((i.toNat:Nat):Int):=by omega
 conv=>lhs;rw[e]
 exact ua ‹0›
noncomputable def Eh:bE:=ak (dG (fB (f2 n5 (ae 1) (fL cX (ac (ae 0) af)))) (aB (f2 ai (ae 0) (ae 1))) aN) (aB (fC (.int 0)))
theorem Cd(ns:List Int)(k:Nat):aj Eh 2 2 [.lst (ns.map .int),.int k]=.ok (.int (ns.getD k 0)):=by
 show(if decide ((k:Int)<((ns.map D.int).length:Int))then pI (rO (nH (ns.map D.int) (k:Int))) _ _ .ok else .ok (.int 0))=_;rw[OI];by_cases h:k<ns.length
 ·rw[if_pos (by simpa using h),C3,ua h,Option.map_some,Qm,Pr h];rfl
 ·rw[if_neg (by simpa using h),Qm,Qj ‹0›];rfl
theorem Ad(ns:List Int)(i:Int)(h:0<=i):∃c:Int,aj Eh 2 2 [.lst (ns.map .int),.int i]=.ok (.int c):=by
 have e:i=((i.toNat:Nat):Int):=by omega
 exact⟨ns.getD i.toNat 0,by rw[e];exact Cd ns i.toNat⟩
theorem wa(x y:Str):(x++y).length=x.length+y.length:=by
 show(x.cps++y.cps).size=_;rw[Array.size_append];rfl
theorem sG(x y:Str)(h:x.length<=1000)(h':y.length<=1000):bm (.str x) (.str y)=some (.str (x++y)):=by
 show(if small (x.length+y.length)then some (D.str (x++y))else none)=_;rw[iD ‹0›];rfl
theorem mI(lo:Int)(n:Nat):d7 lo n=(List.range n).map λ(k:Nat)=>D.int (lo+(k:Int)):=nr rfl
theorem eY(lo:Int)(n:Nat):(d7 lo n).length=n:=by unfold d7;rw[OI,PD]
theorem str_int(i:Int)(h:i.natAbs<10^70):∃x:Str,y6 [.int i]=some (.str x):=by
 refine⟨toString i,?_⟩;show(if decide (i.natAbs.log2<1920)then some (D.str (toString i))else none)=_;have e:i.natAbs.log2<1920:=by
  by_cases z:i.natAbs=0
  ·rw[z];decide
  ·rw[Nat.log2_lt z];exact O8 h (by decide +kernel)
 rw[decide_eq_true e];rfl
theorem zp{α:Type}(xs:List α)(m:Nat):cutD xs none (some (m:Int))=xs.take m:=by
 unfold cutD;rw[HT.HJ,HT.Jz,Pl,PF];rcases Nat.le_total m xs.length with h|h
 ·rw[Nat.min_eq_left h]
 ·rw[Nat.min_eq_right h,Qn h,Qn (Oz _)]
theorem tK{α:Type}(xs:List α)(m:Nat):cutD xs (some (m:Int)) none=xs.drop m:=by
 unfold cutD;rw[HT.HJ,HT.Jz];rcases Nat.le_total m xs.length with h|h
 ·rw[Nat.min_eq_left h];exact Qn (by rw[OZ];exact Oz _)
 ·rw[Nat.min_eq_right h,Qa,Ph,Qo h]
theorem DR(g:GF)(B:bE)(k:Ks)(d:D)(ds:List D)(ρ:ao):dY g B k (d::ds) ρ=(rO (g d ρ)).bind λρ1=>B ⟨dY g B k ds,k.nx,dY g B k ds,k.ex⟩ ρ1:=nr rfl
theorem DU(g:GF)(B:bE)(k:Ks)(ρ:ao):dY g B k [] ρ=k.nx ρ:=nr rfl
local macro_rules
 |`(tactic| simp! only[$xs,*])=>`(tactic| simp only[ed,qf,qC,qb,iV,dU,ge_0,yg,mj,yn,lU,jR,mq,mZ,xY,yd,xW,wc,wO,ng,nc,qF,gW,ke,mS,jO,pX,ni,lV,kn,mX,hW,md,hJ,iu,fX,fY,mP,j3,fV,jN,iA,j8,jV,gL,j5,iz,mF,jZ,iE,gH,jP,kq,xU,qN,wI,yf,wC,mO,km,lW,jL,jT,wQ,xo,Qp,Qq,OH,O3,Pg,Py,K0,env0,List.replicate,Qb,OM,P5,Nat.reduceAdd,Nat.reduceSub,OG,O6,lS,mG,qc,mW,mn,mQ,fZ,mM,qV,qW,qZ,mh,il,ic,iF,gY,iq,gX,gh,gQ,qJ,qM,qH,qd,gR,iw,eZ,eX,mB,fW,fj,eV,fe,kN,kT,eS,fi,gU,ir,j7,jS,eN,jM,mD,mK,jJ,jK,gN,if_true,if_false,Qg,Qr,Pb,$xs,*])
theorem sq(a b c:D):nG [a,b,c]=some (.tup [a,b,c]):=nr rfl
theorem tJ(a b:D):nG [a,b]=some (.tup [a,b]):=nr rfl
theorem yH(a:D):nG [a]=some (.tup [a]):=nr rfl
theorem Jv:nG []=some (.tup []):=nr rfl
theorem Jm(a:D):lJ [a]=some (.lst [a]):=nr rfl
theorem Ek(a b:D):lJ [a,b]=some (.lst [a,b]):=nr rfl
theorem NC:lJ []=some (.lst []):=nr rfl
noncomputable def zx:bE:=aB (fL fH (ac (iC [none] (cu (f2 bm (f2 ai (ae 0) (fC (.int 0))) (f2 ai (ae 0) (fC (.int 1))))) (gN 0) dg (f2 ai (ae 0) (fC (.int 1)))) af))
theorem kinds_ok(kf rf:List D)(ps:List (Str×D))(hl:kf.length+rf.length<=100)(e:kf++rf=ps.map (λp=>.tup [.str p.1,p.2])):aj zx 1 1 [.tup [.tup kf,.tup rf]]=.ok (.tup (ps.map (·.2))):=by
 have hl':ps.length<=100:=by have:=congrArg List.length e;rw[OX,OI]at this;omega
 have f0:iC [none] (cu (f2 bm (f2 ai (ae 0) (fC (.int 0))) (f2 ai (ae 0) (fC (.int 1))))) (gN 0) dg (f2 ai (ae 0) (fC (.int 1))) [some (.val (.tup [.tup kf,.tup rf]))]=.ok (.lst (ps.map (·.2))):=by
  refine gF (ds:=ps.map (λp=>.tup [.str p.1,p.2])) ?_ (by rw[OI];omega) ?_
  ·simp! only[];rw[eD _ _ ‹0›,e];simp! only[]
  ·refine kh _ _ ps λp _=>⟨_,rfl,rfl,?_⟩
   simp! only[]
 rw[cP];unfold zx;simp! only[f0]
inductive F2{α β:Type}(R:α->β->Prop):List α->List β->Prop where
 |nil:F2 R [] []
 |cons {a:α} {b:β} {as:List α} {bs:List β} (h:R a b) (t:F2 R as bs):F2 R (a::as) (b::bs)
theorem zW{ρ:ao}{g:GF}{C:bZ}{Fe:FX}:∀(ds:List D)(P:Nat->D->Prop),(∀i d,ds[i]?=some d->∃ρ1 v,g d ρ=some ρ1/\C ρ1=.ok true/\Fe ρ1=.ok v/\P i v)->∃vs:List D,vs.length=ds.length/\(∀i v,vs[i]?=some v->P i v)/\xC ρ g C Fe ds=.ok vs
 |[],_,_=>⟨[],rfl,(λ_ _ h=>nomatch h),rfl⟩
 |d::ds,P,h=>by
  obtain⟨ρ1,w,h1,h2,h3,h4⟩:=h 0 d rfl;obtain⟨ws,e1,e2,e3⟩:=zW (ρ:=ρ) (g:=g) (C:=C) (Fe:=Fe) ds (λi v=>P (i+1) v) λi d' hd=>h (i+1) d' (by rw[PY];exact hd);refine⟨w::ws,by rw[OG,OG,e1],λi v hv=>?_,?_⟩
  ·cases i with
   |zero=>cases hv;exact h4
   |succ i=>rw[PY]at hv;exact e2 i v hv
  ·rw[lD,h1,dU,ed,h2,iV,ed,h3,iV,ed,e3];rfl
end TG
namespace TD
open PySem PySem.Spec L2 TG TX
noncomputable def cU:bE:=ak (dG (fB (f2 n5 (ae 1) (fL cX (ac (ae 0) af)))) (aB (f2 ai (ae 0) (ae 1))) aN) (aB (fC (.int 0)))
noncomputable def cQ:bE:=aB (fL fH (ac (iC [none] (cu (f2 bm (f2 ai (ae 0) (fC (.int 0))) (f2 ai (ae 0) (fC (.int 1))))) (gN 0) dg (f2 ai (ae 0) (fC (.int 0)))) af))
noncomputable def bp:bE:=ak (nY (fh (ac (fR (aj cQ 1 1) (ac (ae 0) af)) af)) (gT 2 (sC [2,3])) (ak (dG (fB (f2 fw (ae 3) (ae 1))) (aB (ae 2)) aN) (fG [2,3] aN))) (cO)
noncomputable def dX:bE:=aB (f2 bm (f2 bm (js (ae 0) gA (nM (ae 1))) (ae 2)) (js (ae 0) (nM (f2 bm (ae 1) (fC (.int 1)))) gA))
noncomputable def dP:bE:=aB (f2 n5 (ae 1) (fL cX (ac (f2 ai (ae 0) (fC (.int 0))) af)))
noncomputable def aH:bE:=ak (dG (aJ (fR (aj dP 2 2) (ac (ae 0) (ac (ae 1) af)))) (aB (aO (ac (fR (aj dX 3 3) (ac (f2 ai (ae 0) (fC (.int 0))) (ac (ae 1) (ac (ae 2) af)))) (ac (f2 ai (ae 0) (fC (.int 1))) af)))) aN) (aB (aO (ac (f2 ai (ae 0) (fC (.int 0))) (ac (fR (aj dX 3 3) (ac (f2 ai (ae 0) (fC (.int 1))) (ac (f2 kU (ae 1) (fL cX (ac (f2 ai (ae 0) (fC (.int 0))) af))) (ac (ae 2) af)))) af))))
noncomputable def cR:bE:=aB (fL fH (ac (iC [none] (cu (f2 bm (f2 ai (ae 0) (fC (.int 0))) (f2 ai (ae 0) (fC (.int 1))))) (gN 0) dg (f2 ai (ae 0) (fC (.int 1)))) af))
noncomputable def kX(cG:bI):bE:=ak (dG (fB (f2 fw (f2 ai (ae 0) (fC (.int 0))) (fC (.str "number")))) (aB (f2 ai (ae 0) (fC (.int 1)))) aN) (ak (dG (fB (f2 fw (f2 ai (ae 0) (fC (.int 0))) (fC (.str "word")))) (aB (f2 ai (f2 ai (ae 0) (fC (.int 1))) (fC (.int 0)))) aN) (ak (dG (jg (aJ (f2 ai (ae 0) (fC (.int 2))))) (aB (aO af)) aN) (aB (aO (ac (fL fH (ac (iC [none] (cu (fR (aj cR 1 1) (ac (f2 ai (ae 0) (fC (.int 1))) af))) (gN 0) dg (fR cG (ac (ae 0) af))) af)) af)))))
noncomputable def cG:Nat->bI
 |0=>λ_=>un
 |n+1=>aj (kX (cG n)) 1 1
theorem fQ(n:Nat):cG (n+1)=aj (kX (cG n)) 1 1:=by rw[cG]
theorem pz:∀n:Nat,Ar 1 (cG n)
 |0=>λ_ h=>absurd (by rw[cG]) h
 |n+1=>by rw[fQ];exact dZ
noncomputable def eA:bE:=aB (f2 ai (fR (cG 12) (ac (aO (ac (fC (.str "rows")) (ac (ae 0) (ac (fC (.bl true)) af)))) af)) (fC (.int 0)))
noncomputable def bF:bE:=aB (f2 ai (f2 ai (f2 bm (f2 ai (ae 0) (fC (.int 0))) (f2 ai (ae 0) (fC (.int 1)))) (ae 1)) (fC (.int 1)))
noncomputable def bR:bE:=ak (aG 3 (f2 bm (f2 ai (ae 0) (fC (.int 0))) (f2 ai (ae 0) (fC (.int 1))))) (aB (fL tq (ac (iC [none,none,some 1,some 2] (fh (ac (ae 3) af)) (gT 2 (sC [0,1])) dg (gB (f2 fw (f2 ai (ae 1) (fC (.int 0))) (ae 2)) (f2 o6 (ae 0) (ae 3)))) af)))
noncomputable def cW:bE:=aB (vd (aJ (n6 "str" (ae 0))) (f2 bm (fC (.str ".")) (ae 0)) (fL y6 (ac (ae 0) af)))
noncomputable def bW:bE:=aB (f2 cI (f2 bm (f2 bm (f2 gP (ae 0) (ae 0)) (f2 gP (fC (.int 48271)) (ae 0))) (fC (.int 11))) (fC (.int 2147483647)))
noncomputable def cN:bE:=ak (aG 2 (f2 cI (f2 bm (f2 bm (f2 cI (fR (aj cU 2 2) (ac (ae 0) (ac (ae 1) af))) (fC (.int 2147483647))) (f2 gP (f2 gP (fC (.int 69621)) (ae 1)) (ae 1))) (fC (.int 5))) (fC (.int 2147483647)))) (aB (fR (aj bW 1 1) (ac (fR (aj bW 1 1) (ac (ae 2) af)) af)))
noncomputable def aT:bE:=ak (aG 2 (fC (.str "abcdefghijklmnopqrstuvwxyz"))) (ak (aG 1 (f2 cI (f2 bm (f2 gP (ae 1) (f2 ai (dC (ac (fC (.int 1)) (ac (fC (.int 5)) (ac (fC (.int 7)) (ac (fC (.int 11)) (ac (fC (.int 13)) (ac (fC (.int 23)) af))))))) (f2 cI (ae 0) (fC (.int 6))))) (f2 eB (ae 0) (fC (.int 6)))) (fC (.int 24)))) (ak (aG 0 (f2 eB (ae 0) (fC (.int 144)))) (ak (dG (fB (f2 fw (f2 cI (ae 0) (fC (.int 3))) (fC (.int 0)))) (aB (f2 vP (f2 ai (ae 2) (f2 cI (f2 bm (f2 eB (ae 0) (fC (.int 3))) (f2 eB (ae 1) (fC (.int 8)))) (fC (.int 26)))) (f2 bm (fC (.int 1)) (f2 cI (ae 1) (fC (.int 8)))))) aN) (ak (aG 3 (f2 bm (fC (.int 1)) (f2 cI (f2 eB (ae 0) (fC (.int 3))) (fC (.int 8))))) (ak (aG 4 (fC (.str ""))) (ak (nY (fA (ac (ae 3) af)) (gN 5) (ak (aG 6 (f2 eB (ae 0) (f2 bm (fC (.int 24)) (f2 gP (f2 gP (fC (.int 11)) (ae 5)) (ae 5))))) (ak (dG (fB (f2 fw (ae 5) (f2 cI (f2 eB (ae 0) (fC (.int 24))) (ae 3)))) (aG 6 (f2 bm (ae 6) (ae 1))) aN) (ak (aG 4 (f2 bm (ae 4) (f2 ai (ae 2) (f2 cI (ae 6) (fC (.int 26)))))) (fG [5,6] aN))))) (aB (ae 4))))))))
end TD
namespace TD
open PySem PySem.Spec L2 TG
local macro_rules
 |`(tactic| simp! only[$xs,*])=>`(tactic| simp only[ed,qf,qC,qb,iV,dU,ge_0,yg,mj,yn,lU,jR,mq,mZ,xY,yd,xW,wc,wO,ng,nc,qF,gW,ke,mS,jO,pX,ni,lV,kn,mX,hW,md,hJ,iu,fX,fY,mP,j3,fV,jN,iA,j8,jV,gL,j5,iz,mF,jZ,iE,gH,jP,kq,xU,qN,wI,yf,wC,mO,km,lW,jL,jT,wQ,xo,Qp,Qq,OH,O3,Pg,Py,K0,env0,List.replicate,Qb,OM,P5,Nat.reduceAdd,Nat.reduceSub,OG,O6,lS,mG,qc,mW,mn,mQ,fZ,mM,qV,qW,qZ,mh,il,ic,iF,gY,iq,gX,gh,gQ,qJ,qM,qH,qd,gR,iw,eZ,eX,mB,fW,fj,eV,fe,kN,kT,eS,fi,gU,ir,j7,jS,eN,jM,mD,mK,jJ,jK,gN,if_true,if_false,Qg,Qr,Pb,$xs,*])
theorem Jh(ns:List Int)(i:Int)(h:0<=i):∃c:Int,aj cU 2 2 [.lst (ns.map .int),.int i]=.ok (.int c):=Ad ns i h
local macro_rules
 |`(tactic| simp! only[$xs,*])=>`(tactic| simp only[ed,qf,qC,qb,iV,dU,ge_0,yg,mj,yn,lU,jR,mq,mZ,xY,yd,xW,wc,wO,ng,nc,qF,gW,ke,mS,jO,pX,ni,lV,kn,mX,hW,md,hJ,iu,fX,fY,mP,j3,fV,jN,iA,j8,jV,gL,j5,iz,mF,jZ,iE,gH,jP,kq,xU,qN,wI,yf,wC,mO,km,lW,jL,jT,wQ,xo,Qp,Qq,OH,O3,Pg,Py,K0,env0,List.replicate,Qb,OM,P5,Nat.reduceAdd,Nat.reduceSub,OG,O6,lS,mG,qc,mW,mn,mQ,fZ,mM,qV,qW,qZ,mh,il,ic,iF,gY,iq,gX,gh,gQ,qJ,qM,qH,qd,gR,iw,eZ,eX,mB,fW,fj,eV,fe,kN,kT,eS,fi,gU,ir,j7,jS,eN,jM,mD,mK,jJ,jK,gN,if_true,if_false,Qg,Qr,Pb,$xs,*])
theorem qj{g:GF}{B:bE}{k:Ks}{Q:R D->Prop}(Iv:Nat->ao->Prop):∀(ds:List D)(o i:Nat)(ρ:ao)(d:D),ds[i]?=some d->(∀j d ρ (k':Ks),j<i->ds[j]?=some d->Iv (o+j) ρ->∃ρ1 ρ2,g d ρ=some ρ1/\Iv (o+j+1) ρ2/\B k' ρ1=k'.nx ρ2)->Iv o ρ->
  (∀ρ (k':Ks),Iv (o+i) ρ->∃ρ1,g d ρ=some ρ1/\Q (B k' ρ1))->Q (dY g B k ds ρ)
 |[],_,_,_,_,h,_,_,_=>nomatch h
 |x::ds,o,0,ρ,d,h,_,hI,q=>by
  cases h;obtain⟨ρ1,e1,q1⟩:=q ρ ⟨dY g B k ds,k.nx,dY g B k ds,k.ex⟩ hI;show Q ((rO (g x ρ)).bind λρ1=>B ⟨dY g B k ds,k.nx,dY g B k ds,k.ex⟩ ρ1);rw[e1,dU,ed];exact q1
 |x::ds,o,i+1,ρ,d,h,st,hI,q=>by
  obtain⟨ρ1,ρ2,e1,h2,e2⟩:=st 0 x ρ ⟨dY g B k ds,k.nx,dY g B k ds,k.ex⟩ ‹0› rfl hI;show Q ((rO (g x ρ)).bind λρ1=>B ⟨dY g B k ds,k.nx,dY g B k ds,k.ex⟩ ρ1);rw[e1,dU,ed,e2];refine qj Iv ds (o+1) i ρ2 d (by rw[PY]at h;exact h) (λj d' ρ' k' hj hd hI'=>?_) h2 (λρ' k' hI'=>q ρ' k' (by rw[show o+(i+1)=o+1+i by omega];exact hI'));obtain⟨a,b,c1,c2,c3⟩:=st (j+1) d' ρ' k' ‹0› (by rw[PY];exact hd) (by rw[show o+(j+1)=o+1+j by omega];exact hI');exact⟨a,b,c1,by rw[show o+1+j+1=o+(j+1)+1 by omega];exact c2,c3⟩
noncomputable abbrev fld(p:Str×D):D:=.tup [.str p.1,p.2]
theorem kQ(kf rf:List D)(ps:List (Str×D))(hl:ps.length<=100)(e:kf++rf=ps.map fld):aj cQ 1 1 [.tup [.tup kf,.tup rf]]=.ok (.tup (ps.map λp=>.str p.1)):=by
 have hl':kf.length+rf.length<=100:=by have:=congrArg List.length e;rw[OX,OI]at this;omega
 have f0:iC [none] (cu (f2 bm (f2 ai (ae 0) (fC (.int 0))) (f2 ai (ae 0) (fC (.int 1))))) (gN 0) dg (f2 ai (ae 0) (fC (.int 0))) [some (.val (.tup [.tup kf,.tup rf]))]=.ok (.lst (ps.map λp=>.str p.1)):=by
  refine gF (ds:=ps.map fld) ?_ (by rw[OI];omega) ?_
  ·simp! only[];rw[eD _ _ ‹0›,e];simp! only[]
  ·refine kh _ _ ps λp _=>⟨_,rfl,rfl,?_⟩
   simp! only[]
 rw[cP];unfold cQ;simp! only[f0]
theorem qv(xs:List D):qX [.tup xs]=some (fP 0 xs):=nr rfl
theorem lN:∀(xs:List D)(k i:Nat),(fP k xs)[i]?=(xs[i]?).map λx=>.tup [.int ((k+i:Nat):Int),x]
 |[],k,i=>by simp[fP]
 |x::xs,k,0=>by simp[fP]
 |x::xs,k,i+1=>by
  rw[fP,PY,lN xs (k+1) i,PY];congr 1;funext y;rw[show k+1+i=k+(i+1)by omega]
theorem vg(kf rf:List D)(ps:List (Str×D))(hl:ps.length<=100)(e:kf++rf=ps.map fld)(hn:(ps.map (·.1)).Nodup)(i:Nat)(nm:Str)(k:D)(hi:ps[i]?=some (nm,k)):
  aj bp 2 4 [.tup [.tup kf,.tup rf],.str nm]=.ok (.int i):=by
 have en:=kQ kf rf ps hl e;rw[b6];unfold bp;rw[gL,gH];simp! only[en,qv];have di:(fP 0 (ps.map λp=>D.str p.1))[i]?=some (.tup [.int ((i:Nat):Int),.str nm]):=by
  rw[lN,OV,hi,P5];rfl
 refine qj (Q:=λz=>z=.ok (.int i)) (λ_ ρ=>ρ=[some (.val (.tup [.tup kf,.tup rf])),some (.val (.str nm)),none,none]) _ 0 i _ _ di ?_ rfl ?_
 ·rintro j d ρ k' hj hd rfl;rw[lN,OV]at hd;have hil:=j6 hi;have hjl:j<ps.length:=by omega
  rw[Pr hjl]at hd;cases hd;have ne:(ps[j].1==nm)=false:=by
   have h1:=List.pairwise_iff_getElem.mp hn j i (by rw[OI];exact hjl) (by rw[OI];exact hil) hj;rw[Qs,Qs]at h1;have h2:ps[i]=(nm,k):=(by rw[Pr hil]at hi;exact Option.some.inj hi);rw[h2]at h1
   simpa using h1
  refine⟨[some (.val (.tup [.tup kf,.tup rf])),some (.val (.str nm)),some (.val (.int ((0+j:Nat):Int))),some (.val (.str ps[j].1))],_,rfl,rfl,?_⟩;simp! only[ne]
 ·rintro ρ k' rfl;refine⟨[some (.val (.tup [.tup kf,.tup rf])),some (.val (.str nm)),some (.val (.int (i:Int))),some (.val (.str nm))],rfl,?_⟩;simp! only[BEq.rfl]
theorem wt(kf rf:List D)(ps:List (Str×D))(hl:ps.length<=100)(e:kf++rf=ps.map fld)(i:Nat)(nm:Str)(k:D)(hi:ps[i]?=some (nm,k)):aj bF 2 2 [.tup [.tup kf,.tup rf],.int i]=.ok k:=by
 have hl':kf.length+rf.length<=100:=by have:=congrArg List.length e;rw[OX,OI]at this;omega
 have g:ai (.tup (ps.map fld)) (.int (i:Int))=some (.tup [.str nm,k]):=by
  rw[IV,yC,OV,hi];rfl
 rw[b6];unfold bF;simp! only[eD kf rf ‹0›,e,g]
theorem kR(kf rf:List D)(i:Nat):aj dP 2 2 [.tup [.tup kf,.tup rf],.int i]=.ok (.bl (decide (i<kf.length))):=by
 rw[b6];unfold dP
 have:decide ((i:Int)<(kf.length:Int))=decide (i<kf.length):=by
  by_cases h:i<kf.length
  ·rw[decide_eq_true h,decide_eq_true ‹0›]
  ·rw[decide_eq_false h,decide_eq_false ‹0›]
 simp! only[this]
theorem qm(vs os:List D)(i:Nat)(h:vs.length+os.length<=10000):aj dX 3 3 [.tup vs,.int i,.tup os]=.ok (.tup (vs.take i++os++vs.drop (i+1))):=by
 have l1:(vs.take i).length<=vs.length:=by rw[OQ];omega
 have l2:(vs.drop (i+1)).length<=vs.length:=by rw[OZ];omega
 have c:((i:Int)+1)=((i+1:Nat):Int):=by omega
 have a1:=eD (vs.take i) os ‹0›;have a2:=eD (vs.take i++os) (vs.drop (i+1)) (by rw[OX];omega);rw[cy];unfold dX;simp! only[c,zp,tK,a1,a2]
theorem mV(kf rf os:List D)(i:Nat)(h:kf.length+rf.length+os.length<=10000):aj aH 3 3 [.tup [.tup kf,.tup rf],.int i,.tup os]=.ok (if i<kf.length then .tup [.tup (kf.take i++os++kf.drop (i+1)),.tup rf]else .tup [.tup kf,.tup (rf.take (i-kf.length)++os++rf.drop (i-kf.length+1))]):=by
 rw[cy];unfold aH;by_cases hi:i<kf.length
 ·rw[if_pos hi];simp! only[kR,decide_eq_true hi,qm kf os i ‹0›,tJ]
 ·rw[if_neg hi];have c:((i:Int)-(kf.length:Int))=((i-kf.length:Nat):Int):=by omega
  simp! only[kR,decide_eq_false hi,c,qm rf os (i-kf.length) ‹0›,tJ]
theorem v6:∀bs:List Bool,anyB (bs.map .bl)=some (bs.any id)
 |[]=>rfl
 |b::bs=>by
  show(anyB (bs.map .bl)).bind (λc=>some (b||c))=_;rw[v6 bs];rfl
theorem vU(bs:List Bool):tq [.lst (bs.map .bl)]=some (.bl (bs.any id)):=by
 have e:tq [.lst (bs.map .bl)]=(anyB (bs.map .bl)).bind λb=>some (D.bl b):=rfl;rw[e,v6];rfl
end TD
namespace T4
open PySem PySem.Spec L2 TG TD
local macro_rules
 |`(tactic| simp! only[$xs,*])=>`(tactic| simp only[ed,qf,qC,qb,iV,dU,ge_0,yg,mj,yn,lU,jR,mq,mZ,xY,yd,xW,wc,wO,ng,nc,qF,gW,ke,mS,jO,pX,ni,lV,kn,mX,hW,md,hJ,iu,fX,fY,mP,j3,fV,jN,iA,j8,jV,gL,j5,iz,mF,jZ,iE,gH,jP,kq,xU,qN,wI,yf,wC,mO,km,lW,jL,jT,wQ,xo,Qp,Qq,OH,O3,Pg,Py,K0,env0,List.replicate,Qb,OM,P5,Nat.reduceAdd,Nat.reduceSub,OG,O6,lS,mG,qc,mW,mn,mQ,fZ,mM,qV,qW,qZ,mh,il,ic,iF,gY,iq,gX,gh,gQ,qJ,qM,qH,qd,gR,iw,eZ,eX,mB,fW,fj,eV,fe,kN,kT,eS,fi,gU,ir,j7,jS,eN,jM,mD,mK,jJ,jK,gN,if_true,if_false,Qg,Qr,Pb,$xs,*])
theorem Kq{x:Str}{n:Int}(h:1<=n)(h':n<=1000)(hx:x.length<=1000):vP (.str x) (.int n)=some (.str (kt x n)):=by
 show(if decide (1<=n/\n<=1000/\x.length<=1000)then some (D.str (kt x n))else none)=_;rw[decide_eq_true ⟨h,h',hx⟩];rfl
theorem ot(x:Int)(h0:0<=x)(h1:x<2147483700):∃y:Int,0<=y/\y<2147483647/\aj bW 1 1 [.int x]=.ok (.int y):=by
 have m1:=lm (i:=x) (j:=x) ‹0› ‹0›;have m2:=lm (i:=48271) (j:=x) (by decide) (by decide);have g:=λi=>eG (i:=i) (show(0:Int)<2147483647 by decide);refine⟨(x*x+48271*x+11)%2147483647,Qt _ (by decide),Qu _ (by decide),?_⟩;rw[cP];unfold bW;simp! only[m1,m2,g]
theorem vQ(ns:List Int)(k:Nat)(hk:k<=100):∃y:Int,0<=y/\y<2147483647/\aj cN 2 3 [.lst (ns.map .int),.int k]=.ok (.int y):=by
 obtain⟨c,ec⟩:=TD.Jh ns k ‹0›;have m1:=lm (i:=69621) (j:=(k:Int)) (by decide) (by decide);have m2:=jH (i:=69621*(k:Int)) (j:=(k:Int)) ‹0› ‹0›;have g:=λi=>eG (i:=i) (show(0:Int)<2147483647 by decide);obtain⟨y1,a1,b1,e1⟩:=ot ((c%2147483647+69621*(k:Int)*(k:Int)+5)%2147483647) (Qt _ (by decide)) (by have:=Qu (c%2147483647+69621*(k:Int)*(k:Int)+5) (show(0:Int)<2147483647 by decide);omega);obtain⟨y2,a2,b2,e2⟩:=ot y1 a1 ‹0›;refine⟨y2,a2,b2,?_⟩;rw[b6];unfold cN;simp! only[ec,g,m1,m2,e1,e2]
theorem NE(a b c d:D):lJ [a,b,c,d]=some (.lst [a,b,c,d]):=nr rfl
noncomputable abbrev fm(ps qs:List (Str×D)):D:=.tup [.tup (ps.map fld),.tup (qs.map fld)]
theorem vi{α:Type}{ρ:ao}{g:GF}{C:bZ}{Fe:FX}(mk:α->D)(p:α->Bool)(v:α->D):∀xs:List α,(∀a∈xs,∃ρ1,g (mk a) ρ=some ρ1/\C ρ1=.ok (p a)/\(p a=true->Fe ρ1=.ok (v a)))->
  xC ρ g C Fe (xs.map mk)=.ok ((xs.filter p).map v)
 |[],_=>rfl
 |a::xs,h=>by
  obtain⟨ρ1,h1,h2,h3⟩:=h a Ot;rw[OH,lD,h1,dU,ed,h2,iV,ed,vi mk p v xs λb hb=>h b (Ou _ hb)];cases e:p a with
  |true=>rw[if_pos rfl,h3 e,iV,ed,Qk e];rfl
  |false=>rw[if_neg OD,Ql (by simp[e])]
local macro_rules
 |`(tactic| simp! only[$xs,*])=>`(tactic| simp only[ed,qf,qC,qb,iV,dU,ge_0,yg,mj,yn,lU,jR,mq,mZ,xY,yd,xW,wc,wO,ng,nc,qF,gW,ke,mS,jO,pX,ni,lV,kn,mX,hW,md,hJ,iu,fX,fY,mP,j3,fV,jN,iA,j8,jV,gL,j5,iz,mF,jZ,iE,gH,jP,kq,xU,qN,wI,yf,wC,mO,km,lW,jL,jT,wQ,xo,Qp,Qq,OH,O3,Pg,Py,K0,env0,List.replicate,Qb,OM,P5,Nat.reduceAdd,Nat.reduceSub,OG,O6,lS,mG,qc,mW,mn,mQ,fZ,mM,qV,qW,qZ,mh,il,ic,iF,gY,iq,gX,gh,gQ,qJ,qM,qH,qd,gR,iw,eZ,eX,mB,fW,fj,eV,fe,kN,kT,eS,fi,gU,ir,j7,jS,eN,jM,mD,mK,jJ,jK,gN,if_true,if_false,Qg,Qr,Pb,$xs,*])
noncomputable def LT:List Nat:=("abcdefghijklmnopqrstuvwxyz":Str).cps.toList
theorem yI:∀a<26,∀b<26,LT[a]?=LT[b]?->a=b:=by decide +kernel
noncomputable def stp(b:Int):Int:=([1,5,7,11,13,23]:List Int).getD (b%6).toNat 0
noncomputable def kk(b k:Int):Int:=(k*stp b+b/6)%24
noncomputable def jz(b:Int):Int:=b/144/24%(1+b/144/3%8)
noncomputable def Jf(b k:Int)(w:Str):Prop:=
 (b/144%3=0->w.length=(1+kk b k%8).toNat/\w.cps.toList[0]?=LT[((b/144/3+kk b k/8)%26).toNat]?)/\
 (b/144%3≠0->w.cps.toList[(jz b).toNat]?=LT[((b/144/(24+11*jz b*jz b)+kk b k)%26).toNat]?)
theorem HH(b k:Int):0<=kk b k/\kk b k<24:=⟨Qt _ (by decide),Qu _ (by decide)⟩
theorem FK{b k1 k2:Int}(a1:0<=k1)(a2:k1<24)(b1:0<=k2)(b2:k2<24)(h:kk b k1=kk b k2):k1=k2:=by
 unfold kk stp at h;rcases(show b%6=0\/b%6=1\/b%6=2\/b%6=3\/b%6=4\/b%6=5 by omega)with z|z|z|z|z|z<;>rw[z]at h<;>simp at h<;>omega
theorem DE{b k1 k2:Int}{w:Str}(a1:0<=k1)(a2:k1<24)(b1:0<=k2)(b2:k2<24)(h1:Jf b k1 w)(h2:Jf b k2 w):k1=k2:=by
 refine FK (b:=b) a1 a2 b1 b2 ?_;have q1:=HH b k1;have q2:=HH b k2;by_cases z:b/144%3=0
 ·obtain⟨l1,e1⟩:=h1.1 z;obtain⟨l2,e2⟩:=h2.1 z
  have:=yI _ ‹0› _ ‹0› (e1.symm.trans e2)
  omega
 ·have:=yI _ ‹0› _ ‹0› ((h1.2 z).symm.trans (h2.2 z))
  omega
theorem ur(x:Str)(h:x.length<=1000)(i:Int)(h0:0<=i)(h1:i<x.length):∃y:Str,y.length=1/\y.cps.toList[0]?=x.cps.toList[i.toNat]?/\ai (.str x) (.int i)=some (.str y):=by
 have hl:x.cps.toList.length=x.length:=by simp[Str.length]
 have hi:i<x.cps.toList.length:=by omega
 have hn:i.toNat<x.cps.toList.length:=by omega
 refine⟨⟨#[x.cps.toList[i.toNat]'hn]⟩,rfl,?_,?_⟩
 ·rw[Pr hn];rfl
 ·show(if small x.length then(nH x.cps.toList i).bind λc=>some (D.str ⟨#[c]⟩)else none)=_;rw[iD ‹0›,if_pos rfl,B6 h0 hi];rfl
theorem qT(c:Array Nat)(hc:0<c.size):∀(n:Nat)(a:Array Nat),((List.replicate n c).foldl (·++·) a).toList[0]?=if a.size=0 then(if n=0 then none else c.toList[0]?)else a.toList[0]?
 |0,a=>by
  rw[Qb,List.foldl_nil];split
  ·rename_i h;simp[h]
  ·rfl
 |n+1,a=>by
  rw[Qe,Qf,qT c hc n (a++c)]
  have:¬(a++c).size=0:=by rw[Array.size_append];omega
  rw[if_neg this,Array.toList_append];by_cases h:a.size=0
  ·rw[if_pos h,if_neg ‹0›,OS (by simp[h])];simp[h]
  ·rw[if_neg h,OU (by simp;omega)]
theorem zQ{y:Str}{n:Int}(h:1<=n)(hy:y.length=1):(kt y n).cps.toList[0]?=y.cps.toList[0]?:=by
 unfold kt;split
 ·rfl
 ·have hc:0<y.cps.size:=by have:y.cps.size=1:=hy;omega
  rw[qT y.cps hc n.toNat #[]];split
  ·rw[if_neg ‹0›]
  ·rename_i z;exact absurd rfl z
theorem vR(x y:Str):(x++y).cps.toList=x.cps.toList++y.cps.toList:=by
 show(x.cps++y.cps).toList=_;rw[Array.toList_append]
theorem rA(x:Str):x.cps.toList.length=x.length:=by simp[Str.length]
theorem CB(b k:Int)(hb:0<=b)(hk:0<=k):∃w:Str,aj aT 2 7 [.int b,.int k]=.ok (.str w)/\Jf b k w:=by
 have LL:(("abcdefghijklmnopqrstuvwxyz":Str)).length=26:=by decide +kernel
 have hLT:LT=("abcdefghijklmnopqrstuvwxyz":Str).cps.toList:=rfl;generalize hL:("abcdefghijklmnopqrstuvwxyz":Str)=L at LL hLT;have g3:=λi=>eG (i:=i) (show(0:Int)<3 by decide);have g6:=λi=>eG (i:=i) (show(0:Int)<6 by decide);have g8:=λi=>eG (i:=i) (show(0:Int)<8 by decide);have g24:=λi=>eG (i:=i) (show(0:Int)<24 by decide);have g26:=λi=>eG (i:=i) (show(0:Int)<26 by decide);have d3:=λi=>ju (i:=i) (show(0:Int)<3 by decide) (show(3:Int)<10^200 by decide);have d6:=λi=>ju (i:=i) (show(0:Int)<6 by decide) (show(6:Int)<10^200 by decide);have d8:=λi=>ju (i:=i) (show(0:Int)<8 by decide) (show(8:Int)<10^200 by decide);have d24:=λi=>ju (i:=i) (show(0:Int)<24 by decide) (show(24:Int)<10^200 by decide);have d144:=λi=>ju (i:=i) (show(0:Int)<144 by decide) (show(144:Int)<10^200 by decide);obtain⟨st,hst,hstp,est⟩:∃st:Int,(0<=st/\st<=25)/\stp b=st/\ai (.lst [.int 1,.int 5,.int 7,.int 11,.int 13,.int 23]) (.int (b%6))=some (.int st):=by
  rcases(show b%6=0\/b%6=1\/b%6=2\/b%6=3\/b%6=4\/b%6=5 by omega)with z|z|z|z|z|z<;>rw[z]
  ·exact⟨1,by decide,by unfold stp;rw[z];rfl,rfl⟩
  ·exact⟨5,by decide,by unfold stp;rw[z];rfl,rfl⟩
  ·exact⟨7,by decide,by unfold stp;rw[z];rfl,rfl⟩
  ·exact⟨11,by decide,by unfold stp;rw[z];rfl,rfl⟩
  ·exact⟨13,by decide,by unfold stp;rw[z];rfl,rfl⟩
  ·exact⟨23,by decide,by unfold stp;rw[z];rfl,rfl⟩
 have l6:∀a b c d e f:D,lJ [a,b,c,d,e,f]=some (.lst [a,b,c,d,e,f]):=λ_ _ _ _ _ _=>rfl;have ms:=jH (i:=k) (j:=st) ‹0› ‹0›;have hkk:kk b k=(k*st+b/6)%24:=by unfold kk;rw[hstp]
 generalize hk':(k*st+b/6)%24=k' at hkk;have k1:0<=k'/\k'<24:=by omega
 have hP:∀w,Jf b k w=((b/144%3=0->w.length=(1+kk b k%8).toNat/\w.cps.toList[0]?=LT[((b/144/3+kk b k/8)%26).toNat]?)/\(b/144%3≠0->w.cps.toList[(jz b).toNat]?=LT[((b/144/(24+11*jz b*jz b)+kk b k)%26).toNat]?)):=λ_=>rfl;have hj:jz b=b/144/24%(1+b/144/3%8):=rfl;generalize hb':b/144=b' at hP hj;generalize jz b=j0 at hP hj;rw[hkk]at hP;simp only[hP];have b0:0<=b':=by omega
 rw[b6];unfold aT;by_cases h:b'%3=0
 ·have h':(b'%3==0)=true:=by simp[h]
  obtain⟨y,hy,hy0,e1⟩:=ur L ‹0› ((b'/3+k'/8)%26) ‹0› ‹0›;have mu:=Kq (x:=y) (n:=1+k'%8) ‹0› ‹0› ‹0›;refine⟨kt y (1+k'%8),?_,λ_=>⟨by rw[tm ‹0›,hy,Nat.mul_one],by rw[zQ ‹0› hy,hy0,hLT]⟩,λz=>absurd h z⟩;simp! only[hL,g6,l6,est,ms,d6,g24,hk',d144,hb',g3,h',d3,d8,g26,e1,g8,mu]
 ·have h':(b'%3==0)=false:=by simp[h]
  obtain⟨n,hn,hn1,hn2⟩:∃n:Nat,1+b'/3%8=(n:Int)/\1<=n/\n<=8:=⟨(1+b'/3%8).toNat,by omega,by omega,by omega⟩
  rw[hn]at hj;have hj1:0<=j0/\j0<(n:Int):=by rw[hj];exact⟨Qt _ ‹0›,Qu _ ‹0›⟩
  have rn:=mU n ‹0›;obtain⟨T,hT⟩:∃T:bE,T=(ak (nY (fA (ac (ae 3) af)) (gN 5) (ak (aG 6 (f2 eB (ae 0) (f2 bm (fC (.int 24)) (f2 gP (f2 gP (fC (.int 11)) (ae 5)) (ae 5))))) (ak (dG (fB (f2 fw (ae 5) (f2 cI (f2 eB (ae 0) (fC (.int 24))) (ae 3)))) (aG 6 (f2 bm (ae 6) (ae 1))) aN) (ak (aG 4 (f2 bm (ae 4) (f2 ai (ae 2) (f2 cI (ae 6) (fC (.int 26)))))) (fG [5,6] aN))))) (aB (ae 4))):=⟨_,rfl⟩
  have key:∃w:Str,(w.cps.toList[j0.toNat]?=LT[((b'/(24+11*j0*j0)+k')%26).toNat]?)/\T K0 [some (.val (.int b')),some (.val (.int k')),some (.val (.str L)),some (.val (.int n)),some (.val (.str "")),none,none]=.ok (.str w):=by
   rw[hT,gL,gH];simp! only[rn];refine sr (Q:=λz=>∃w:Str,(w.cps.toList[j0.toNat]?=LT[((b'/(24+11*j0*j0)+k')%26).toNat]?)/\z=.ok (.str w)) (λi ρ=>∃w:Str,w.length=i/\(j0<(i:Int)->w.cps.toList[j0.toNat]?=LT[((b'/(24+11*j0*j0)+k')%26).toNat]?)/\ρ=[some (.val (.int b')),some (.val (.int k')),some (.val (.str L)),some (.val (.int n)),some (.val (.str w)),none,none]) ?_ ?_ ?_
   ·rintro i d ρ kx hd ⟨w,hw,hw2,rfl⟩;have hi:=j6 hd;rw[eY]at hi;have hdi:d=.int (i:Int):=by
     rw[mI,OV,PH hi]at hd;cases hd;simp
    subst hdi;have m1:=lm (i:=11) (j:=(i:Int)) (by decide) (by decide);have m2:=jH (i:=11*(i:Int)) (j:=(i:Int)) ‹0› ‹0›;have ii:0<=11*(i:Int)*(i:Int):=Int.mul_nonneg ‹0› ‹0›;have ii2:11*(i:Int)*(i:Int)<=11*8*8:=Int.mul_le_mul ‹0› ‹0› ‹0› (by decide);have dd:=λz=>ju (i:=z) (show(0:Int)<24+11*(i:Int)*(i:Int)by omega) (show 24+11*(i:Int)*(i:Int)<10^200 by
     have:(10:Int)^200>10000:=by decide +kernel
     omega)
    have gn:=λz=>eG (i:=z) (show(0:Int)<(n:Int)by omega);generalize hs:b'/(24+11*(i:Int)*(i:Int))=s;by_cases hq:((i:Int)==b'/24%(n:Int))=true
    ·obtain⟨y,hy,hy0,e1⟩:=ur L ‹0› ((s+k')%26) ‹0› ‹0›;have ad:=sG w y ‹0› ‹0›;refine⟨_,_,rfl,⟨w++y,by rw[wa];omega,λ_=>?_,rfl⟩,?_⟩
     ·have eq:(i:Int)=b'/24%(n:Int):=(by simpa using hq);rw[<-hj]at eq;subst eq;rw[vR,OS (by rw[rA];omega),rA,hw,OY,Qa,hy0,hLT,<-hs]
     simp! only[m1,m2,dd,hs,d24,gn,hq,g26,e1,ad]
    ·have hq':((i:Int)==b'/24%(n:Int))=false:=(by simpa using hq);obtain⟨y,hy,hy0,e1⟩:=ur L ‹0› (s%26) ‹0› ‹0›;have ad:=sG w y ‹0› ‹0›;refine⟨_,_,rfl,⟨w++y,by rw[wa];omega,λz=>?_,rfl⟩,?_⟩
     ·have ne:j0≠(i:Int):=λq=>hq (by rw[<-q,<-hj];simp);rw[vR,OU (by rw[rA];omega)];exact hw2 ‹0›
     simp! only[m1,m2,dd,hs,d24,gn,hq',g26,e1,ad]
   ·exact⟨"",by decide +kernel,λz=>by omega,rfl⟩
   ·rintro ρ' ⟨w,hw,hw2,rfl⟩;rw[eY]at hw2;exact⟨w,hw2 ‹0›,by simp! only[]⟩
  obtain⟨w,hw,ew⟩:=key;refine⟨w,?_,λz=>absurd z h,λ_=>hw⟩;rw[<-hT];simp only[K0]at ew;simp! only[hL,g6,l6,est,ms,d6,g24,hk',d144,hb',g3,h',d3,g8,hn,ew]
section
open Classical
variable(m:Nat)
noncomputable def MS(acc:List (List D))(r:List D):List (List D):=if r.take m∈acc then acc else acc++[r.take m]
noncomputable def fs(t:List (List D)):List (List D):=t.foldl (MS m) []
noncomputable def gp(t:List (List D))(f:List D):List (List D):=(t.filter λr=>decide (r.take m=f)).map (List.drop m)
noncomputable def flat(t:List (List D)):List (List D):=(fs m t).flatMap λf=>(gp m t f).map (f++·)
end
end T4
namespace Tk87
open PySem PySem.Spec L2 TG TX TD
noncomputable def top(i:Nat):RK:=PySem.Challenge.pw_twoglass_k87_two_that_stay.main.body.getD i (.Pass ⟨0,0,0,0⟩)
noncomputable abbrev gC:RK:=inClass (top 57) 0
theorem kS:b9 ["self","old","new"] ["self","old","new"] (aw gC):=‹2›
noncomputable abbrev hU:RK:=inClass (top 59) 0
theorem lC:b9 ["self","name","kind"] ["self","name","kind"] (aw hU):=‹2›
noncomputable abbrev iZ:RK:=inClass (top 30) 0
theorem me:b9 ["self","glass","step"] ["self","glass","step"] (aw iZ):=‹2›
noncomputable abbrev jd:RK:=inClass (top 31) 0
theorem mY:b9 ["self","one","other","pair"] ["self","one","other","pair"] (aw jd):=‹2›
noncomputable abbrev jc:RK:=inClass (top 29) 0
theorem mr:b9 ["self","name"] ["self","name"] (aw jc):=‹2›
noncomputable abbrev ja:RK:=inClass (top 49) 0
theorem lZ:b9 ["self","many","name"] ["self","many","name"] (aw ja):=‹2›
noncomputable abbrev gG:RK:=inClass (top 50) 0
theorem kH:b9 ["self","name"] ["self","name"] (aw gG):=‹2›
noncomputable abbrev iU:RK:=inClass (top 55) 0
theorem lX:b9 ["self","quotient","rest","by","name"] ["self","quotient","rest","by","name"] (aw iU):=‹2›
noncomputable abbrev jb:RK:=inClass (top 54) 0
theorem mw:b9 ["self","name","by","quotient","rest"] ["self","name","by","quotient","rest"] (aw jb):=‹2›
noncomputable abbrev iY:RK:=inClass (top 71) 0
theorem nh:b9 ["self","name","value"] ["self","name","value"] (aw iY):=‹2›
noncomputable def bV:bE:=aB (aO (ac (fC (.str "nest")) (ac (fR (aj cW 1 1) (ac (f1 (aq "many" ["Nest"]) (ae 0)) af)) (ac (f1 (aq "name" ["Nest"]) (ae 0)) af))))
noncomputable def bz:bE:=aB (aO (ac (fC (.str "unnest")) (ac (f1 (aq "name" ["Unnest"]) (ae 0)) af)))
noncomputable def bQ:bE:=aB (aO (ac (fC (.str "part")) (ac (f1 (aq "name" ["Part"]) (ae 0)) (ac (fR (aj cW 1 1) (ac (f1 (aq "by" ["Part"]) (ae 0)) af)) (ac (f1 (aq "quotient" ["Part"]) (ae 0)) (ac (f1 (aq "rest" ["Part"]) (ae 0)) af))))))
noncomputable def bS:bE:=aB (aO (ac (fC (.str "fuse")) (ac (f1 (aq "quotient" ["Fuse"]) (ae 0)) (ac (f1 (aq "rest" ["Fuse"]) (ae 0)) (ac (fR (aj cW 1 1) (ac (f1 (aq "by" ["Fuse"]) (ae 0)) af)) (ac (f1 (aq "name" ["Fuse"]) (ae 0)) af))))))
noncomputable def bu:bE:=aB (aO (ac (fC (.str "rename")) (ac (f1 (aq "old" ["Rename"]) (ae 0)) (ac (f1 (aq "new" ["Rename"]) (ae 0)) af))))
noncomputable def bH:bE:=ak (dG (fB (f2 fw (f2 ai (f1 (aq "kind" ["Sieve"]) (ae 0)) (fC (.int 0))) (fC (.str "number")))) (aB (aO (ac (fC (.str "sieve")) (ac (f1 (aq "name" ["Sieve"]) (ae 0)) (ac (fR (aj cW 1 1) (ac (f2 ai (f1 (aq "kind" ["Sieve"]) (ae 0)) (fC (.int 1))) af)) (ac (fR (aj cW 1 1) (ac (f2 ai (f1 (aq "kind" ["Sieve"]) (ae 0)) (fC (.int 2))) af)) af)))))) aN) (aB (f2 bm (aO (ac (fC (.str "keep")) (ac (f1 (aq "name" ["Sieve"]) (ae 0)) af))) (fL fH (ac (iC [none] (cu (f2 ai (f1 (aq "kind" ["Sieve"]) (ae 0)) (fC (.int 1)))) (gN 0) dg (fR (aj cW 1 1) (ac (ae 0) af))) af))))
noncomputable def bU:bE:=aB (aO (ac (fC (.str "drop")) (ac (f1 (aq "name" ["Drop"]) (ae 0)) (ac (fR (aj cW 1 1) (ac (f1 (aq "value" ["Drop"]) (ae 0)) af)) af))))
noncomputable def gk(aV:bI):bE:=ak (dG (aJ (f1 (aX ["Over"] ["Leaf","Both"]) (ae 0))) (aB (f2 bm (fR aV (ac (f1 (aq "glass" ["Over"]) (ae 0)) af)) (dC (ac (f1 (aq "step" ["Over"]) (ae 0)) af)))) aN) (ak (dG (aJ (f1 (aX ["Both"] ["Leaf","Over"]) (ae 0))) (aB (f2 bm (f2 bm (fR aV (ac (f1 (aq "one" ["Both"]) (ae 0)) af)) (fR aV (ac (f1 (aq "other" ["Both"]) (ae 0)) af))) (dC (ac (f1 (aq "pair" ["Both"]) (ae 0)) af)))) aN) (aB (dC af)))
noncomputable def aV:Nat->bI
 |0=>λ_=>un
 |n+1=>aj (gk (aV n)) 1 1
theorem dR(n:Nat):aV (n+1)=aj (gk (aV n)) 1 1:=by rw[aV]
theorem kA:∀n:Nat,Ar 1 (aV n)
 |0=>λ_ h=>absurd (by rw[aV]) h
 |n+1=>by rw[dR];exact dZ
noncomputable def gu:bE:=aB (fL cX (ac (fR (aV 12) (ac (ae 0) af)) af))
noncomputable def ig:bE:=aB (vd (fB (f2 mC (ae 0) (ae 1))) (dC (ac (fNew "Rename" ["old","new"] (ac (ae 0) (ac (ae 1) af))) af)) (dC af))
noncomputable def ax:bE:=aB (fC (.bl true))
noncomputable def bT:bE:=aB (f2 ai (fR (aj bF 2 2) (ac (ae 1) (ac (fR (aj bp 2 4) (ac (ae 1) (ac (f1 (aq "name" ["Unnest"]) (ae 0)) af))) af))) (fC (.int 2)))
noncomputable def iJ:bE:=ak (aG 2 (fL fH (ac (iC [none,some 1] (cu (f2 ai (ae 0) (fC (.int 1)))) (gN 0) (fB (f2 vw (ae 0) (f2 ai (ae 1) (fC (.int 1))))) (ae 0)) af))) (aB (vd (aJ (ae 2)) (aO (ac (fC (.str "word")) (ac (ae 2) af))) (fC .non)))
noncomputable def dF:bE:=ak (aG 2 (fL nE (ac (f2 ai (ae 0) (fC (.int 1))) (ac (f2 ai (ae 1) (fC (.int 1))) af)))) (ak (aG 3 (fL ny (ac (f2 ai (ae 0) (fC (.int 2))) (ac (f2 ai (ae 1) (fC (.int 2))) af)))) (aB (vd (fB (f2 sI (ae 2) (ae 3))) (aO (ac (fC (.str "number")) (ac (ae 2) (ac (ae 3) af)))) (fC .non))))
noncomputable def kL:bE:=ak (dG (fB (f2 mC (f2 ai (ae 0) (fC (.int 0))) (f2 ai (ae 1) (fC (.int 0))))) (aB (fC .non)) aN) (ak (dG (fB (f2 fw (f2 ai (ae 0) (fC (.int 0))) (fC (.str "number")))) (aB (fR (aj dF 2 4) (ac (ae 0) (ac (ae 1) af)))) aN) (ak (dG (fB (f2 fw (f2 ai (ae 0) (fC (.int 0))) (fC (.str "word")))) (aB (fR (aj iJ 2 3) (ac (ae 0) (ac (ae 1) af)))) aN) (aB (fC .non))))
noncomputable def cc:bE:=ak (aG 2 (fR (aj bF 2 2) (ac (ae 1) (ac (fR (aj bp 2 4) (ac (ae 1) (ac (f1 (aq "name" ["Sieve"]) (ae 0)) af))) af)))) (aB (f2 fw (fR (aj kL 2 2) (ac (ae 2) (ac (f1 (aq "kind" ["Sieve"]) (ae 0)) af))) (ae 2)))
noncomputable def pp(cJ:bI):bE:=ak (dG (fB (f2 fw (f2 ai (ae 0) (fC (.int 0))) (fC (.str "number")))) (aB (f2 fw (f2 ai (ae 0) (fC (.int 1))) (f2 ai (ae 0) (fC (.int 2))))) aN) (ak (dG (fB (f2 fw (f2 ai (ae 0) (fC (.int 0))) (fC (.str "word")))) (aB (f2 fw (fL cX (ac (f2 ai (ae 0) (fC (.int 1))) af)) (fC (.int 1)))) aN) (aB (gB (f2 ai (ae 0) (fC (.int 2))) (fL uU (ac (iC [none] (cu (fR (aj cR 1 1) (ac (f2 ai (ae 0) (fC (.int 1))) af))) (gN 0) dg (fR cJ (ac (ae 0) af))) af)))))
noncomputable def cJ:Nat->bI
 |0=>λ_=>un
 |n+1=>aj (pp (cJ n)) 1 1
theorem kG(n:Nat):cJ (n+1)=aj (pp (cJ n)) 1 1:=by rw[cJ]
theorem nQ:∀n:Nat,Ar 1 (cJ n)
 |0=>λ_ h=>absurd (by rw[cJ]) h
 |n+1=>by rw[kG];exact dZ
noncomputable def dJ:bE:=aB (fR (cJ 12) (ac (fR (aj bF 2 2) (ac (ae 1) (ac (fR (aj bp 2 4) (ac (ae 1) (ac (f1 (aq "name" ["Drop"]) (ae 0)) af))) af))) af))
noncomputable def fD:bE:=aB (f2 fw (fR (aj bp 2 4) (ac (ae 0) (ac (f1 (aq "rest" ["Part","Fuse"]) (ae 1)) af))) (f2 bm (fR (aj bp 2 4) (ac (ae 0) (ac (f1 (aq "quotient" ["Part","Fuse"]) (ae 1)) af))) (fC (.int 1))))
noncomputable def cH:bE:=aB (f2 fw (aO (ac (f1 (aq "by" ["Part","Fuse"]) (ae 0)) (ac (f1 (aq "quotient" ["Part","Fuse"]) (ae 0)) (ac (f1 (aq "rest" ["Part","Fuse"]) (ae 0)) af)))) (aO (ac (f1 (aq "by" ["Part","Fuse"]) (ae 1)) (ac (f1 (aq "quotient" ["Part","Fuse"]) (ae 1)) (ac (f1 (aq "rest" ["Part","Fuse"]) (ae 1)) af)))))
noncomputable def aU:bE:=ak (dG (mJ (aJ (f1 (aX ["Rename"] ["Nest","Unnest","Part","Fuse","Sieve","Drop"]) (ae 1))) (aJ (f1 (aX ["Rename"] ["Nest","Unnest","Part","Fuse","Sieve","Drop"]) (ae 2)))) (aB (vd (fB (f2 fw (f1 (aq "new" ["Rename"]) (ae 1)) (f1 (aq "old" ["Rename"]) (ae 2)))) (fR (aj ig 2 2) (ac (f1 (aq "old" ["Rename"]) (ae 1)) (ac (f1 (aq "new" ["Rename"]) (ae 2)) af))) (fC .non))) aN) (ak (dG (mJ (aJ (f1 (aX ["Sieve"] ["Nest","Unnest","Part","Fuse","Rename","Drop"]) (ae 1))) (aJ (f1 (aX ["Sieve"] ["Nest","Unnest","Part","Fuse","Rename","Drop"]) (ae 2)))) (aB (vd (fB (f2 fw (f1 (aq "name" ["Leaf","Nest","Unnest","Part","Fuse","Sieve","Drop"]) (ae 1)) (f1 (aq "name" ["Leaf","Nest","Unnest","Part","Fuse","Sieve","Drop"]) (ae 2)))) (dC (ac (fNew "Sieve" ["name","kind"] (ac (f1 (aq "name" ["Leaf","Nest","Unnest","Part","Fuse","Sieve","Drop"]) (ae 1)) (ac (fR (aj kL 2 2) (ac (f1 (aq "kind" ["Sieve"]) (ae 1)) (ac (f1 (aq "kind" ["Sieve"]) (ae 2)) af))) af))) af)) (fC .non))) aN) (ak (dG (mJ (aJ (f1 (aX ["Part"] ["Nest","Unnest","Fuse","Rename","Sieve","Drop"]) (ae 1))) (aJ (f1 (aX ["Fuse"] ["Nest","Unnest","Part","Rename","Sieve","Drop"]) (ae 2)))) (aB (vd (aJ (fR (aj cH 2 2) (ac (ae 1) (ac (ae 2) af)))) (fR (aj ig 2 2) (ac (f1 (aq "name" ["Leaf","Nest","Unnest","Part","Fuse","Sieve","Drop"]) (ae 1)) (ac (f1 (aq "name" ["Leaf","Nest","Unnest","Part","Fuse","Sieve","Drop"]) (ae 2)) af))) (fC .non))) aN) (ak (dG (mJ (aJ (f1 (aX ["Fuse"] ["Nest","Unnest","Part","Rename","Sieve","Drop"]) (ae 1))) (aJ (f1 (aX ["Part"] ["Nest","Unnest","Fuse","Rename","Sieve","Drop"]) (ae 2)))) (aB (vd (mJ (fB (f2 fw (f1 (aq "name" ["Leaf","Nest","Unnest","Part","Fuse","Sieve","Drop"]) (ae 1)) (f1 (aq "name" ["Leaf","Nest","Unnest","Part","Fuse","Sieve","Drop"]) (ae 2)))) (mJ (aJ (fR (aj cH 2 2) (ac (ae 1) (ac (ae 2) af)))) (aJ (fR (aj fD 2 2) (ac (ae 0) (ac (ae 1) af)))))) (dC af) (fC .non))) aN) (ak (dG (mJ (aJ (f1 (aX ["Nest"] ["Unnest","Part","Fuse","Rename","Sieve","Drop"]) (ae 1))) (aJ (f1 (aX ["Unnest"] ["Nest","Part","Fuse","Rename","Sieve","Drop"]) (ae 2)))) (aB (dC af)) aN) (ak (dG (mJ (aJ (f1 (aX ["Unnest"] ["Nest","Part","Fuse","Rename","Sieve","Drop"]) (ae 1))) (aJ (f1 (aX ["Nest"] ["Unnest","Part","Fuse","Rename","Sieve","Drop"]) (ae 2)))) (aB (vd (mJ (aJ (cv "exact" [("Nest",(aj ax 2 2)),("Unnest",(aj bT 2 2)),("Part",(aj ax 2 2)),("Fuse",(aj ax 2 2)),("Rename",(aj ax 2 2)),("Sieve",(aj cc 2 3)),("Drop",(aj dJ 2 2))] (ae 1) (ac (ae 0) af))) (fB (f2 fw (f1 (aq "many" ["Nest"]) (ae 2)) (fL cX (ac (f2 ai (ae 0) (fC (.int 0))) af))))) (fR (aj ig 2 2) (ac (f1 (aq "name" ["Leaf","Nest","Unnest","Part","Fuse","Sieve","Drop"]) (ae 1)) (ac (f1 (aq "name" ["Leaf","Nest","Unnest","Part","Fuse","Sieve","Drop"]) (ae 2)) af))) (fC .non))) aN) (aB (fC .non)))))))
noncomputable def bJ:bE:=ak (dG (fB (f2 iR (f1 (aq "name" ["Leaf"]) (ae 0)) (ae 1))) cO aN) (aB (f2 qD (ae 1) (f1 (aq "name" ["Leaf"]) (ae 0))))
noncomputable def cx:bE:=aB (aO (ac (f1 (aq "name" ["Leaf"]) (ae 0)) af))
noncomputable def iP(aC aD:bI):bE:=aB (cv "names" [("Leaf",(aj cx 1 1)),("Over",aC),("Both",aD)] (f1 (aq "glass" ["Over"]) (ae 0)) af)
noncomputable def iQ(aC aD:bI):bE:=aB (f2 bm (cv "names" [("Leaf",(aj cx 1 1)),("Over",aC),("Both",aD)] (f1 (aq "one" ["Both"]) (ae 0)) af) (cv "names" [("Leaf",(aj cx 1 1)),("Over",aC),("Both",aD)] (f1 (aq "other" ["Both"]) (ae 0)) af))
mutual
noncomputable def aC:Nat->bI
 |0=>λ_=>un
 |n+1=>aj (iP (aC n) (aD n)) 1 1
noncomputable def aD:Nat->bI
 |0=>λ_=>un
 |n+1=>aj (iQ (aC n) (aD n)) 1 1
end
theorem gI(n:Nat):aC (n+1)=aj (iP (aC n) (aD n)) 1 1:=by rw[aC]
theorem iW:∀n:Nat,Ar 1 (aC n)
 |0=>λ_ h=>absurd (by rw[aC]) h
 |n+1=>by rw[gI];exact dZ
theorem gJ(n:Nat):aD (n+1)=aj (iQ (aC n) (aD n)) 1 1:=by rw[aD]
theorem iX:∀n:Nat,Ar 1 (aD n)
 |0=>λ_ h=>absurd (by rw[aD]) h
 |n+1=>by rw[gJ];exact dZ
noncomputable def iK(bg:bI):bE:=aB (f1 (qL 0) (iC [none] (cu (fR (aj cR 1 1) (ac (ae 0) af))) (gN 0) (fB (f2 fw (f2 ai (ae 0) (fC (.int 0))) (fC (.str "rows")))) (f2 bm (fC (.int 1)) (fR bg (ac (f2 ai (ae 0) (fC (.int 1))) af)))))
noncomputable def bg:Nat->bI
 |0=>λ_=>un
 |n+1=>aj (iK (bg n)) 1 1
theorem fN(n:Nat):bg (n+1)=aj (iK (bg n)) 1 1:=by rw[bg]
theorem kz:∀n:Nat,Ar 1 (bg n)
 |0=>λ_ h=>absurd (by rw[bg]) h
 |n+1=>by rw[fN];exact dZ
noncomputable def fu:bE:=aB (gB (n6 "int" (ae 0)) (tx (n6 "bool" (ae 0))))
noncomputable def bL:bE:=ak (dG (vm (jg (aJ (fR (aj fu 1 1) (ac (f1 (aq "many" ["Nest"]) (ae 0)) af)))) (jg (fB (fJ sI n5 (fC (.int 1)) (f1 (aq "many" ["Nest"]) (ae 0)) (fL cX (ac (f2 ai (ae 1) (fC (.int 0))) af)))))) cO aN) (ak (aG 2 (js (f2 ai (ae 1) (fC (.int 0))) gA (nM (f1 (aq "many" ["Nest"]) (ae 0))))) (ak (dG (fB (f2 vw (f1 (aq "name" ["Nest"]) (ae 0)) (iC [none] (cu (ae 2)) (gN 0) dg (f2 ai (ae 0) (fC (.int 0)))))) cO aN) (ak (aG 3 (aO (ac (js (f2 ai (ae 1) (fC (.int 0))) (nM (f1 (aq "many" ["Nest"]) (ae 0))) gA) (ac (f2 ai (ae 1) (fC (.int 1))) af)))) (ak (dG (fB (f2 He (fR (bg 12) (ac (ae 3) af)) (fC (.int 3)))) cO aN) (aB (aO (ac (ae 2) (ac (aO (ac (aO (ac (f1 (aq "name" ["Nest"]) (ae 0)) (ac (aO (ac (fC (.str "rows")) (ac (ae 3) (ac (fC (.bl true)) af)))) af))) af)) af))))))))
noncomputable def bq:bE:=ak (aG 2 (fR (aj bF 2 2) (ac (ae 1) (ac (fR (aj bp 2 4) (ac (ae 1) (ac (f1 (aq "name" ["Unnest"]) (ae 0)) af))) af)))) (ak (dG (vm (fB (f2 mC (f2 ai (ae 2) (fC (.int 0))) (fC (.str "rows")))) (fB (f2 mC (fL cX (ac (f2 ai (ae 1) (fC (.int 1))) af)) (fC (.int 1))))) cO aN) (ak (aG 3 (f2 ai (ae 1) (fC (.int 0)))) (ak (aG 4 (f2 ai (ae 2) (fC (.int 1)))) (ak (dG (aJ (fL tq (ac (iC [none,some 4] (cu (ae 3)) (gN 0) dg (f2 vw (f2 ai (ae 0) (fC (.int 0))) (fR (aj cQ 1 1) (ac (ae 1) af)))) af))) cO aN) (ak (dG (fB (f2 G7 (f2 bm (fL cX (ac (ae 3) af)) (fL cX (ac (f2 ai (ae 4) (fC (.int 0))) af))) (fC (.int 8)))) cO aN) (aB (aO (ac (f2 bm (ae 3) (f2 ai (ae 4) (fC (.int 0)))) (ac (f2 ai (ae 4) (fC (.int 1))) af)))))))))
noncomputable def bD:bE:=ak (aG 3 (fR (aj bF 2 2) (ac (ae 1) (ac (ae 2) af)))) (ak (aG 4 (fR (aj eA 1 1) (ac (ae 1) af))) (ak (dG (fB (f2 mC (f2 cI (f2 ai (ae 3) (fC (.int 1))) (f1 (aq "by" ["Part"]) (ae 0))) (fC (.int 0)))) cO aN) (dG (fB (f2 mC (f2 cI (f2 bm (f2 ai (ae 3) (fC (.int 2))) (fC (.int 1))) (f1 (aq "by" ["Part"]) (ae 0))) (fC (.int 0)))) cO aN)))
noncomputable def bx:bE:=ak (dG (fB (f2 fw (f1 (aq "quotient" ["Part"]) (ae 0)) (f1 (aq "rest" ["Part"]) (ae 0)))) cO aN) (dG (vm (aJ (fR (aj bR 3 4) (ac (ae 1) (ac (f1 (aq "quotient" ["Part"]) (ae 0)) (ac (aO (ac (ae 2) af)) af))))) (aJ (fR (aj bR 3 4) (ac (ae 1) (ac (f1 (aq "rest" ["Part"]) (ae 0)) (ac (aO (ac (ae 2) af)) af)))))) cO aN)
noncomputable def bN:bE:=ak (aG 2 (fR (aj bp 2 4) (ac (ae 1) (ac (f1 (aq "name" ["Part"]) (ae 0)) af)))) (ak (aG 3 (fR (aj bF 2 2) (ac (ae 1) (ac (ae 2) af)))) (ak (dG (vm (fB (f2 mC (f2 ai (ae 3) (fC (.int 0))) (fC (.str "number")))) (jg (fB (fJ sI sI (fC (.int 2)) (f1 (aq "by" ["Part"]) (ae 0)) (fC (.int 1000000000)))))) cO aN) (ak (nU (cv "check_names" [("Part",(aj bx 3 3))] (ae 0) (ac (ae 1) (ac (ae 2) af)))) (ak (dG (fB (f2 He (fL cX (ac (vd (aJ (fR (aj dP 2 2) (ac (ae 1) (ac (ae 2) af)))) (f2 ai (ae 1) (fC (.int 0))) (f2 ai (ae 1) (fC (.int 1)))) af)) (fC (.int 8)))) cO aN) (ak (nU (cv "check_ends" [("Part",(aj bD 3 5))] (ae 0) (ac (ae 1) (ac (ae 2) af)))) (ak (aG 4 (aO (ac (fC (.str "number")) (ac (f2 eB (f2 ai (ae 3) (fC (.int 1))) (f1 (aq "by" ["Part"]) (ae 0))) (ac (f2 eB (f2 ai (ae 3) (fC (.int 2))) (f1 (aq "by" ["Part"]) (ae 0))) af))))) (ak (aG 5 (aO (ac (fC (.str "number")) (ac (fC (.int 0)) (ac (f2 kU (f1 (aq "by" ["Part"]) (ae 0)) (fC (.int 1))) af))))) (aB (fR (aj aH 3 3) (ac (ae 1) (ac (ae 2) (ac (aO (ac (aO (ac (f1 (aq "quotient" ["Part"]) (ae 0)) (ac (ae 4) af))) (ac (aO (ac (f1 (aq "rest" ["Part"]) (ae 0)) (ac (ae 5) af))) af))) af))))))))))))
noncomputable def bA:bE:=ak (dG (vm (fB (f2 fw (ae 2) (ae 3))) (fB (f2 mC (fR (aj dP 2 2) (ac (ae 1) (ac (ae 2) af))) (fR (aj dP 2 2) (ac (ae 1) (ac (ae 3) af)))))) cO aN) (ak (dG (vm (fB (f2 mC (f2 ai (fR (aj bF 2 2) (ac (ae 1) (ac (ae 2) af))) (fC (.int 0))) (fC (.str "number")))) (jg (fB (fJ sI sI (fC (.int 2)) (f1 (aq "by" ["Fuse"]) (ae 0)) (fC (.int 1000000000)))))) cO aN) (dG (fB (f2 mC (fR (aj bF 2 2) (ac (ae 1) (ac (ae 3) af))) (aO (ac (fC (.str "number")) (ac (fC (.int 0)) (ac (f2 kU (f1 (aq "by" ["Fuse"]) (ae 0)) (fC (.int 1))) af)))))) cO aN))
noncomputable def bM:bE:=ak (aG 2 (fR (aj bp 2 4) (ac (ae 1) (ac (f1 (aq "quotient" ["Fuse"]) (ae 0)) af)))) (ak (aG 3 (fR (aj bp 2 4) (ac (ae 1) (ac (f1 (aq "rest" ["Fuse"]) (ae 0)) af)))) (ak (nU (cv "check_kinds" [("Fuse",(aj bA 4 4))] (ae 0) (ac (ae 1) (ac (ae 2) (ac (ae 3) af))))) (ak (dG (aJ (fR (aj bR 3 4) (ac (ae 1) (ac (f1 (aq "name" ["Fuse"]) (ae 0)) (ac (aO (ac (ae 2) (ac (ae 3) af))) af))))) cO aN) (ak (aG 4 (fR (aj bF 2 2) (ac (ae 1) (ac (ae 2) af)))) (ak (aG 5 (aO (ac (fC (.str "number")) (ac (f2 gP (f2 ai (ae 4) (fC (.int 1))) (f1 (aq "by" ["Fuse"]) (ae 0))) (ac (f2 kU (f2 bm (f2 gP (f2 ai (ae 4) (fC (.int 2))) (f1 (aq "by" ["Fuse"]) (ae 0))) (f1 (aq "by" ["Fuse"]) (ae 0))) (fC (.int 1))) af))))) (aB (fR (aj aH 3 3) (ac (fR (aj aH 3 3) (ac (ae 1) (ac (ae 2) (ac (aO (ac (aO (ac (f1 (aq "name" ["Fuse"]) (ae 0)) (ac (ae 5) af))) af)) af)))) (ac (ae 3) (ac (aO af) af))))))))))
noncomputable def bw:bE:=ak (aG 2 (fR (aj bp 2 4) (ac (ae 1) (ac (f1 (aq "old" ["Rename"]) (ae 0)) af)))) (ak (dG (fB (f2 vw (f1 (aq "new" ["Rename"]) (ae 0)) (fR (aj cQ 1 1) (ac (ae 1) af)))) cO aN) (aB (fR (aj aH 3 3) (ac (ae 1) (ac (ae 2) (ac (aO (ac (aO (ac (f1 (aq "new" ["Rename"]) (ae 0)) (ac (fR (aj bF 2 2) (ac (ae 1) (ac (ae 2) af))) af))) af)) af))))))
noncomputable def bC:bE:=ak (aG 2 (fR (aj bp 2 4) (ac (ae 1) (ac (f1 (aq "name" ["Sieve"]) (ae 0)) af)))) (ak (aG 3 (fR (aj bF 2 2) (ac (ae 1) (ac (ae 2) af)))) (ak (dG (fB (f2 mC (f2 ai (ae 3) (fC (.int 0))) (f2 ai (f1 (aq "kind" ["Sieve"]) (ae 0)) (fC (.int 0))))) cO aN) (ak (aG 4 (fR (aj kL 2 2) (ac (ae 3) (ac (f1 (aq "kind" ["Sieve"]) (ae 0)) af)))) (ak (dG (fB (sZ (ae 4))) cO aN) (aB (fR (aj aH 3 3) (ac (ae 1) (ac (ae 2) (ac (aO (ac (aO (ac (f1 (aq "name" ["Sieve"]) (ae 0)) (ac (ae 4) af))) af)) af)))))))))
noncomputable def gq:bE:=aB (vd (fB (f2 fw (f2 ai (ae 0) (fC (.int 0))) (fC (.str "number")))) (f2 bm (f2 ai (ae 0) (fC (.int 1))) (fC (.int 1))) (f2 ai (f2 ai (ae 0) (fC (.int 1))) (fC (.int 1))))
noncomputable def jG:bE:=ak (aG 2 (fL cX (ac (f2 ai (ae 0) (fC (.int 0))) af))) (ak (dG (fB (f2 fw (ae 2) (fC (.int 1)))) cO aN) (ak (aG 3 (fR (aj bF 2 2) (ac (ae 0) (ac (ae 1) af)))) (dG (jg (aJ (fR (cJ 12) (ac (ae 3) af)))) (ak (aG 4 (fR (aj eA 1 1) (ac (ae 0) af))) (ak (aG 5 (fR (aj dX 3 3) (ac (ae 4) (ac (ae 1) (ac (aO (ac (fR (aj gq 1 1) (ac (ae 3) af)) af)) af))))) cO)) aN)))
noncomputable def jl:bE:=aB (gB (n6 "tuple" (ae 0)) (f2 fw (fL cX (ac (ae 0) af)) (ae 1)))
noncomputable def jx:bE:=ak (aG 2 (iC [none,some 0] (cu (ae 1)) (gN 0) dg (js (ae 0) gA (nM (ae 1))))) (aB (fL uU (ac (iC [none,some 2] (fA (ac (f2 kU (fL cX (ac (ae 2) af)) (fC (.int 1))) af)) (gN 0) dg (f2 n5 (f2 ai (ae 1) (ae 0)) (f2 ai (ae 1) (f2 bm (ae 0) (fC (.int 1)))))) af)))
noncomputable def rE(cV cC bY:bI):bE:=ak (dG (fB (f2 fw (f2 ai (ae 0) (fC (.int 0))) (fC (.str "number")))) (aB (gB (fR (aj fu 1 1) (ac (ae 1) af)) (fJ sI sI (f2 ai (ae 0) (fC (.int 1))) (ae 1) (f2 ai (ae 0) (fC (.int 2)))))) aN) (ak (dG (fB (f2 fw (f2 ai (ae 0) (fC (.int 0))) (fC (.str "word")))) (aB (gB (n6 "str" (ae 1)) (f2 vw (ae 1) (f2 ai (ae 0) (fC (.int 1)))))) aN) (aB (gB (fR cC (ac (f2 ai (ae 0) (fC (.int 1))) (ac (ae 1) af))) (AR (f2 G7 (fL cX (ac (ae 1) af)) (fC (.int 0))) (tx (f2 ai (ae 0) (fC (.int 2))))))))
noncomputable def rM(cV cC bY:bI):bE:=ak (dG (jg (aJ (n6 "tuple" (ae 1)))) (aB (fC (.bl false))) aN) (ak (aG 2 (fR (aj cR 1 1) (ac (ae 0) af))) (aB (gB (fL uU (ac (iC [none,some 2] (cu (ae 1)) (gN 0) dg (fR bY (ac (ae 1) (ac (ae 0) af)))) af)) (fR (aj jx 2 3) (ac (fL cX (ac (f2 ai (ae 0) (fC (.int 0))) af)) (ac (ae 1) af))))))
noncomputable def oC(cV cC bY:bI):bE:=ak (dG (jg (aJ (fR (aj jl 2 2) (ac (ae 1) (ac (fL cX (ac (ae 0) af)) af))))) (aB (fC (.bl false))) aN) (aB (fL uU (ac (iC [none,none] (Cg (ac (ae 0) (ac (ae 1) af))) (gT 2 (sC [0,1])) dg (fR cV (ac (ae 0) (ac (ae 1) af)))) af)))
mutual
noncomputable def cV:Nat->bI
 |0=>λ_=>un
 |n+1=>aj (rE (cV n) (cC n) (bY n)) 2 2
noncomputable def cC:Nat->bI
 |0=>λ_=>un
 |n+1=>aj (rM (cV n) (cC n) (bY n)) 2 3
noncomputable def bY:Nat->bI
 |0=>λ_=>un
 |n+1=>aj (oC (cV n) (cC n) (bY n)) 2 2
end
theorem jq(n:Nat):cV (n+1)=aj (rE (cV n) (cC n) (bY n)) 2 2:=by rw[cV]
theorem qE:∀n:Nat,Ar 2 (cV n)
 |0=>λ_ h=>absurd (by rw[cV]) h
 |n+1=>by rw[jq];exact dZ
theorem lO(n:Nat):cC (n+1)=aj (rM (cV n) (cC n) (bY n)) 2 3:=by rw[cC]
theorem o7:∀n:Nat,Ar 2 (cC n)
 |0=>λ_ h=>absurd (by rw[cC]) h
 |n+1=>by rw[lO];exact dZ
theorem kB(n:Nat):bY (n+1)=aj (oC (cV n) (cC n) (bY n)) 2 2:=by rw[bY]
theorem nJ:∀n:Nat,Ar 2 (bY n)
 |0=>λ_ h=>absurd (by rw[bY]) h
 |n+1=>by rw[kB];exact dZ
noncomputable def bO:bE:=ak (aG 2 (fR (aj bp 2 4) (ac (ae 1) (ac (f1 (aq "name" ["Drop"]) (ae 0)) af)))) (ak (aG 3 (fR (aj bF 2 2) (ac (ae 1) (ac (ae 2) af)))) (ak (dG (vm (fB (f2 fw (f2 ai (ae 3) (fC (.int 0))) (fC (.str "rows")))) (jg (aJ (fR (cV 12) (ac (ae 3) (ac (f1 (aq "value" ["Drop"]) (ae 0)) af)))))) cO aN) (ak (dG (aJ (fR (aj dP 2 2) (ac (ae 1) (ac (ae 2) af)))) (nU (fR (aj jG 2 6) (ac (ae 1) (ac (ae 2) af)))) aN) (aB (fR (aj aH 3 3) (ac (ae 1) (ac (ae 2) (ac (aO af) af))))))))
noncomputable def gM(ay aA:bI):bE:=aB (cv "view_form" [("Nest",(aj bL 2 4)),("Unnest",(aj bq 2 5)),("Part",(aj bN 2 6)),("Fuse",(aj bM 2 6)),("Rename",(aj bw 2 3)),("Sieve",(aj bC 2 5)),("Drop",(aj bO 2 4))] (f1 (aq "step" ["Over"]) (ae 0)) (ac (cv "form" [("Leaf",(aj bJ 2 2)),("Over",ay),("Both",aA)] (f1 (aq "glass" ["Over"]) (ae 0)) (ac (ae 1) af)) af))
noncomputable def jh(ay aA:bI):bE:=ak (aG 2 (cv "form" [("Leaf",(aj bJ 2 2)),("Over",ay),("Both",aA)] (f1 (aq "one" ["Both"]) (ae 0)) (ac (ae 1) af))) (ak (aG 3 (cv "form" [("Leaf",(aj bJ 2 2)),("Over",ay),("Both",aA)] (f1 (aq "other" ["Both"]) (ae 0)) (ac (ae 1) af))) (ak (aG 4 (cv "names" [("Leaf",(aj cx 1 1)),("Over",(aC 12)),("Both",(aD 12))] (f1 (aq "one" ["Both"]) (ae 0)) af)) (ak (dG (aJ (fL tq (ac (iC [none,some 4] (cu (cv "names" [("Leaf",(aj cx 1 1)),("Over",(aC 12)),("Both",(aD 12))] (f1 (aq "other" ["Both"]) (ae 0)) af)) (gN 0) dg (f2 vw (ae 0) (ae 1))) af))) cO aN) (aB Aj))))
mutual
noncomputable def ay:Nat->bI
 |0=>λ_=>un
 |n+1=>aj (gM (ay n) (aA n)) 2 2
noncomputable def aA:Nat->bI
 |0=>λ_=>un
 |n+1=>aj (jh (ay n) (aA n)) 2 5
end
theorem fq(n:Nat):ay (n+1)=aj (gM (ay n) (aA n)) 2 2:=by rw[ay]
theorem jC:∀n:Nat,Ar 2 (ay n)
 |0=>λ_ h=>absurd (by rw[ay]) h
 |n+1=>by rw[fq];exact dZ
theorem ip(n:Nat):aA (n+1)=aj (jh (ay n) (aA n)) 2 5:=by rw[aA]
theorem jy:∀n:Nat,Ar 2 (aA n)
 |0=>λ_ h=>absurd (by rw[aA]) h
 |n+1=>by rw[ip];exact dZ
noncomputable def cY:bE:=aB (AR (f2 fw (cv "words" [("Nest",(aj bV 1 1)),("Unnest",(aj bz 1 1)),("Part",(aj bQ 1 1)),("Fuse",(aj bS 1 1)),("Rename",(aj bu 1 1)),("Sieve",(aj bH 1 1)),("Drop",(aj bU 1 1))] (ae 1) af) (aO af)) (gB (f1 (aX ["Sieve"] ["Nest","Unnest","Part","Fuse","Rename","Drop"]) (ae 1)) (cv "exact" [("Nest",(aj ax 2 2)),("Unnest",(aj bT 2 2)),("Part",(aj ax 2 2)),("Fuse",(aj ax 2 2)),("Rename",(aj ax 2 2)),("Sieve",(aj cc 2 3)),("Drop",(aj dJ 2 2))] (ae 1) (ac (ae 0) af))))
noncomputable def fE(bf:bI):bE:=ak (dG (aJ (fR (aj cY 2 2) (ac (cv "form" [("Leaf",(aj bJ 2 2)),("Over",(ay 12)),("Both",(aA 12))] (ae 1) (ac (ae 0) af)) (ac (ae 2) af)))) (aB (ae 1)) aN) (ak (aG 3 (fC .non)) (ak (dG (aJ (f1 (aX ["Over"] ["Leaf","Both"]) (ae 1))) (aG 3 (fR (aj aU 3 3) (ac (cv "form" [("Leaf",(aj bJ 2 2)),("Over",(ay 12)),("Both",(aA 12))] (f1 (aq "glass" ["Over"]) (ae 1)) (ac (ae 0) af)) (ac (f1 (aq "step" ["Over"]) (ae 1)) (ac (ae 2) af))))) aN) (ak (dG (fB (sZ (ae 3))) (aB (fNew "Over" ["glass","step"] (ac (ae 1) (ac (ae 2) af)))) aN) (aB (vd (aJ (ae 3)) (fR bf (ac (ae 0) (ac (f1 (aq "glass" ["Over"]) (ae 1)) (ac (f2 ai (ae 3) (fC (.int 0))) af)))) (f1 (aq "glass" ["Over"]) (ae 1)))))))
noncomputable def bf:Nat->bI
 |0=>λ_=>un
 |n+1=>aj (fE (bf n)) 3 4
theorem dI(n:Nat):bf (n+1)=aj (fE (bf n)) 3 4:=by rw[bf]
theorem jr:∀n:Nat,Ar 3 (bf n)
 |0=>λ_ h=>absurd (by rw[bf]) h
 |n+1=>by rw[dI];exact dZ
noncomputable def oY(dj:bI):bE:=ak (dG (aJ (f1 (aX ["Over"] ["Leaf","Both"]) (ae 1))) (aB (fR (bf 12) (ac (ae 0) (ac (fR dj (ac (ae 0) (ac (f1 (aq "glass" ["Over"]) (ae 1)) af))) (ac (f1 (aq "step" ["Over"]) (ae 1)) af))))) aN) (ak (dG (aJ (f1 (aX ["Both"] ["Leaf","Over"]) (ae 1))) (aB (fNew "Both" ["one","other","pair"] (ac (fR dj (ac (ae 0) (ac (f1 (aq "one" ["Both"]) (ae 1)) af))) (ac (fR dj (ac (ae 0) (ac (f1 (aq "other" ["Both"]) (ae 1)) af))) (ac (f1 (aq "pair" ["Both"]) (ae 1)) af))))) aN) (aB (ae 1)))
noncomputable def dj:Nat->bI
 |0=>λ_=>un
 |n+1=>aj (oY (dj n)) 2 2
theorem gE(n:Nat):dj (n+1)=aj (oY (dj n)) 2 2:=by rw[dj]
theorem qG:∀n:Nat,Ar 2 (dj n)
 |0=>λ_ h=>absurd (by rw[dj]) h
 |n+1=>by rw[gE];exact dZ
noncomputable def hX:bE:=ak (nU (cv "form" [("Leaf",(aj bJ 2 2)),("Over",(ay 12)),("Both",(aA 12))] (ae 1) (ac (ae 0) af))) (aB (fR (dj 12) (ac (ae 0) (ac (ae 1) af))))
noncomputable def cK:bE:=ak (aG 3 (fNew "Leaf" ["name"] (ac (ae 1) af))) (ak (nY (cu (ae 2)) (gN 4) (ak (aG 3 (fNew "Over" ["glass","step"] (ac (ae 3) (ac (ae 4) af)))) (fG [4] aN))) (ak (aG 5 (fR (aj hX 2 2) (ac (gK [(ae 1,ae 0)]) (ac (ae 3) af)))) (ak (dG (vm (fB (f2 mC (fR (aj gu 1 1) (ac (ae 5) af)) (fC (.int 2)))) (vm (jg (aJ (f1 (aX ["Over"] ["Leaf","Both"]) (ae 5)))) (jg (aJ (f1 (aX ["Over"] ["Leaf","Both"]) (f1 (aq "glass" ["Over"]) (ae 5))))))) (aB (fC (.bl false))) aN) (ak (dG (vm (fB (f2 mC (cv "words" [("Nest",(aj bV 1 1)),("Unnest",(aj bz 1 1)),("Part",(aj bQ 1 1)),("Fuse",(aj bS 1 1)),("Rename",(aj bu 1 1)),("Sieve",(aj bH 1 1)),("Drop",(aj bU 1 1))] (f1 (aq "step" ["Over"]) (ae 5)) af) (cv "words" [("Nest",(aj bV 1 1)),("Unnest",(aj bz 1 1)),("Part",(aj bQ 1 1)),("Fuse",(aj bS 1 1)),("Rename",(aj bu 1 1)),("Sieve",(aj bH 1 1)),("Drop",(aj bU 1 1))] (f2 ai (ae 2) (fC (.int 1))) af))) (fB (f2 mC (cv "words" [("Nest",(aj bV 1 1)),("Unnest",(aj bz 1 1)),("Part",(aj bQ 1 1)),("Fuse",(aj bS 1 1)),("Rename",(aj bu 1 1)),("Sieve",(aj bH 1 1)),("Drop",(aj bU 1 1))] (f1 (aq "step" ["Over"]) (f1 (aq "glass" ["Over"]) (ae 5))) af) (cv "words" [("Nest",(aj bV 1 1)),("Unnest",(aj bz 1 1)),("Part",(aj bQ 1 1)),("Fuse",(aj bS 1 1)),("Rename",(aj bu 1 1)),("Sieve",(aj bH 1 1)),("Drop",(aj bU 1 1))] (f2 ai (ae 2) (fC (.int 0))) af)))) (aB (fC (.bl false))) aN) (aB (gB (f1 (aX ["Leaf"] ["Over","Both"]) (f1 (aq "glass" ["Over"]) (f1 (aq "glass" ["Over"]) (ae 5)))) (f2 fw (f1 (aq "name" ["Leaf","Nest","Unnest","Part","Fuse","Sieve","Drop"]) (f1 (aq "glass" ["Over"]) (f1 (aq "glass" ["Over"]) (ae 5)))) (ae 1))))))))
noncomputable def cm:bE:=ak (aG 3 (aO (ac (aO (ac (aO (ac (f2 ai (ae 1) (fC (.int 0))) (ac (aO (ac (fC (.str "word")) (ac (aO (ac (fC (.str "a")) (ac (fC (.str "b")) af))) af))) af))) (ac (aO (ac (f2 ai (ae 1) (fC (.int 1))) (ac (aO (ac (fC (.str "number")) (ac (fC (.int 0)) (ac (fC (.int 9)) af)))) af))) af))) (ac (f2 ai (ae 0) (fC (.int 1))) af)))) (ak (aG 4 (f2 cI (ae 2) (fC (.int 3)))) (ak (aG 5 (aO (ac (f2 ai (ae 0) (fC (.int 0))) (ac (aO (ac (aO (ac (f2 ai (ae 1) (fC (.int 2))) (ac (aO (ac (fC (.str "rows")) (ac (ae 3) (ac (f2 G7 (ae 4) (fC (.int 0))) af)))) af))) af)) af)))) (ak (aG 6 (f2 ai (dC (ac (fL cX (ac (f2 ai (ae 0) (fC (.int 0))) af)) (ac (f2 bm (fL cX (ac (f2 ai (ae 0) (fC (.int 0))) af)) (fC (.int 1))) (ac (f2 kU (fL cX (ac (f2 ai (ae 0) (fC (.int 0))) af)) (fC (.int 1))) af)))) (ae 4))) (aB (aO (ac (ae 5) (ac (dC (ac (fNew "Unnest" ["name"] (ac (f2 ai (ae 1) (fC (.int 2))) af)) (ac (fNew "Nest" ["many","name"] (ac (ae 6) (ac (f2 ai (dC (ac (f2 ai (ae 1) (fC (.int 2))) (ac (f2 ai (ae 1) (fC (.int 4))) af))) (f2 cI (f2 eB (ae 2) (fC (.int 8))) (fC (.int 2)))) af))) af))) af)))))))
noncomputable def cA:bE:=ak (aG 3 (f2 ai (dC (ac (fC (.int 4)) (ac (fC (.int 6)) (ac (fC (.int 12)) af)))) (f2 cI (ae 2) (fC (.int 3))))) (ak (aG 4 (f2 ai (f2 ai (ae 0) (fC (.int 0))) (fC (.int 0)))) (ak (aG 5 (aO (ac (aO (ac (ae 4) (ac (aO (ac (f2 ai (ae 1) (fC (.int 3))) (ac (aO (ac (fC (.str "number")) (ac (fC (.int 0)) (ac (f2 kU (ae 3) (fC (.int 1))) af)))) af))) af))) (ac (f2 ai (ae 0) (fC (.int 1))) af)))) (ak (aG 6 (fNew "Fuse" ["quotient","rest","by","name"] (ac (f2 ai (ae 4) (fC (.int 0))) (ac (f2 ai (ae 1) (fC (.int 3))) (ac (ae 3) (ac (f2 ai (ae 1) (fC (.int 0))) af)))))) (ak (rj 7 (dC (ac (fNew "Part" ["name","by","quotient","rest"] (ac (f2 ai (ae 1) (fC (.int 0))) (ac (fC (.int 2)) (ac (f2 ai (ae 4) (fC (.int 0))) (ac (f2 ai (ae 1) (fC (.int 3))) af))))) (ac (fNew "Part" ["name","by","quotient","rest"] (ac (f2 ai (ae 1) (fC (.int 0))) (ac (ae 3) (ac (f2 ai (ae 1) (fC (.int 1))) (ac (f2 ai (ae 1) (fC (.int 3))) af))))) af)))) (ak (D5 7 oB (ac (fNew "Part" ["name","by","quotient","rest"] (ac (f2 ai (ae 1) (fC (.int 0))) (ac (ae 3) (ac (f2 ai (ae 4) (fC (.int 0))) (ac (f2 ai (ae 1) (fC (.int 2))) af))))) af)) (AW 7 (aB (aO (ac (ae 5) (ac (dC (ac (ae 6) (ac (f2 ai (ae 7) (f2 cI (f2 eB (ae 2) (fC (.int 8))) (fC (.int 3)))) af))) af))))))))))
noncomputable def bj:bE:=ak (aG 3 (f2 ai (dC (ac (fC (.int 2)) (ac (fC (.int 3)) (ac (fC (.int 4)) (ac (fC (.int 6)) (ac (fC (.int 12)) af)))))) (f2 cI (ae 2) (fC (.int 5))))) (ak (aG 4 (f2 ai (f2 ai (ae 0) (fC (.int 0))) (fC (.int 0)))) (ak (aG 5 (aO (ac (f2 bm (f2 ai (ae 0) (fC (.int 0))) (aO (ac (aO (ac (f2 ai (ae 1) (fC (.int 3))) (ac (aO (ac (fC (.str "number")) (ac (fC (.int 0)) (ac (f2 kU (ae 3) (fC (.int 1))) af)))) af))) af))) (ac (f2 ai (ae 0) (fC (.int 1))) af)))) (ak (aG 6 (f2 cI (f2 eB (ae 2) (fC (.int 8))) (fC (.int 4)))) (ak (dG (fB (f2 fw (ae 6) (fC (.int 0)))) (aB (aO (ac (ae 5) (ac (dC (ac (fNew "Part" ["name","by","quotient","rest"] (ac (f2 ai (ae 4) (fC (.int 0))) (ac (ae 3) (ac (f2 ai (ae 1) (fC (.int 0))) (ac (f2 ai (ae 1) (fC (.int 1))) af))))) (ac (fNew "Fuse" ["quotient","rest","by","name"] (ac (f2 ai (f2 ai (f2 ai (ae 0) (fC (.int 0))) (fC (.int 1))) (fC (.int 0))) (ac (f2 ai (ae 1) (fC (.int 1))) (ac (ae 3) (ac (f2 ai (ae 1) (fC (.int 2))) af))))) af))) af)))) aN) (ak (dG (fB (f2 fw (ae 6) (fC (.int 1)))) (aB (aO (ac (ae 5) (ac (dC (ac (fNew "Part" ["name","by","quotient","rest"] (ac (f2 ai (ae 4) (fC (.int 0))) (ac (ae 3) (ac (f2 ai (ae 1) (fC (.int 0))) (ac (f2 ai (ae 1) (fC (.int 1))) af))))) (ac (fNew "Fuse" ["quotient","rest","by","name"] (ac (f2 ai (ae 1) (fC (.int 0))) (ac (f2 ai (ae 1) (fC (.int 3))) (ac (ae 3) (ac (f2 ai (ae 1) (fC (.int 2))) af))))) af))) af)))) aN) (ak (dG (fB (f2 fw (ae 6) (fC (.int 2)))) (aB (aO (ac (ae 5) (ac (dC (ac (fNew "Fuse" ["quotient","rest","by","name"] (ac (f2 ai (ae 4) (fC (.int 0))) (ac (f2 ai (ae 1) (fC (.int 3))) (ac (ae 3) (ac (f2 ai (ae 1) (fC (.int 0))) af))))) (ac (fNew "Part" ["name","by","quotient","rest"] (ac (f2 ai (ae 1) (fC (.int 0))) (ac (ae 3) (ac (f2 ai (ae 4) (fC (.int 0))) (ac (f2 ai (ae 1) (fC (.int 3))) af))))) af))) af)))) aN) (ak (aG 7 (aO (ac (aO (ac (aO (ac (f2 ai (ae 1) (fC (.int 3))) (ac (aO (ac (fC (.str "number")) (ac (fC (.int 0)) (ac (f2 kU (ae 3) (fC (.int 1))) af)))) af))) (ac (ae 4) af))) (ac (f2 ai (ae 0) (fC (.int 1))) af)))) (aB (aO (ac (ae 7) (ac (dC (ac (fNew "Fuse" ["quotient","rest","by","name"] (ac (f2 ai (ae 4) (fC (.int 0))) (ac (f2 ai (ae 1) (fC (.int 3))) (ac (ae 3) (ac (f2 ai (ae 1) (fC (.int 0))) af))))) (ac (fNew "Part" ["name","by","quotient","rest"] (ac (f2 ai (ae 1) (fC (.int 0))) (ac (ae 3) (ac (f2 ai (ae 4) (fC (.int 0))) (ac (f2 ai (ae 1) (fC (.int 3))) af))))) af))) af)))))))))))
noncomputable def b7:bE:=ak (aG 3 (f2 bm (f2 ai (ae 0) (fC (.int 0))) (f2 ai (ae 0) (fC (.int 1))))) (ak (aG 4 (f2 cI (ae 2) (fL cX (ac (ae 3) af)))) (ak (aG 5 (f2 cI (f2 bm (f2 bm (ae 4) (fC (.int 1))) (f2 cI (f2 eB (ae 2) (fC (.int 8))) (f2 kU (fL cX (ac (ae 3) af)) (fC (.int 1))))) (fL cX (ac (ae 3) af)))) (ak (aG 6 (dC (ac (f2 ai (f2 ai (f2 ai (ae 3) (ae 4)) (fC (.int 1))) (fC (.int 1))) (ac (f2 ai (f2 ai (f2 ai (ae 3) (ae 5)) (fC (.int 1))) (fC (.int 1))) af)))) (ak (dG (fB (f2 fw (f2 cI (f2 eB (ae 2) (fC (.int 64))) (fC (.int 2))) (fC (.int 0)))) (aB (dC (ac (fNew "Rename" ["old","new"] (ac (f2 ai (f2 ai (ae 3) (ae 4)) (fC (.int 0))) (ac (f2 ai (ae 1) (fC (.int 0))) af))) (ac (fNew "Rename" ["old","new"] (ac (f2 ai (f2 ai (ae 3) (ae 5)) (fC (.int 0))) (ac (f2 ai (dC (ac (f2 ai (ae 1) (fC (.int 1))) (ac (f2 ai (f2 ai (ae 3) (ae 4)) (fC (.int 0))) af))) (f2 cI (f2 eB (ae 2) (fC (.int 128))) (fC (.int 2)))) af))) af)))) aN) (ak (aG 7 (fNew "Sieve" ["name","kind"] (ac (f2 ai (f2 ai (ae 3) (ae 4)) (fC (.int 0))) (ac (aO (ac (fC (.str "number")) (ac (f2 bm (f2 ai (ae 6) (fC (.int 0))) (fC (.int 1))) (ac (f2 bm (f2 ai (ae 6) (fC (.int 0))) (fC (.int 3))) af)))) af)))) (ak (aG 8 (fNew "Sieve" ["name","kind"] (ac (f2 ai (f2 ai (ae 3) (ae 5)) (fC (.int 0))) (ac (aO (ac (fC (.str "number")) (ac (f2 bm (f2 ai (ae 6) (fC (.int 1))) (fC (.int 2))) (ac (f2 bm (f2 ai (ae 6) (fC (.int 1))) (fC (.int 7))) af)))) af)))) (ak (aG 9 (f2 ai (f2 ai (ae 0) (fC (.int 1))) (f2 cI (f2 eB (ae 2) (fC (.int 128))) (fL cX (ac (f2 ai (ae 0) (fC (.int 1))) af))))) (ak (aG 10 (fNew "Drop" ["name","value"] (ac (f2 ai (ae 9) (fC (.int 0))) (ac (f2 bm (f2 ai (f2 ai (ae 9) (fC (.int 1))) (fC (.int 1))) (f2 cI (f2 eB (ae 2) (fC (.int 512))) (fC (.int 12)))) af)))) (ak (DC (f2 ai (f2 ai (ae 0) (fC (.int 0))) (fC (.int 0))) (gT 2 (sC [11,12]))) (ak (aG 13 (fNew "Sieve" ["name","kind"] (ac (ae 11) (ac (aO (ac (fC (.str "number")) (ac (f2 bm (f2 ai (ae 12) (fC (.int 1))) (f2 cI (f2 eB (ae 2) (fC (.int 8192))) (fC (.int 2)))) (ac (f2 bm (f2 ai (ae 12) (fC (.int 1))) (fC (.int 4))) af)))) af)))) (aB (f2 ai (dC (ac (dC (ac (ae 7) (ac (ae 8) af))) (ac (dC (ac (ae 10) (ac (ae 13) af))) (ac (dC (ac (ae 13) (ac (ae 10) af))) af)))) (f2 cI (f2 eB (ae 2) (fC (.int 16384))) (fC (.int 3)))))))))))))))
noncomputable def de:bE:=ak (aG 1 (f2 ai (dC (ac (fC (.int 0)) (ac (CZ (fC (.int 12))) (ac (f2 kU (fC (.int 0)) (f2 gP (fC (.int 12)) (f2 cI (f2 pS (ae 0) (fC (.int 7))) (f2 pS (fC (.int 10)) (fC (.int 40)))))) (ac (f2 gP (fC (.int 12)) (f2 cI (f2 pS (ae 0) (fC (.int 7))) (f2 pS (fC (.int 10)) (fC (.int 40))))) af))))) (f2 cI (ae 0) (fC (.int 4))))) (aB (aO (ac (fC (.str "number")) (ac (ae 1) (ac (f2 kU (f2 bm (ae 1) (f2 gP (fC (.int 12)) (f2 ai (dC (ac (fC (.int 1)) (ac (fC (.int 2)) (ac (fC (.int 5)) (ac (f2 pS (fC (.int 10)) (fC (.int 40))) af))))) (f2 cI (f2 eB (ae 0) (fC (.int 4))) (fC (.int 4)))))) (fC (.int 1))) af)))))
noncomputable def bG:bE:=ak (rj 4 (dC af)) (ak (nY (fA (ac (ae 3) af)) (gN 5) (ak (aG 0 (fR (aj bW 1 1) (ac (ae 0) af))) (ak (D5 4 oB (ac (aO (ac (fR (aj aT 2 7) (ac (ae 1) (ac (f2 bm (ae 2) (ae 5)) af))) (ac (fR (aj de 1 2) (ac (ae 0) af)) af))) af)) (fG [5] aN)))) (AW 4 (aB (fL fH (ac (ae 4) af)))))
noncomputable def nB:bE:=ak (aG 1 (f2 cI (f2 gP (fR (aj cU 2 2) (ac (ae 0) (ac (fC (.int 1)) af))) (fC (.int 48271))) (fC (.int 2147483647)))) (ak (aG 2 (fR (aj cN 2 3) (ac (ae 0) (ac (fC (.int 0)) af)))) (ak (aG 3 (aO (ac (fR (aj bG 4 6) (ac (fR (aj bW 1 1) (ac (ae 2) af)) (ac (ae 1) (ac (fC (.int 0)) (ac (f2 bm (fC (.int 2)) (f2 cI (ae 2) (fC (.int 3)))) af))))) (ac (fR (aj bG 4 6) (ac (f2 bm (fR (aj bW 1 1) (ac (ae 2) af)) (fC (.int 1))) (ac (ae 1) (ac (fC (.int 5)) (ac (f2 bm (fC (.int 2)) (f2 cI (f2 eB (ae 2) (fC (.int 8))) (fC (.int 3)))) af))))) af)))) (ak (aG 4 (iC [none,some 1] (fA (ac (fC (.int 5)) af)) (gN 0) dg (fR (aj aT 2 7) (ac (ae 1) (ac (f2 bm (fC (.int 10)) (ae 0)) af))))) (ak (aG 5 (fR (aj aT 2 7) (ac (ae 1) (ac (fC (.int 20)) af)))) (fG [1,2] (ak (nY (lA (ac (fC (.int 2)) (ac (fL ny (ac (fL nE (ac (fL cX (ac (ae 0) af)) (ac (fC (.int 4)) af))) (ac (fC (.int 17)) af))) af))) (gN 6) (ak (aG 2 (fR (aj cN 2 3) (ac (ae 0) (ac (ae 6) af)))) (ak (dG (jg (aJ (fR (aj cK 3 6) (ac (ae 3) (ac (ae 5) (ac (fR (aj b7 3 14) (ac (ae 3) (ac (ae 4) (ac (f2 eB (ae 2) (fC (.int 5))) af)))) af)))))) (aB (fC (.bl false))) aN) (ak (aG 7 (dC (ac (fR (aj bj 3 8) (ac (ae 3) (ac (ae 4) (ac (ae 2) af)))) (ac (fR (aj cA 3 8) (ac (ae 3) (ac (ae 4) (ac (ae 2) af)))) (ac (fR (aj cm 3 7) (ac (ae 3) (ac (ae 4) (ac (ae 2) af)))) af))))) (fG [1,2,6] (ak (nY (cu (ae 7)) (gT 2 (sC [8,9])) (ak (dG (jg (aJ (fR (aj cK 3 6) (ac (ae 8) (ac (ae 5) (ac (ae 9) af)))))) (aB (fC (.bl false))) aN) (fG [8,9] aN))) (fG [2,6,7,8,9] aN))))))) (aB (fC (.bl true)))))))))
set_option hygiene false
local macro_rules|`(tactic|ktr_call $p $e)=>`(tactic|((with_reducible show $p);refine $e))
local macro_rules|`(tactic|walk_at "A")=>`(tactic|first|ktr_call (su _ _ (ak _ _)) (wG ?_ ?_)|ktr_call (su _ _ (fG _ _)) (xR _ ?_)|ktr_call (su _ _ (AW _ _)) (Ae _ ?_)|ktr_call (su _ _ aN) yY|ktr_call (su _ _ cO) ym|refine Av ?_)
local macro_rules|`(tactic|walk_at "B")=>`(tactic|first|ktr_call (XS _ _ (aG _ (iC _ _ _ _ _))) (NS (by first|assumption|exact ug rfl) rfl (by first|exact j9 rfl|exact iN rfl) ?_ ?_)|ktr_call (XS _ _ (aG _ _)) (xs _ (by first|assumption|exact ug rfl) ?_)|ktr_call (XS _ _ (aB _)) (BU ?_)|ktr_call (XS _ _ (dG _ _ _)) (G6 ?_ ?_ ?_)|ktr_call (XS _ _ aN) Af|ktr_call (XS _ _ aN) BL|ktr_call (XS _ _ cO) zT|ktr_call (XS _ _ (nU _)) (yw ?_)|ktr_call (XS _ _ (nY _ _ _)) (Cw hp rfl ?_ ?_ ?_)|ktr_call (XS _ _ (rj _ (iC _ _ _ _ _))) (Nb (by first|assumption|exact ug rfl) rfl (by first|exact j9 rfl|exact iN rfl) ?_ ?_)|ktr_call (XS _ _ (rj _ _)) (C4 (by first|assumption|exact ug rfl) rfl (by first|exact Or.inl rfl|exact Or.inr rfl) ?_)|ktr_call (XS _ _ (D5 _ oB _)) (Gc PySem.F.slot_list_append PySem.F.type_list_append qt wo (xv _) ?_)|ktr_call (XS _ _ (DC _ _)) (C2 ?_ ?_))
local macro_rules|`(tactic|walk_at "C")=>`(tactic|first|ktr_call (XT _ _ (aJ _)) (xP ?_)|ktr_call (XT _ _ (fB (f2 fw _ _))) (fU (zJ hr.units) bK ?_ ?_ (fO _))|ktr_call (XT _ _ (fB (f2 mC _ _))) (fU (AX hr.units) bK ?_ ?_ (fO _))|ktr_call (XT _ _ (jg _)) (CM ?_)|ktr_call (XT _ _ (vm _ _)) (Mq ?_)|ktr_call (XT _ _ (mJ _ _)) (Mq ?_)|ktr_call (XT _ _ (fB (f2 vw _ _))) (fU (Az hr.units) bK ?_ ?_ rfl)|ktr_call (XT _ _ (fB (fJ sI n5 _ _ _))) (qP nN cF (sf hr.units) bK ?_ ?_ ?_)|ktr_call (XT _ _ (fB (fJ sI sI _ _ _))) (qP nN cF nN cF ?_ ?_ ?_)|ktr_call (XT _ _ (fB (f2 He _ _))) (fU DW cF ?_ ?_ (fO _))|ktr_call (XT _ _ (fB (sZ _))) (C9 ?_)|ktr_call (XT _ _ (fB (f2 sI _ _))) (fU nN cF ?_ ?_ (fO _))|ktr_call (XT _ _ (fB (f2 G7 _ _))) (fU D4 cF ?_ ?_ (fO _))|ktr_call (XT _ _ (fB (f2 iR _ _))) (fU (qi hr.units) bK ?_ ?_ rfl)|ktr_call (XT _ _ (fB (f2 n5 _ _))) (fU (sf hr.units) bK ?_ ?_ (fO _))|ktr_call (XT _ _ (fB (f2 o6 _ _))) (fU (qK hr.units) bK ?_ ?_ rfl))
local macro_rules|`(tactic|walk_at "D")=>`(tactic|first|ktr_call (XW _ _ (mJ _ _)) (C5 ?_ ?_)|ktr_call (XW _ _ (vm _ _)) (GA ?_ ?_)|refine y9 ?_|refine CH ?_)
local macro_rules|`(tactic|walk_at "F")=>`(tactic|first|ktr_call (XI _ _ _ (cu _)) (Ds ?_)|ktr_call (XI _ _ _ (fA _)) (uv rfl (by walk_at "a") ?_)|ktr_call (XI _ _ _ (lA _)) (uH rfl (by walk_at "a") ?_)|ktr_call (XI _ _ _ (Cg _)) (Cz rfl (by walk_at "a") ?_)|ktr_call (XI _ _ _ (fh _)) (pP rfl (by walk_at "a") ?_))
local macro_rules|`(tactic|walk_at "L")=>`(tactic|first|ktr_call (XN _ _ (dC _)) (DI ?_)|ktr_call (XN _ _ (iC _ _ _ _ _)) (NT rfl (by first|exact j9 rfl|exact iN rfl) ?_ ?_)|ktr_call (XN _ _ (gK [_])) (xj ?_ ?_))
local macro_rules|`(tactic|walk_at "M")=>`(tactic|first|with_reducible refine B5 ?_|ktr_call (XE _ _ (ae _)) (xw _)|ktr_call (XE _ _ (fC .non)) Cb|ktr_call (XE _ _ (fC (.int _))) B1|ktr_call (XE _ _ (fC (.int _))) (y8 rfl (by walk_at "a"))|ktr_call (XE _ _ (f2 ai _ _)) (xi ?_ ?_)|ktr_call (XE _ _ (f1 (aq _ _) _)) (CY (by walk_at "a") ?_)|ktr_call (XE _ _ (fR _ _)) (ul (by walk_at "a") (by first|exact dZ|walk_at "a") hr ‹0› ?_)|ktr_call (XE _ _ (aO _)) (DA ?_)|ktr_call (XE _ _ (fC (.str _))) Dq|ktr_call (XE _ _ (f2 bm _ _)) (iS DJ bK ?_ ?_)|ktr_call (XE _ _ (dC _)) (Du ?_)|ktr_call (XE _ _ (f2 fw _ _)) (fT (zJ hr.units) bK ?_ ?_ (fO _))|ktr_call (XE _ _ (fNew _ _ _)) (BO (by walk_at "a") hr ‹0› rfl ?_)|ktr_call (XE _ _ (f2 cI _ _)) (iS GU FZ ?_ ?_)|ktr_call (XE _ _ (fL cX _)) (iB wy rfl (by walk_at "a") PySem.boot_len ?_)|ktr_call (XE _ _ (cv _ _ _ (ac _ _))) (yW (by walk_at "a") hr ‹0› ?_ ?_)|ktr_call (XE _ _ (cv _ _ _ af)) (wH (by walk_at "a") hr ‹0› ?_)|ktr_call (XE _ _ (f1 (aX _ _) _)) (Dk (by walk_at "a") rfl (by walk_at "a") rfl ?_)|ktr_call (XE _ _ (f2 eB _ _)) (iS zX Gj ?_ ?_)|ktr_call (XE _ _ (f2 mC _ _)) (fT (AX hr.units) bK ?_ ?_ (fO _))|ktr_call (XE _ _ (iC _ _ _ _ _)) (xl rfl (by first|exact j9 rfl|exact iN rfl) ?_ ?_)|ktr_call (XE _ _ (f2 kU _ _)) (iS FD Gq ?_ ?_)|ktr_call (XE _ _ (vd _ _ _)) (FH ?_ ?_ ?_)|ktr_call (XE _ _ (fC (.bl _))) G3|ktr_call (XE _ _ (gB _ _)) (Dn ?_ ?_)|ktr_call (XE _ _ (f2 gP _ _)) (iS yX z9 ?_ ?_)|ktr_call (XE _ _ (f2 vw _ _)) (fT (Az hr.units) bK ?_ ?_ rfl)|ktr_call (XE _ _ (f2 pS _ _)) (iS Ge GI ?_ ?_)|ktr_call (XE _ _ (n6 "int" _)) (n8 Ag rfl (by walk_at "a") rfl (by walk_at "a") PyProof.Rows.boot_int ?_)|ktr_call (XE _ _ (n6 "bool" _)) (n8 yi rfl (by walk_at "a") rfl (by walk_at "a") PyProof.Rows.boot_bool ?_)|ktr_call (XE _ _ (n6 "str" _)) (n8 zu rfl (by walk_at "a") rfl (by walk_at "a") RA ?_)|ktr_call (XE _ _ (n6 "tuple" _)) (n8 uz rfl (by walk_at "a") rfl (by walk_at "a") RB ?_)|ktr_call (XE _ _ (fJ sI n5 _ _ _)) (qo nN cF (sf hr.units) bK ?_ ?_ ?_)|ktr_call (XE _ _ (fJ sI sI _ _ _)) (qo nN cF nN cF ?_ ?_ ?_)|ktr_call (XE _ _ (fL uU _)) (iB (wL rfl) rfl (by walk_at "a") PyProof.Rows.boot_all ?_)|ktr_call (XE _ _ (f2 G7 _ _)) (fT D4 cF ?_ ?_ (fO _))|ktr_call (XE _ _ (js _ _ _)) (xH ?_ ?_ ?_)|ktr_call (XE _ _ (fL fH _)) (oy tu rfl (by walk_at "a") RB ?_)|ktr_call (XE _ _ (f2 He _ _)) (fT DW cF ?_ ?_ (fO _))|ktr_call (XE _ _ (sZ _)) (B8 ?_)|ktr_call (XE _ _ (tx _)) (CJ ?_)|ktr_call (XE _ _ (AR _ _)) (Es ?_ ?_)|ktr_call (XE _ _ (fL nE _)) (iB (ut rfl) rfl (by walk_at "a") PyProof.Rows.boot_max ?_)|ktr_call (XE _ _ (fL ny _)) (iB (uN rfl) rfl (by walk_at "a") PyProof.Rows.boot_min ?_)|ktr_call (XE _ _ (fL tq _)) (iB (xr rfl) rfl (by walk_at "a") PyProof.Rows.boot_any ?_)|ktr_call (XE _ _ (f2 n5 _ _)) (fT (sf hr.units) bK ?_ ?_ (fO _))|ktr_call (XE _ _ (f2 sI _ _)) (fT nN cF ?_ ?_ (fO _))|ktr_call (XE _ _ (f2 iR _ _)) (fT (qi hr.units) bK ?_ ?_ rfl)|ktr_call (XE _ _ (CZ _)) (BJ ?_)|ktr_call (XE _ _ (f2 qD _ _)) (zY hr.units ?_ ?_ (fun _ _=>rfl))|ktr_call (XE _ _ (gK [_])) (wV ?_ ?_)|ktr_call (XE _ _ (gK [_, _])) (xV ?_ ?_ ?_ ?_)|ktr_call (XE _ _ (gK [_, _, _])) (xN ?_ ?_ ?_ ?_ ?_ ?_)|ktr_call (XE _ _ (f1 (qL _) _)) (zR rfl rfl (by walk_at "a") ?_)|ktr_call (XE _ _ Aj) AK|ktr_call (XE _ _ (f2 vP _ _)) (iS BW bK ?_ ?_)|ktr_call (XE _ _ (f2 o6 _ _)) (fT (qK hr.units) bK ?_ ?_ rfl)|ktr_call (XE _ _ (fL y6 _)) (oy wD rfl (by walk_at "a") RA ?_))
local macro_rules|`(tactic|walk_at "d")=>`(tactic|((first|((with_reducible show XE _ _ _);walk_at "M")|((with_reducible show XA _ _ _);first|ktr_call (XA _ _ (ac _ _)) (AY ?_ ?_)|ktr_call (XA _ _ af) B7)|((with_reducible show XS _ _ _);walk_at "B")|((with_reducible show su _ _ _);walk_at "A")|((with_reducible show XT _ _ _);walk_at "C")|((with_reducible show XW _ _ _);walk_at "D")|((with_reducible show XI _ _ _ _);walk_at "F")|((with_reducible show XG _ _ _);first|ktr_call (XG _ _ (gN _)) (zP (by first|assumption|exact ug rfl) rfl (by first|exact Or.inl rfl|exact Or.inr rfl))|ktr_call (XG _ _ (gT _ _)) (BI rfl ?_))|((with_reducible show GK _ _ _);first|ktr_call (GK _ _ (sC (_ :: _))) (xQ ?_ ?_)|ktr_call (GK _ _ (sC [])) z6)|((with_reducible show XO _ _ _);first|ktr_call (XO _ _ gA) AD|ktr_call (XO _ _ (nM _)) (Ah ?_))|((with_reducible show Hm _ _ _);first|ktr_call (Hm _ _ dg) Ax|refine yN ?_)|((with_reducible show pM _ _ _ _ _ _ _ _ _);first|refine ⟨fun _ _ _ _ _ _=>⟨?_, ?_, ?_⟩⟩)|((with_reducible show XN _ _ _);walk_at "L"))<;>walk_at "d"))
local macro_rules | `(tactic| walk_at "a") => `(tactic| first | assumption | exact q.2 | exact q.1.2 | exact q.1.1.2 | exact q.1.1.1.2 | exact q.1.1.1.1.2 | exact q.1.1.1.1.1.2 | exact q.1.1.1.1.1.1.2 | exact q.1.1.1.1.1.1.1.2 | (replace q := q.1.1.1.1.1.1.1.1; walk_at "a") | exact q.1 | exact q.1.1 | exact q.1.1.1 | exact q.1.1.1.1 | exact q.1.1.1.1.1 | exact q.1.1.1.1.1.1 | exact q.1.1.1.1.1.1.1)
local macro_rules | `(tactic| walk_at "b") => `(tactic| (intro us hl _ _ _ _ _ _; first | (obtain ⟨a, rfl⟩ := Hi hl; rfl) | (obtain ⟨a, b, rfl⟩ := Cr hl; rfl) | (obtain ⟨a, b, c, rfl⟩ := uC hl; rfl) | (obtain ⟨a, b, c, d, rfl⟩ := Gg hl; rfl)))
local macro_rules | `(tactic| walk_at "m") => `(tactic| ((· walk_at "a"); (· walk_at "b"); (· exact ‹2›); first | refine fun nd f => ⟨fun cdv A outer s H E hr hp => ?_⟩ | intro nd f A outer s H E hr hp))
local macro_rules | `(tactic| ktn_call $m $b:ident) => `(tactic| ((first | (apply Bq $m; walk_at "m") | (apply HC $m; walk_at "m")); unfold $b; walk_at "d"))
local macro_rules | `(tactic| walk_at "t") => `(tactic| first | exact Cy | (refine z5 (MethAt.mono (by walk_at "a") (by first | decide | omega)) (by first | exact dZ | walk_at "a") ?_; walk_at "t"))
section
variable{u:U}
noncomputable def Q0(u:U):Prop:=(((((((((((((((((((((((((((((((((((((((((((((((((((((((((((((((((((((((((((((((((Je u (Je u (Zs u ["isinstance","str","tuple","len","enumerate","max","min","all","int","bool","any","range","zip"]) [("written",top 47),("parts_of",top 32),("steps_of",top 69),("renamed",top 66),("kind_at",top 40),("names_of",top 24),("place_of",top 25),("both_words",top 18),("both_numbers",top 17),("both",top 16),("kinds_of",top 15),("single",top 19),("is_behind",top 68),("same_parts",top 67),("instead",top 65),("depth_of",top 26),("is_whole",top 13),("replaced",top 42),("in_key",top 41),("with_fields",top 43),("least",top 20),("least_row",top 38),("named_elsewhere",top 44),("second_value",top 73),("check_key",top 72),("has_parts",top 14),("keys_rise",top 37),("fits",top 34),("keeps",top 35),("is_row",top 36)]) [("is_idle",top 64),("laid_over",top 63),("thin",top 62),("thinned",top 61),("_law_stay",top 81),("_law_nested_two",top 85),("_law_fused_two",top 84),("_law_parted_two",top 83),("_law_plain_two",top 82),("_law_next",top 76),("_law_cell_at",top 75),("_law_seed",top 77),("_law_name",top 78),("_law_twelves",top 79),("_law_fields",top 80)])/\∃t,u.mg "MOST_WITHIN"=some (.int 3 t))/\∃t,u.mg "MOST_FIELDS"=some (.int 8 t))/\∃t,u.mg "LEAST_BY"=some (.int 2 t))/\∃t,u.mg "MOST_BY"=some (.int 1000000000 t))/\aQ u.K "name" ["Nest"])/\aQ u.K "many" ["Nest"])/\aQ u.K "name" ["Unnest"])/\aQ u.K "rest" ["Part"])/\aQ u.K "quotient" ["Part"])/\aQ u.K "by" ["Part"])/\aQ u.K "name" ["Part"])/\aQ u.K "name" ["Fuse"])/\aQ u.K "by" ["Fuse"])/\aQ u.K "rest" ["Fuse"])/\aQ u.K "quotient" ["Fuse"])/\aQ u.K "new" ["Rename"])/\aQ u.K "old" ["Rename"])/\aQ u.K "kind" ["Sieve"])/\aQ u.K "name" ["Sieve"])/\aQ u.K "value" ["Drop"])/\aQ u.K "name" ["Drop"])/\aQ u.K "glass" ["Over"])/\aQ u.K "step" ["Over"])/\aQ u.K "one" ["Both"])/\aQ u.K "other" ["Both"])/\aQ u.K "pair" ["Both"])/\aQ u.K "rest" ["Part","Fuse"])/\aQ u.K "quotient" ["Part","Fuse"])/\aQ u.K "by" ["Part","Fuse"])/\aQ u.K "name" ["Leaf","Nest","Unnest","Part","Fuse","Sieve","Drop"])/\aQ u.K "name" ["Leaf"])/\cE u.P u.w u.K u.mg u.base 1 "Rename" ["self","old","new"] ["old","new"])/\cE u.P u.w u.K u.mg u.base 1 "Sieve" ["self","name","kind"] ["name","kind"])/\cE u.P u.w u.K u.mg u.base 1 "Over" ["self","glass","step"] ["glass","step"])/\cE u.P u.w u.K u.mg u.base 1 "Both" ["self","one","other","pair"] ["one","other","pair"])/\cE u.P u.w u.K u.mg u.base 1 "Leaf" ["self","name"] ["name"])/\cE u.P u.w u.K u.mg u.base 1 "Nest" ["self","many","name"] ["many","name"])/\cE u.P u.w u.K u.mg u.base 1 "Unnest" ["self","name"] ["name"])/\cE u.P u.w u.K u.mg u.base 1 "Fuse" ["self","quotient","rest","by","name"] ["quotient","rest","by","name"])/\cE u.P u.w u.K u.mg u.base 1 "Part" ["self","name","by","quotient","rest"] ["name","by","quotient","rest"])/\cE u.P u.w u.K u.mg u.base 1 "Drop" ["self","name","value"] ["name","value"])/\eL u.K u.mg "Over" ["Over"] ["Leaf","Both"])/\eL u.K u.mg "Both" ["Both"] ["Leaf","Over"])/\eL u.K u.mg "Rename" ["Rename"] ["Nest","Unnest","Part","Fuse","Sieve","Drop"])/\eL u.K u.mg "Sieve" ["Sieve"] ["Nest","Unnest","Part","Fuse","Rename","Drop"])/\eL u.K u.mg "Part" ["Part"] ["Nest","Unnest","Fuse","Rename","Sieve","Drop"])/\eL u.K u.mg "Fuse" ["Fuse"] ["Nest","Unnest","Part","Rename","Sieve","Drop"])/\eL u.K u.mg "Nest" ["Nest"] ["Unnest","Part","Fuse","Rename","Sieve","Drop"])/\eL u.K u.mg "Unnest" ["Unnest"] ["Nest","Part","Fuse","Rename","Sieve","Drop"])/\eL u.K u.mg "Leaf" ["Leaf"] ["Over","Both"])/\Dm u "Nest" "words" "Nest.words" (inClass (top 49) 1))/\Dm u "Unnest" "words" "Unnest.words" (inClass (top 50) 1))/\Dm u "Part" "words" "Part.words" (inClass (top 54) 1))/\Dm u "Fuse" "words" "Fuse.words" (inClass (top 55) 1))/\Dm u "Rename" "words" "Rename.words" (inClass (top 57) 1))/\Dm u "Sieve" "words" "Sieve.words" (inClass (top 59) 1))/\Dm u "Drop" "words" "Drop.words" (inClass (top 71) 1))/\Dm u "Nest" "exact" "Step.exact" (inClass (top 46) 4))/\Dm u "Part" "exact" "Step.exact" (inClass (top 46) 4))/\Dm u "Fuse" "exact" "Step.exact" (inClass (top 46) 4))/\Dm u "Rename" "exact" "Step.exact" (inClass (top 46) 4))/\Dm u "Unnest" "exact" "Unnest.exact" (inClass (top 50) 5))/\Dm u "Sieve" "exact" "Sieve.exact" (inClass (top 59) 5))/\Dm u "Drop" "exact" "Drop.exact" (inClass (top 71) 5))/\Dm u "Leaf" "form" "Leaf.form" (inClass (top 29) 2))/\Dm u "Leaf" "names" "Leaf.names" (inClass (top 29) 1))/\Dm u "Over" "names" "Over.names" (inClass (top 30) 1))/\Dm u "Both" "names" "Both.names" (inClass (top 31) 1))/\Dm u "Nest" "view_form" "Nest.view_form" (inClass (top 49) 2))/\Dm u "Unnest" "view_form" "Unnest.view_form" (inClass (top 50) 2))/\Dm u "Part" "check_ends" "Part.check_ends" (inClass (top 54) 4))/\Dm u "Part" "check_names" "Part.check_names" (inClass (top 54) 3))/\Dm u "Part" "view_form" "Part.view_form" (inClass (top 54) 2))/\Dm u "Fuse" "check_kinds" "Fuse.check_kinds" (inClass (top 55) 3))/\Dm u "Fuse" "view_form" "Fuse.view_form" (inClass (top 55) 2))/\Dm u "Rename" "view_form" "Rename.view_form" (inClass (top 57) 2))/\Dm u "Sieve" "view_form" "Sieve.view_form" (inClass (top 59) 2))/\Dm u "Drop" "view_form" "Drop.view_form" (inClass (top 71) 2))/\Dm u "Over" "form" "Over.form" (inClass (top 30) 2))/\Dm u "Both" "form" "Both.form" (inClass (top 31) 2))
noncomputable def Q1(u:U):Prop:=Q0 u/\Ca u 1 "written" ["value"] (aj cW 1 1)
theorem e1(q:Q0 u):Q1 u:=⟨q,(by ktn_call [] cW)⟩
noncomputable def Q2(u:U):Prop:=Q1 u/\Ma u 2 "Nest" "words" ["self"] (aj bV 1 1)
theorem e2(q:Q1 u):Q2 u:=⟨q,(by ktn_call [] bV)⟩
noncomputable def Q3(u:U):Prop:=Q2 u/\Ma u 1 "Unnest" "words" ["self"] (aj bz 1 1)
theorem e3(q:Q2 u):Q3 u:=⟨q,(by ktn_call [] bz)⟩
noncomputable def Q4(u:U):Prop:=Q3 u/\Ma u 2 "Part" "words" ["self"] (aj bQ 1 1)
theorem e4(q:Q3 u):Q4 u:=⟨q,(by ktn_call [] bQ)⟩
noncomputable def Q5(u:U):Prop:=Q4 u/\Ma u 2 "Fuse" "words" ["self"] (aj bS 1 1)
theorem e5(q:Q4 u):Q5 u:=⟨q,(by ktn_call [] bS)⟩
noncomputable def Q6(u:U):Prop:=Q5 u/\Ma u 1 "Rename" "words" ["self"] (aj bu 1 1)
theorem e6(q:Q5 u):Q6 u:=⟨q,(by ktn_call [] bu)⟩
noncomputable def Q7(u:U):Prop:=Q6 u/\Ma u 2 "Sieve" "words" ["self"] (aj bH 1 1)
theorem e7(q:Q6 u):Q7 u:=⟨q,(by ktn_call [] bH)⟩
noncomputable def Q8(u:U):Prop:=Q7 u/\Ma u 2 "Drop" "words" ["self"] (aj bU 1 1)
theorem e8(q:Q7 u):Q8 u:=⟨q,(by ktn_call [] bU)⟩
theorem lu(q:Q8 u):∀n:Nat,Ca u (0+n) "parts_of" ["glass"] (aV n)
 |0=>by
  rw[aV];exact Dp (by walk_at "a") (by walk_at "b")
 |n+1=>by
  have ih:=lu q n;have c0:=ih;have a0:=kA n;rw[dR];apply Bq (k:=0+n) [];walk_at "m";unfold gk;walk_at "d"
noncomputable def Q9(u:U):Prop:=(Q8 u/\Ca u (12) "parts_of" ["glass"] (aV 12))/\Ar 1 (aV 12)
theorem e9(q:Q8 u):Q9 u:=⟨⟨q,(lu q 12)⟩,kA 12⟩
noncomputable def Kg(u:U):Prop:=Q9 u/\Ca u 13 "steps_of" ["glass"] (aj gu 1 1)
theorem e10(q:Q9 u):Kg u:=⟨q,(by ktn_call [] gu)⟩
noncomputable def KY(u:U):Prop:=Kg u/\Ca u 3 "renamed" ["old","new"] (aj ig 2 2)
theorem Hf(q:Kg u):KY u:=⟨q,(by ktn_call [] ig)⟩
noncomputable def Ki(u:U):Prop:=(((KY u/\Ma u 1 "Nest" "exact" ["self","form"] (aj ax 2 2))/\Ma u 1 "Part" "exact" ["self","form"] (aj ax 2 2))/\Ma u 1 "Fuse" "exact" ["self","form"] (aj ax 2 2))/\Ma u 1 "Rename" "exact" ["self","form"] (aj ax 2 2)
theorem ND(q:KY u):Ki u:=⟨⟨⟨⟨q,(by ktn_call [] ax)⟩,(by ktn_call [] ax)⟩,(by ktn_call [] ax)⟩,(by ktn_call [] ax)⟩
noncomputable def Mh(u:U):Prop:=Ki u/\Ca u 1 "kind_at" ["form","place"] (aj bF 2 2)
theorem N9(q:Ki u):Mh u:=⟨q,(by ktn_call [] bF)⟩
noncomputable def Mf(u:U):Prop:=Mh u/\Ca u 1 "names_of" ["form"] (aj cQ 1 1)
theorem Og(q:Mh u):Mf u:=⟨q,(by ktn_call [] cQ)⟩
noncomputable def KN(u:U):Prop:=Mf u/\Ca u 2 "place_of" ["form","name"] (aj bp 2 4)
theorem ML(q:Mf u):KN u:=⟨q,(by ktn_call ["place","other"] bp)⟩
noncomputable def J8(u:U):Prop:=KN u/\Ma u 3 "Unnest" "exact" ["self","form"] (aj bT 2 2)
theorem N7(q:KN u):J8 u:=⟨q,(by ktn_call [] bT)⟩
noncomputable def Kc(u:U):Prop:=J8 u/\Ca u 1 "both_words" ["one","other"] (aj iJ 2 3)
theorem Oc(q:J8 u):Kc u:=⟨q,(by ktn_call ["words"] iJ)⟩
noncomputable def KW(u:U):Prop:=Kc u/\Ca u 1 "both_numbers" ["one","other"] (aj dF 2 4)
theorem Ni(q:Kc u):KW u:=⟨q,(by ktn_call ["low","high"] dF)⟩
noncomputable def Ky(u:U):Prop:=KW u/\Ca u 2 "both" ["one","other"] (aj kL 2 2)
theorem M2(q:KW u):Ky u:=⟨q,(by ktn_call [] kL)⟩
noncomputable def Kk(u:U):Prop:=Ky u/\Ma u 3 "Sieve" "exact" ["self","form"] (aj cc 2 3)
theorem e20(q:Ky u):Kk u:=⟨q,(by ktn_call ["kind"] cc)⟩
noncomputable def JH(u:U):Prop:=Kk u/\Ca u 1 "kinds_of" ["form"] (aj cR 1 1)
theorem MY(q:Kk u):JH u:=⟨q,(by ktn_call [] cR)⟩
theorem ou(q:JH u):∀n:Nat,Ca u (1+n) "single" ["kind"] (cJ n)
 |0=>by
  rw[cJ];exact Dp (by walk_at "a") (by walk_at "b")
 |n+1=>by
  have ih:=ou q n;have c0:=ih;have a0:=nQ n;rw[kG];apply Bq (k:=1+n) [];walk_at "m";unfold pp;walk_at "d"
noncomputable def Mi(u:U):Prop:=(JH u/\Ca u (13) "single" ["kind"] (cJ 12))/\Ar 1 (cJ 12)
theorem MD(q:JH u):Mi u:=⟨⟨q,(ou q 12)⟩,nQ 12⟩
noncomputable def L6(u:U):Prop:=Mi u/\Ma u 14 "Drop" "exact" ["self","form"] (aj dJ 2 2)
theorem M8(q:Mi u):L6 u:=⟨q,(by ktn_call [] dJ)⟩
noncomputable def Md(u:U):Prop:=L6 u/\Ca u 3 "is_behind" ["form","fuse"] (aj fD 2 2)
theorem M6(q:L6 u):Md u:=⟨q,(by ktn_call [] fD)⟩
noncomputable def KL(u:U):Prop:=Md u/\Ca u 1 "same_parts" ["one","other"] (aj cH 2 2)
theorem MH(q:Md u):KL u:=⟨q,(by ktn_call [] cH)⟩
noncomputable def Ke(u:U):Prop:=KL u/\Ta u 14 "exact" ["self","form"] [("Nest",(aj ax 2 2)),("Unnest",(aj bT 2 2)),("Part",(aj ax 2 2)),("Fuse",(aj ax 2 2)),("Rename",(aj ax 2 2)),("Sieve",(aj cc 2 3)),("Drop",(aj dJ 2 2))]
theorem Ny(q:KL u):Ke u:=⟨q,(by walk_at "t")⟩
noncomputable def Lg(u:U):Prop:=Ke u/\Ca u 15 "instead" ["form","lower","upper"] (aj aU 3 3)
theorem MO(q:Ke u):Lg u:=⟨q,(by ktn_call [] aU)⟩
noncomputable def KR(u:U):Prop:=Lg u/\Ma u 1 "Leaf" "form" ["self","forms"] (aj bJ 2 2)
theorem M1(q:Lg u):KR u:=⟨q,(by ktn_call [] bJ)⟩
noncomputable def JE(u:U):Prop:=KR u/\Ma u 1 "Leaf" "names" ["self"] (aj cx 1 1)
theorem NW(q:KR u):JE u:=⟨q,(by ktn_call [] cx)⟩
theorem ga(q:JE u):∀n:Nat,Ma u (1+n) "Over" "names" ["self"] (aC n)/\Ma u (1+n) "Both" "names" ["self"] (aD n)
 |0=>by
  rw[aC];rw[aD];exact⟨BM (by walk_at "a") (by walk_at "b"),BM (by walk_at "a") (by walk_at "b")⟩
 |n+1=>by
  have ih:=ga q n;have c0:=ih.1;have c1:=ih.2;have a0:=iW n;have a1:=iX n;have t0:Ta u (1+n) "names" ["self"] [("Leaf",(aj cx 1 1)),("Over",aC n),("Both",aD n)]:=by walk_at "t"
  rw[gI];rw[gJ];refine⟨?_,?_⟩
  ·apply HC (k:=1+n) [];walk_at "m";unfold iP;walk_at "d"
  ·apply HC (k:=1+n) [];walk_at "m";unfold iQ;walk_at "d"
noncomputable def Jw(u:U):Prop:=(((JE u/\Ma u (13) "Over" "names" ["self"] (aC 12))/\Ma u (13) "Both" "names" ["self"] (aD 12))/\Ar 1 (aC 12))/\Ar 1 (aD 12)
theorem M5(q:JE u):Jw u:=⟨⟨⟨⟨q,(ga q 12).1⟩,(ga q 12).2⟩,iW 12⟩,iX 12⟩
theorem lB(q:Jw u):∀n:Nat,Ca u (1+n) "depth_of" ["form"] (bg n)
 |0=>by
  rw[bg];exact Dp (by walk_at "a") (by walk_at "b")
 |n+1=>by
  have ih:=lB q n;have c0:=ih;have a0:=kz n;rw[fN];apply Bq (k:=1+n) [];walk_at "m";unfold iK;walk_at "d"
noncomputable def JU(u:U):Prop:=(Jw u/\Ca u (13) "depth_of" ["form"] (bg 12))/\Ar 1 (bg 12)
theorem N6(q:Jw u):JU u:=⟨⟨q,(lB q 12)⟩,kz 12⟩
noncomputable def L8(u:U):Prop:=JU u/\Ca u 1 "is_whole" ["value"] (aj fu 1 1)
theorem NB(q:JU u):L8 u:=⟨q,(by ktn_call [] fu)⟩
noncomputable def JO(u:U):Prop:=L8 u/\Ma u 14 "Nest" "view_form" ["self","form"] (aj bL 2 4)
theorem MN(q:L8 u):JO u:=⟨q,(by ktn_call ["key","inner"] bL)⟩
noncomputable def Li(u:U):Prop:=JO u/\Ma u 3 "Unnest" "view_form" ["self","form"] (aj bq 2 5)
theorem NX(q:JO u):Li u:=⟨q,(by ktn_call ["kind","key","inner"] bq)⟩
noncomputable def JT(u:U):Prop:=Li u/\Ca u 1 "replaced" ["values","place","others"] (aj dX 3 3)
theorem N8(q:Li u):JT u:=⟨q,(by ktn_call [] dX)⟩
noncomputable def JV(u:U):Prop:=JT u/\Ca u 1 "in_key" ["form","place"] (aj dP 2 2)
theorem MK(q:JT u):JV u:=⟨q,(by ktn_call [] dP)⟩
noncomputable def JL(u:U):Prop:=JV u/\Ca u 2 "with_fields" ["form","place","fields"] (aj aH 3 3)
theorem MQ(q:JV u):JL u:=⟨q,(by ktn_call [] aH)⟩
theorem qA(q:JL u):∀n:Nat,Ca u (1+n) "least" ["kind"] (cG n)
 |0=>by
  rw[cG];exact Dp (by walk_at "a") (by walk_at "b")
 |n+1=>by
  have ih:=qA q n;have c0:=ih;have a0:=pz n;rw[fQ];apply Bq (k:=1+n) [];walk_at "m";unfold kX;walk_at "d"
noncomputable def Mm(u:U):Prop:=(JL u/\Ca u (13) "least" ["kind"] (cG 12))/\Ar 1 (cG 12)
theorem Nm(q:JL u):Mm u:=⟨⟨q,(qA q 12)⟩,pz 12⟩
noncomputable def Kl(u:U):Prop:=Mm u/\Ca u 14 "least_row" ["form"] (aj eA 1 1)
theorem MR(q:Mm u):Kl u:=⟨q,(by ktn_call [] eA)⟩
noncomputable def Mg(u:U):Prop:=Kl u/\Ma u 15 "Part" "check_ends" ["self","form","place"] (aj bD 3 5)
theorem MP(q:Kl u):Mg u:=⟨q,(by ktn_call ["kind","row"] bD)⟩
noncomputable def LX(u:U):Prop:=Mg u/\Ca u 1 "named_elsewhere" ["form","name","places"] (aj bR 3 4)
theorem M7(q:Mg u):LX u:=⟨q,(by ktn_call ["fields"] bR)⟩
noncomputable def LR(u:U):Prop:=LX u/\Ma u 2 "Part" "check_names" ["self","form","place"] (aj bx 3 3)
theorem Nv(q:LX u):LR u:=⟨q,(by ktn_call [] bx)⟩
noncomputable def Mb(u:U):Prop:=LR u/\Ta u 2 "check_names" ["self","form","place"] [("Part",(aj bx 3 3))]
theorem MM(q:LR u):Mb u:=⟨q,(by walk_at "t")⟩
noncomputable def LQ(u:U):Prop:=Mb u/\Ta u 15 "check_ends" ["self","form","place"] [("Part",(aj bD 3 5))]
theorem Nw(q:Mb u):LQ u:=⟨q,(by walk_at "t")⟩
noncomputable def Ly(u:U):Prop:=LQ u/\Ma u 16 "Part" "view_form" ["self","form"] (aj bN 2 6)
theorem N3(q:LQ u):Ly u:=⟨q,(by ktn_call ["place","kind","quotients","rests"] bN)⟩
noncomputable def Ml(u:U):Prop:=Ly u/\Ma u 2 "Fuse" "check_kinds" ["self","form","place","gone"] (aj bA 4 4)
theorem K1(q:Ly u):Ml u:=⟨q,(by ktn_call [] bA)⟩
noncomputable def Lf(u:U):Prop:=Ml u/\Ta u 2 "check_kinds" ["self","form","place","gone"] [("Fuse",(aj bA 4 4))]
theorem MA(q:Ml u):Lf u:=⟨q,(by walk_at "t")⟩
noncomputable def Ko(u:U):Prop:=Lf u/\Ma u 3 "Fuse" "view_form" ["self","form"] (aj bM 2 6)
theorem M3(q:Lf u):Ko u:=⟨q,(by ktn_call ["place","gone","kind","numbers"] bM)⟩
noncomputable def LN(u:U):Prop:=Ko u/\Ma u 3 "Rename" "view_form" ["self","form"] (aj bw 2 3)
theorem NK(q:Ko u):LN u:=⟨q,(by ktn_call ["place"] bw)⟩
noncomputable def L5(u:U):Prop:=LN u/\Ma u 3 "Sieve" "view_form" ["self","form"] (aj bC 2 5)
theorem MT(q:LN u):L5 u:=⟨q,(by ktn_call ["place","kind","shown"] bC)⟩
noncomputable def Kd(u:U):Prop:=L5 u/\Ca u 1 "second_value" ["kind"] (aj gq 1 1)
theorem Nn(q:L5 u):Kd u:=⟨q,(by ktn_call [] gq)⟩
noncomputable def LC(u:U):Prop:=Kd u/\Ca u 15 "check_key" ["form","place"] (aj jG 2 6)
theorem Nt(q:Kd u):LC u:=⟨q,(by ktn_call ["many","kind","row","twin"] jG)⟩
noncomputable def Ln(u:U):Prop:=LC u/\Ca u 1 "has_parts" ["value","many"] (aj jl 2 2)
theorem NF(q:LC u):Ln u:=⟨q,(by ktn_call [] jl)⟩
noncomputable def Ju(u:U):Prop:=Ln u/\Ca u 1 "keys_rise" ["many","table"] (aj jx 2 3)
theorem Ng(q:Ln u):Ju u:=⟨q,(by ktn_call ["keys"] jx)⟩
theorem lq(q:Ju u):∀n:Nat,Ca u (1+n) "fits" ["kind","value"] (cV n)/\Ca u (1+n) "keeps" ["form","table"] (cC n)/\Ca u (1+n) "is_row" ["kinds","row"] (bY n)
 |0=>by
  rw[cV];rw[cC];rw[bY];exact⟨Dp (by walk_at "a") (by walk_at "b"),Dp (by walk_at "a") (by walk_at "b"),Dp (by walk_at "a") (by walk_at "b")⟩
 |n+1=>by
  have ih:=lq q n;have c0:=ih.1;have c1:=ih.2.1;have c2:=ih.2.2;have a0:=qE n;have a1:=o7 n;have a2:=nJ n;rw[jq];rw[lO];rw[kB];refine⟨?_,?_,?_⟩
  ·apply Bq (k:=1+n) [];walk_at "m";unfold rE;walk_at "d"
  ·apply Bq (k:=1+n) ["kinds"];walk_at "m";unfold rM;walk_at "d"
  ·apply Bq (k:=1+n) [];walk_at "m";unfold oC;walk_at "d"
noncomputable def J5(u:U):Prop:=(((((Ju u/\Ca u (13) "fits" ["kind","value"] (cV 12))/\Ca u (13) "keeps" ["form","table"] (cC 12))/\Ca u (13) "is_row" ["kinds","row"] (bY 12))/\Ar 2 (cV 12))/\Ar 2 (cC 12))/\Ar 2 (bY 12)
theorem Od(q:Ju u):J5 u:=⟨⟨⟨⟨⟨⟨q,(lq q 12).1⟩,(lq q 12).2.1⟩,(lq q 12).2.2⟩,qE 12⟩,o7 12⟩,nJ 12⟩
noncomputable def K3(u:U):Prop:=J5 u/\Ma u 16 "Drop" "view_form" ["self","form"] (aj bO 2 4)
theorem N5(q:J5 u):K3 u:=⟨q,(by ktn_call ["place","kind"] bO)⟩
noncomputable def LZ(u:U):Prop:=K3 u/\Ta u 16 "view_form" ["self","form"] [("Nest",(aj bL 2 4)),("Unnest",(aj bq 2 5)),("Part",(aj bN 2 6)),("Fuse",(aj bM 2 6)),("Rename",(aj bw 2 3)),("Sieve",(aj bC 2 5)),("Drop",(aj bO 2 4))]
theorem NI(q:K3 u):LZ u:=⟨q,(by walk_at "t")⟩
noncomputable def JD(u:U):Prop:=LZ u/\Ta u 13 "names" ["self"] [("Leaf",(aj cx 1 1)),("Over",(aC 12)),("Both",(aD 12))]
theorem N4(q:LZ u):JD u:=⟨q,(by walk_at "t")⟩
theorem gO(q:JD u):∀n:Nat,Ma u (16+n) "Over" "form" ["self","forms"] (ay n)/\Ma u (16+n) "Both" "form" ["self","forms"] (aA n)
 |0=>by
  rw[ay];rw[aA];exact⟨BM (by walk_at "a") (by walk_at "b"),BM (by walk_at "a") (by walk_at "b")⟩
 |n+1=>by
  have ih:=gO q n;have c0:=ih.1;have c1:=ih.2;have a0:=jC n;have a1:=jy n;have t0:Ta u (16+n) "form" ["self","forms"] [("Leaf",(aj bJ 2 2)),("Over",ay n),("Both",aA n)]:=by walk_at "t"
  rw[fq];rw[ip];refine⟨?_,?_⟩
  ·apply HC (k:=16+n) [];walk_at "m";unfold gM;walk_at "d"
  ·apply HC (k:=16+n) ["first","second","names"];walk_at "m";unfold jh;walk_at "d"
noncomputable def KP(u:U):Prop:=(((JD u/\Ma u (28) "Over" "form" ["self","forms"] (ay 12))/\Ma u (28) "Both" "form" ["self","forms"] (aA 12))/\Ar 2 (ay 12))/\Ar 2 (aA 12)
theorem MF(q:JD u):KP u:=⟨⟨⟨⟨q,(gO q 12).1⟩,(gO q 12).2⟩,jC 12⟩,jy 12⟩
noncomputable def Ka(u:U):Prop:=KP u/\Ta u 2 "words" ["self"] [("Nest",(aj bV 1 1)),("Unnest",(aj bz 1 1)),("Part",(aj bQ 1 1)),("Fuse",(aj bS 1 1)),("Rename",(aj bu 1 1)),("Sieve",(aj bH 1 1)),("Drop",(aj bU 1 1))]
theorem NM(q:KP u):Ka u:=⟨q,(by walk_at "t")⟩
noncomputable def LO(u:U):Prop:=Ka u/\Ca u 15 "is_idle" ["form","step"] (aj cY 2 2)
theorem NQ(q:Ka u):LO u:=⟨q,(by ktn_call [] cY)⟩
noncomputable def Jp(u:U):Prop:=LO u/\Ta u 28 "form" ["self","forms"] [("Leaf",(aj bJ 2 2)),("Over",(ay 12)),("Both",(aA 12))]
theorem Nc(q:LO u):Jp u:=⟨q,(by walk_at "t")⟩
theorem kD(q:Jp u):∀n:Nat,Ca u (28+n) "laid_over" ["forms","glass","step"] (bf n)
 |0=>by
  rw[bf];exact Dp (by walk_at "a") (by walk_at "b")
 |n+1=>by
  have ih:=kD q n;have c0:=ih;have a0:=jr n;rw[dI];apply Bq (k:=28+n) ["steps"];walk_at "m";unfold fE;walk_at "d"
noncomputable def JB(u:U):Prop:=(Jp u/\Ca u (40) "laid_over" ["forms","glass","step"] (bf 12))/\Ar 3 (bf 12)
theorem M4(q:Jp u):JB u:=⟨⟨q,(kD q 12)⟩,jr 12⟩
theorem tO(q:JB u):∀n:Nat,Ca u (40+n) "thin" ["forms","glass"] (dj n)
 |0=>by
  rw[dj];exact Dp (by walk_at "a") (by walk_at "b")
 |n+1=>by
  have ih:=tO q n;have c0:=ih;have a0:=qG n;rw[gE];apply Bq (k:=40+n) [];walk_at "m";unfold oY;walk_at "d"
noncomputable def Km(u:U):Prop:=(JB u/\Ca u (52) "thin" ["forms","glass"] (dj 12))/\Ar 2 (dj 12)
theorem NA(q:JB u):Km u:=⟨⟨q,(tO q 12)⟩,qG 12⟩
noncomputable def LV(u:U):Prop:=Km u/\Ca u 53 "thinned" ["forms","glass"] (aj hX 2 2)
theorem Oa(q:Km u):LV u:=⟨q,(by ktn_call [] hX)⟩
noncomputable def Kb(u:U):Prop:=LV u/\Ca u 54 "_law_stay" ["_law_form","_law_name_here","_law_steps"] (aj cK 3 6)
theorem NN(q:LV u):Kb u:=⟨q,(by ktn_call ["_law_glass","_law_step","_law_found"] cK)⟩
noncomputable def K8(u:U):Prop:=Kb u/\Ca u 3 "_law_nested_two" ["_law_form","_law_spare","_law_x"] (aj cm 3 7)
theorem MX(q:Kb u):K8 u:=⟨q,(by ktn_call ["_law_inner","_law_way","_law_nested","_law_many"] cm)⟩
noncomputable def Kn(u:U):Prop:=K8 u/\Ca u 3 "_law_fused_two" ["_law_form","_law_spare","_law_x"] (aj cA 3 8)
theorem NY(q:K8 u):Kn u:=⟨q,(by ktn_call ["_law_by","_law_number","_law_near","_law_fuse","_law_some"] cA)⟩
noncomputable def Lx(u:U):Prop:=Kn u/\Ca u 3 "_law_parted_two" ["_law_form","_law_spare","_law_x"] (aj bj 3 8)
theorem NR(q:Kn u):Lx u:=⟨q,(by ktn_call ["_law_by","_law_number","_law_wide","_law_way","_law_turned"] bj)⟩
noncomputable def Kh(u:U):Prop:=Lx u/\Ca u 3 "_law_plain_two" ["_law_form","_law_spare","_law_x"] (aj b7 3 14)
theorem Nx(q:Lx u):Kh u:=⟨q,(by ktn_call ["_law_fields_here","_law_at","_law_other","_law_low","_law_first","_law_last","_law_rest","_law_drop","_law_key","_law_kind","_law_sieve"] b7)⟩
noncomputable def LI(u:U):Prop:=Kh u/\Ca u 1 "_law_next" ["_law_x"] (aj bW 1 1)
theorem Nq(q:Kh u):LI u:=⟨q,(by ktn_call [] bW)⟩
noncomputable def Lc(u:U):Prop:=LI u/\Ca u 1 "_law_cell_at" ["_law_script","_law_k"] (aj cU 2 2)
theorem N2(q:LI u):Lc u:=⟨q,(by ktn_call [] cU)⟩
noncomputable def Ku(u:U):Prop:=Lc u/\Ca u 2 "_law_seed" ["_law_script","_law_k"] (aj cN 2 3)
theorem Of(q:Lc u):Ku u:=⟨q,(by ktn_call ["_law_x"] cN)⟩
noncomputable def KQ(u:U):Prop:=Ku u/\Ca u 1 "_law_name" ["_law_base","_law_k"] (aj aT 2 7)
theorem Nz(q:Ku u):KQ u:=⟨q,(by ktn_call ["_law_letters","_law_size","_law_name_here","_law_j","_law_step"] aT)⟩
noncomputable def JS(u:U):Prop:=KQ u/\Ca u 1 "_law_twelves" ["_law_x"] (aj de 1 2)
theorem NV(q:KQ u):JS u:=⟨q,(by ktn_call ["_law_low"] de)⟩
noncomputable def Mo(u:U):Prop:=JS u/\Ca u 2 "_law_fields" ["_law_x","_law_base","_law_start","_law_many"] (aj bG 4 6)
theorem Nh(q:JS u):Mo u:=⟨q,(by ktn_call ["_law_fields_here","_law_k"] bG)⟩
theorem HN{f:RH}{fd:Sn}(F:n9 u.K "law" "law" (top 86) f fd)(q:Mo u):gz u.P u.w u.K u.mg u.base (lQ u.P u.w) 55 f fd ["_law_script"] (ya u.K 1 (aj nB 1 10)):=by
 refine M0 ["_law_base","_law_x","_law_form","_law_spare","_law_name_here","_law_k","_law_some","_law_there","_law_steps"] F ?_ ?_
 ·exact‹2›
 refine λnd=>⟨λcdv A outer s H E hr hp=>?_⟩
 unfold nB;walk_at "d"
set_option hygiene true
variable{P:RN}{w:RM}{K:QG}{mg:cS}{base:RP}
theorem tG{C f:RH}{fd:Sn}(h1:clsAt K "Rename" C)(hM:Mk K C f)(cl:jv K C)(na:∀g∈(["old","new"]:av),dB K C g)(F:n9 K "__init__" "Rename.__init__" gC f fd)(b:Binds K fd ["self","old","new"] [])(hmg:mg "Rename"=some (.ref C)):cE P w K mg base 1 "Rename" ["self","old","new"] ["old","new"]:=
 dy (k:=0) h1 hM cl na F b hmg kS rfl (by decide +kernel) (by decide) λcdv A outer s H E=>(b8 rfl (pv 0) (pv 1) rfl (dz rfl (pv 0) (pv 2) rfl))
theorem vf{C f:RH}{fd:Sn}(h1:clsAt K "Sieve" C)(hM:Mk K C f)(cl:jv K C)(na:∀g∈(["name","kind"]:av),dB K C g)(F:n9 K "__init__" "Sieve.__init__" hU f fd)(b:Binds K fd ["self","name","kind"] [])(hmg:mg "Sieve"=some (.ref C)):cE P w K mg base 1 "Sieve" ["self","name","kind"] ["name","kind"]:=
 dy (k:=0) h1 hM cl na F b hmg lC rfl (by decide +kernel) (by decide) λcdv A outer s H E=>(b8 rfl (pv 0) (pv 1) rfl (dz rfl (pv 0) (pv 2) rfl))
theorem yp{C f:RH}{fd:Sn}(h1:clsAt K "Over" C)(hM:Mk K C f)(cl:jv K C)(na:∀g∈(["glass","step"]:av),dB K C g)(F:n9 K "__init__" "Over.__init__" iZ f fd)(b:Binds K fd ["self","glass","step"] [])(hmg:mg "Over"=some (.ref C)):cE P w K mg base 1 "Over" ["self","glass","step"] ["glass","step"]:=
 dy (k:=0) h1 hM cl na F b hmg me rfl (by decide +kernel) (by decide) λcdv A outer s H E=>(b8 rfl (pv 0) (pv 1) rfl (dz rfl (pv 0) (pv 2) rfl))
theorem yc{C f:RH}{fd:Sn}(h1:clsAt K "Both" C)(hM:Mk K C f)(cl:jv K C)(na:∀g∈(["one","other","pair"]:av),dB K C g)(F:n9 K "__init__" "Both.__init__" jd f fd)(b:Binds K fd ["self","one","other","pair"] [])(hmg:mg "Both"=some (.ref C)):cE P w K mg base 1 "Both" ["self","one","other","pair"] ["one","other","pair"]:=
 dy (k:=0) h1 hM cl na F b hmg mY rfl (by decide +kernel) (by decide) λcdv A outer s H E=>(b8 rfl (pv 0) (pv 1) rfl (b8 rfl (pv 0) (pv 2) rfl (dz rfl (pv 0) (pv 3) rfl)))
theorem x8{C f:RH}{fd:Sn}(h1:clsAt K "Leaf" C)(hM:Mk K C f)(cl:jv K C)(na:∀g∈(["name"]:av),dB K C g)(F:n9 K "__init__" "Leaf.__init__" jc f fd)(b:Binds K fd ["self","name"] [])(hmg:mg "Leaf"=some (.ref C)):cE P w K mg base 1 "Leaf" ["self","name"] ["name"]:=
 dy (k:=0) h1 hM cl na F b hmg mr rfl (by decide +kernel) (by decide) λcdv A outer s H E=>(dz rfl (pv 0) (pv 1) rfl)
theorem yo{C f:RH}{fd:Sn}(h1:clsAt K "Nest" C)(hM:Mk K C f)(cl:jv K C)(na:∀g∈(["many","name"]:av),dB K C g)(F:n9 K "__init__" "Nest.__init__" ja f fd)(b:Binds K fd ["self","many","name"] [])(hmg:mg "Nest"=some (.ref C)):cE P w K mg base 1 "Nest" ["self","many","name"] ["many","name"]:=
 dy (k:=0) h1 hM cl na F b hmg lZ rfl (by decide +kernel) (by decide) λcdv A outer s H E=>(b8 rfl (pv 0) (pv 1) rfl (dz rfl (pv 0) (pv 2) rfl))
theorem sO{C f:RH}{fd:Sn}(h1:clsAt K "Unnest" C)(hM:Mk K C f)(cl:jv K C)(na:∀g∈(["name"]:av),dB K C g)(F:n9 K "__init__" "Unnest.__init__" gG f fd)(b:Binds K fd ["self","name"] [])(hmg:mg "Unnest"=some (.ref C)):cE P w K mg base 1 "Unnest" ["self","name"] ["name"]:=
 dy (k:=0) h1 hM cl na F b hmg kH rfl (by decide +kernel) (by decide) λcdv A outer s H E=>(dz rfl (pv 0) (pv 1) rfl)
theorem wz{C f:RH}{fd:Sn}(h1:clsAt K "Fuse" C)(hM:Mk K C f)(cl:jv K C)(na:∀g∈(["quotient","rest","by","name"]:av),dB K C g)(F:n9 K "__init__" "Fuse.__init__" iU f fd)(b:Binds K fd ["self","quotient","rest","by","name"] [])(hmg:mg "Fuse"=some (.ref C)):cE P w K mg base 1 "Fuse" ["self","quotient","rest","by","name"] ["quotient","rest","by","name"]:=
 dy (k:=0) h1 hM cl na F b hmg lX rfl (by decide +kernel) (by decide) λcdv A outer s H E=>(b8 rfl (pv 0) (pv 1) rfl (b8 rfl (pv 0) (pv 2) rfl (b8 rfl (pv 0) (pv 3) rfl (dz rfl (pv 0) (pv 4) rfl))))
theorem xu{C f:RH}{fd:Sn}(h1:clsAt K "Part" C)(hM:Mk K C f)(cl:jv K C)(na:∀g∈(["name","by","quotient","rest"]:av),dB K C g)(F:n9 K "__init__" "Part.__init__" jb f fd)(b:Binds K fd ["self","name","by","quotient","rest"] [])(hmg:mg "Part"=some (.ref C)):cE P w K mg base 1 "Part" ["self","name","by","quotient","rest"] ["name","by","quotient","rest"]:=
 dy (k:=0) h1 hM cl na F b hmg mw rfl (by decide +kernel) (by decide) λcdv A outer s H E=>(b8 rfl (pv 0) (pv 1) rfl (b8 rfl (pv 0) (pv 2) rfl (b8 rfl (pv 0) (pv 3) rfl (dz rfl (pv 0) (pv 4) rfl))))
theorem wW{C f:RH}{fd:Sn}(h1:clsAt K "Drop" C)(hM:Mk K C f)(cl:jv K C)(na:∀g∈(["name","value"]:av),dB K C g)(F:n9 K "__init__" "Drop.__init__" iY f fd)(b:Binds K fd ["self","name","value"] [])(hmg:mg "Drop"=some (.ref C)):cE P w K mg base 1 "Drop" ["self","name","value"] ["name","value"]:=
 dy (k:=0) h1 hM cl na F b hmg nh rfl (by decide +kernel) (by decide) λcdv A outer s H E=>(b8 rfl (pv 0) (pv 1) rfl (dz rfl (pv 0) (pv 2) rfl))
end
theorem all_mk{l:QZ}{w:RM}{K:QG}{h:RP}{mg:cS}{fa:RH}(X:K.In h)(G:h.Ns RT mg)(hfa:mg "law"=some (.ref fa)){f1 f2:RH}
  (ac0:Ra K RT "Nest"=some (some (.ref Cl0)))
  (ac1:Ra K RT "Unnest"=some (some (.ref Cl1)))
  (ac2:Ra K RT "Part"=some (some (.ref Cl2)))
  (ac3:Ra K RT "Fuse"=some (some (.ref Cl3)))
  (ac4:Ra K RT "Rename"=some (some (.ref Cl4)))
  (ac5:Ra K RT "Sieve"=some (some (.ref Cl5)))
  (ac6:Ra K RT "Drop"=some (some (.ref Cl6)))
  (ac7:Ra K RT "Over"=some (some (.ref Cl7)))
  (ac8:Ra K RT "Both"=some (some (.ref Cl8)))
  (ac9:Ra K RT "Leaf"=some (some (.ref Cl9)))
  (a0:QK K (.ref Cl0) "words"=some (some (.ref f0)))
  (i0:QN K (.ref f0)=true)
  (l0:Lk K f0 "words" "Nest.words" (inClass (top 49) 1) oc0 od0 kV0 dc0 pm0 an0 cd0 ct0 sl0)
  (c0:QY K cd0 "Nest.words"=true)
  (k0:QU K (.ref f0)=true)
  (a1:QK K (.ref Cl1) "words"=some (some (.ref f1)))
  (i1:QN K (.ref f1)=true)
  (l1:Lk K f1 "words" "Unnest.words" (inClass (top 50) 1) oc1 od1 kV1 dc1 pm1 an1 cd1 ct1 sl1)
  (c1:QY K cd1 "Unnest.words"=true)
  (k1:QU K (.ref f1)=true)
  (a2:QK K (.ref Cl2) "words"=some (some (.ref f2)))
  (i2:QN K (.ref f2)=true)
  (l2:Lk K f2 "words" "Part.words" (inClass (top 54) 1) oc2 od2 kV2 dc2 pm2 an2 cd2 ct2 sl2)
  (c2:QY K cd2 "Part.words"=true)
  (k2:QU K (.ref f2)=true)
  (a3:QK K (.ref Cl3) "words"=some (some (.ref f3)))
  (i3:QN K (.ref f3)=true)
  (l3:Lk K f3 "words" "Fuse.words" (inClass (top 55) 1) oc3 od3 kV3 dc3 pm3 an3 cd3 ct3 sl3)
  (c3:QY K cd3 "Fuse.words"=true)
  (k3:QU K (.ref f3)=true)
  (a4:QK K (.ref Cl4) "words"=some (some (.ref f4)))
  (i4:QN K (.ref f4)=true)
  (l4:Lk K f4 "words" "Rename.words" (inClass (top 57) 1) oc4 od4 kV4 dc4 pm4 an4 cd4 ct4 sl4)
  (c4:QY K cd4 "Rename.words"=true)
  (k4:QU K (.ref f4)=true)
  (a5:QK K (.ref Cl5) "words"=some (some (.ref f5)))
  (i5:QN K (.ref f5)=true)
  (l5:Lk K f5 "words" "Sieve.words" (inClass (top 59) 1) oc5 od5 kV5 dc5 pm5 an5 cd5 ct5 sl5)
  (c5:QY K cd5 "Sieve.words"=true)
  (k5:QU K (.ref f5)=true)
  (a6:QK K (.ref Cl6) "words"=some (some (.ref f6)))
  (i6:QN K (.ref f6)=true)
  (l6:Lk K f6 "words" "Drop.words" (inClass (top 71) 1) oc6 od6 kV6 dc6 pm6 an6 cd6 ct6 sl6)
  (c6:QY K cd6 "Drop.words"=true)
  (k6:QU K (.ref f6)=true)
  (a7:QK K (.ref Cl0) "exact"=some (some (.ref f7)))
  (a7_2:QK K (.ref Cl2) "exact"=some (some (.ref f7)))
  (a7_3:QK K (.ref Cl3) "exact"=some (some (.ref f7)))
  (a7_4:QK K (.ref Cl4) "exact"=some (some (.ref f7)))
  (i7:QN K (.ref f7)=true)
  (l7:Lk K f7 "exact" "Step.exact" (inClass (top 46) 4) oc7 od7 kV7 dc7 pm7 an7 cd7 ct7 sl7)
  (c7:QY K cd7 "Step.exact"=true)
  (k7:QU K (.ref f7)=true)
  (a8:QK K (.ref Cl1) "exact"=some (some (.ref f8)))
  (i8:QN K (.ref f8)=true)
  (l8:Lk K f8 "exact" "Unnest.exact" (inClass (top 50) 5) oc8 od8 kV8 dc8 pm8 an8 cd8 ct8 sl8)
  (c8:QY K cd8 "Unnest.exact"=true)
  (k8:QU K (.ref f8)=true)
  (a9:QK K (.ref Cl5) "exact"=some (some (.ref f9)))
  (i9:QN K (.ref f9)=true)
  (l9:Lk K f9 "exact" "Sieve.exact" (inClass (top 59) 5) oc9 od9 kV9 dc9 pm9 an9 cd9 ct9 sl9)
  (c9:QY K cd9 "Sieve.exact"=true)
  (k9:QU K (.ref f9)=true)
  (a10:QK K (.ref Cl6) "exact"=some (some (.ref f10)))
  (i10:QN K (.ref f10)=true)
  (l10:Lk K f10 "exact" "Drop.exact" (inClass (top 71) 5) oc10 od10 kV10 dc10 pm10 an10 cd10 ct10 sl10)
  (c10:QY K cd10 "Drop.exact"=true)
  (k10:QU K (.ref f10)=true)
  (a11:QK K (.ref Cl9) "form"=some (some (.ref f11)))
  (i11:QN K (.ref f11)=true)
  (l11:Lk K f11 "form" "Leaf.form" (inClass (top 29) 2) oc11 od11 kV11 dc11 pm11 an11 cd11 ct11 sl11)
  (c11:QY K cd11 "Leaf.form"=true)
  (k11:QU K (.ref f11)=true)
  (a12:QK K (.ref Cl9) "names"=some (some (.ref f12)))
  (i12:QN K (.ref f12)=true)
  (l12:Lk K f12 "names" "Leaf.names" (inClass (top 29) 1) oc12 od12 kV12 dc12 pm12 an12 cd12 ct12 sl12)
  (c12:QY K cd12 "Leaf.names"=true)
  (k12:QU K (.ref f12)=true)
  (a13:QK K (.ref Cl7) "names"=some (some (.ref f13)))
  (i13:QN K (.ref f13)=true)
  (l13:Lk K f13 "names" "Over.names" (inClass (top 30) 1) oc13 od13 kV13 dc13 pm13 an13 cd13 ct13 sl13)
  (c13:QY K cd13 "Over.names"=true)
  (k13:QU K (.ref f13)=true)
  (a14:QK K (.ref Cl8) "names"=some (some (.ref f14)))
  (i14:QN K (.ref f14)=true)
  (l14:Lk K f14 "names" "Both.names" (inClass (top 31) 1) oc14 od14 kV14 dc14 pm14 an14 cd14 ct14 sl14)
  (c14:QY K cd14 "Both.names"=true)
  (k14:QU K (.ref f14)=true)
  (a15:QK K (.ref Cl0) "view_form"=some (some (.ref f15)))
  (i15:QN K (.ref f15)=true)
  (l15:Lk K f15 "view_form" "Nest.view_form" (inClass (top 49) 2) oc15 od15 kV15 dc15 pm15 an15 cd15 ct15 sl15)
  (c15:QY K cd15 "Nest.view_form"=true)
  (k15:QU K (.ref f15)=true)
  (a16:QK K (.ref Cl1) "view_form"=some (some (.ref f16)))
  (i16:QN K (.ref f16)=true)
  (l16:Lk K f16 "view_form" "Unnest.view_form" (inClass (top 50) 2) oc16 od16 kV16 dc16 pm16 an16 cd16 ct16 sl16)
  (c16:QY K cd16 "Unnest.view_form"=true)
  (k16:QU K (.ref f16)=true)
  (a17:QK K (.ref Cl2) "check_ends"=some (some (.ref f17)))
  (i17:QN K (.ref f17)=true)
  (l17:Lk K f17 "check_ends" "Part.check_ends" (inClass (top 54) 4) oc17 od17 kV17 dc17 pm17 an17 cd17 ct17 sl17)
  (c17:QY K cd17 "Part.check_ends"=true)
  (k17:QU K (.ref f17)=true)
  (a18:QK K (.ref Cl2) "check_names"=some (some (.ref f18)))
  (i18:QN K (.ref f18)=true)
  (l18:Lk K f18 "check_names" "Part.check_names" (inClass (top 54) 3) oc18 od18 kV18 dc18 pm18 an18 cd18 ct18 sl18)
  (c18:QY K cd18 "Part.check_names"=true)
  (k18:QU K (.ref f18)=true)
  (a19:QK K (.ref Cl2) "view_form"=some (some (.ref f19)))
  (i19:QN K (.ref f19)=true)
  (l19:Lk K f19 "view_form" "Part.view_form" (inClass (top 54) 2) oc19 od19 kV19 dc19 pm19 an19 cd19 ct19 sl19)
  (c19:QY K cd19 "Part.view_form"=true)
  (k19:QU K (.ref f19)=true)
  (a20:QK K (.ref Cl3) "check_kinds"=some (some (.ref f20)))
  (i20:QN K (.ref f20)=true)
  (l20:Lk K f20 "check_kinds" "Fuse.check_kinds" (inClass (top 55) 3) oc20 od20 kV20 dc20 pm20 an20 cd20 ct20 sl20)
  (c20:QY K cd20 "Fuse.check_kinds"=true)
  (k20:QU K (.ref f20)=true)
  (a21:QK K (.ref Cl3) "view_form"=some (some (.ref f21)))
  (i21:QN K (.ref f21)=true)
  (l21:Lk K f21 "view_form" "Fuse.view_form" (inClass (top 55) 2) oc21 od21 kV21 dc21 pm21 an21 cd21 ct21 sl21)
  (c21:QY K cd21 "Fuse.view_form"=true)
  (k21:QU K (.ref f21)=true)
  (a22:QK K (.ref Cl4) "view_form"=some (some (.ref f22)))
  (i22:QN K (.ref f22)=true)
  (l22:Lk K f22 "view_form" "Rename.view_form" (inClass (top 57) 2) oc22 od22 kV22 dc22 pm22 an22 cd22 ct22 sl22)
  (c22:QY K cd22 "Rename.view_form"=true)
  (k22:QU K (.ref f22)=true)
  (a23:QK K (.ref Cl5) "view_form"=some (some (.ref f23)))
  (i23:QN K (.ref f23)=true)
  (l23:Lk K f23 "view_form" "Sieve.view_form" (inClass (top 59) 2) oc23 od23 kV23 dc23 pm23 an23 cd23 ct23 sl23)
  (c23:QY K cd23 "Sieve.view_form"=true)
  (k23:QU K (.ref f23)=true)
  (a24:QK K (.ref Cl6) "view_form"=some (some (.ref f24)))
  (i24:QN K (.ref f24)=true)
  (l24:Lk K f24 "view_form" "Drop.view_form" (inClass (top 71) 2) oc24 od24 kV24 dc24 pm24 an24 cd24 ct24 sl24)
  (c24:QY K cd24 "Drop.view_form"=true)
  (k24:QU K (.ref f24)=true)
  (a25:QK K (.ref Cl7) "form"=some (some (.ref f25)))
  (i25:QN K (.ref f25)=true)
  (l25:Lk K f25 "form" "Over.form" (inClass (top 30) 2) oc25 od25 kV25 dc25 pm25 an25 cd25 ct25 sl25)
  (c25:QY K cd25 "Over.form"=true)
  (k25:QU K (.ref f25)=true)
  (a26:QK K (.ref Cl8) "form"=some (some (.ref f26)))
  (i26:QN K (.ref f26)=true)
  (l26:Lk K f26 "form" "Both.form" (inClass (top 31) 2) oc26 od26 kV26 dc26 pm26 an26 cd26 ct26 sl26)
  (c26:QY K cd26 "Both.form"=true)
  (k26:QU K (.ref f26)=true)
  (a27:Ra K RT "law"=some (some (.ref f27)))
  (l27:Lk K f27 "law" "law" (top 86) oc27 od27 kV27 dc27 pm27 an27 cd27 ct27 sl27)
  (c27:QY K cd27 "law"=true)
  (k27:QU K (.ref f27)=true)
  (a28:QK K (.ref Cl4) "__init__"=some (some (.ref f28)))
  (i28:QN K (.ref f28)=true)
  (l28:Lk K f28 "__init__" "Rename.__init__" (inClass (top 57) 0) oc28 od28 kV28 dc28 pm28 an28 cd28 ct28 sl28)
  (c28:QY K cd28 "Rename.__init__"=true)
  (k28:QU K (.ref f28)=true)
  (a29:QK K (.ref Cl5) "__init__"=some (some (.ref f29)))
  (i29:QN K (.ref f29)=true)
  (l29:Lk K f29 "__init__" "Sieve.__init__" (inClass (top 59) 0) oc29 od29 kV29 dc29 pm29 an29 cd29 ct29 sl29)
  (c29:QY K cd29 "Sieve.__init__"=true)
  (k29:QU K (.ref f29)=true)
  (a30:QK K (.ref Cl7) "__init__"=some (some (.ref f30)))
  (i30:QN K (.ref f30)=true)
  (l30:Lk K f30 "__init__" "Over.__init__" (inClass (top 30) 0) oc30 od30 kV30 dc30 pm30 an30 cd30 ct30 sl30)
  (c30:QY K cd30 "Over.__init__"=true)
  (k30:QU K (.ref f30)=true)
  (a31:QK K (.ref Cl8) "__init__"=some (some (.ref f31)))
  (i31:QN K (.ref f31)=true)
  (l31:Lk K f31 "__init__" "Both.__init__" (inClass (top 31) 0) oc31 od31 kV31 dc31 pm31 an31 cd31 ct31 sl31)
  (c31:QY K cd31 "Both.__init__"=true)
  (k31:QU K (.ref f31)=true)
  (a32:QK K (.ref Cl9) "__init__"=some (some (.ref f32)))
  (i32:QN K (.ref f32)=true)
  (l32:Lk K f32 "__init__" "Leaf.__init__" (inClass (top 29) 0) oc32 od32 kV32 dc32 pm32 an32 cd32 ct32 sl32)
  (c32:QY K cd32 "Leaf.__init__"=true)
  (k32:QU K (.ref f32)=true)
  (a33:QK K (.ref Cl0) "__init__"=some (some (.ref f33)))
  (i33:QN K (.ref f33)=true)
  (l33:Lk K f33 "__init__" "Nest.__init__" (inClass (top 49) 0) oc33 od33 kV33 dc33 pm33 an33 cd33 ct33 sl33)
  (c33:QY K cd33 "Nest.__init__"=true)
  (k33:QU K (.ref f33)=true)
  (a34:QK K (.ref Cl1) "__init__"=some (some (.ref f34)))
  (i34:QN K (.ref f34)=true)
  (l34:Lk K f34 "__init__" "Unnest.__init__" (inClass (top 50) 0) oc34 od34 kV34 dc34 pm34 an34 cd34 ct34 sl34)
  (c34:QY K cd34 "Unnest.__init__"=true)
  (k34:QU K (.ref f34)=true)
  (a35:QK K (.ref Cl3) "__init__"=some (some (.ref f35)))
  (i35:QN K (.ref f35)=true)
  (l35:Lk K f35 "__init__" "Fuse.__init__" (inClass (top 55) 0) oc35 od35 kV35 dc35 pm35 an35 cd35 ct35 sl35)
  (c35:QY K cd35 "Fuse.__init__"=true)
  (k35:QU K (.ref f35)=true)
  (a36:QK K (.ref Cl2) "__init__"=some (some (.ref f36)))
  (i36:QN K (.ref f36)=true)
  (l36:Lk K f36 "__init__" "Part.__init__" (inClass (top 54) 0) oc36 od36 kV36 dc36 pm36 an36 cd36 ct36 sl36)
  (c36:QY K cd36 "Part.__init__"=true)
  (k36:QU K (.ref f36)=true)
  (a37:QK K (.ref Cl6) "__init__"=some (some (.ref f37)))
  (i37:QN K (.ref f37)=true)
  (l37:Lk K f37 "__init__" "Drop.__init__" (inClass (top 71) 0) oc37 od37 kV37 dc37 pm37 an37 cd37 ct37 sl37)
  (c37:QY K cd37 "Drop.__init__"=true)
  (k37:QU K (.ref f37)=true)
  (p0:QI K Cl0 Str.empty=true)
  (q0:QJ K Cl0=true)
  (r0:QO K Cl0=true)
  (s0:QK K (.ref Cl0) "__setattr__"=some (some (.builtin "object.__setattr__")))
  (n0_0:QK K (.ref Cl0) "many"=some none)
  (n0_1:QK K (.ref Cl0) "name"=some none)
  (m0:QR K Cl0=true)
  (kp0:QU K (.ref Cl0)=true)
  (p1:QI K Cl1 Str.empty=true)
  (q1:QJ K Cl1=true)
  (r1:QO K Cl1=true)
  (s1:QK K (.ref Cl1) "__setattr__"=some (some (.builtin "object.__setattr__")))
  (n1_0:QK K (.ref Cl1) "name"=some none)
  (m1:QR K Cl1=true)
  (kp1:QU K (.ref Cl1)=true)
  (p2:QI K Cl2 Str.empty=true)
  (q2:QJ K Cl2=true)
  (r2:QO K Cl2=true)
  (s2:QK K (.ref Cl2) "__setattr__"=some (some (.builtin "object.__setattr__")))
  (n2_0:QK K (.ref Cl2) "name"=some none)
  (n2_1:QK K (.ref Cl2) "by"=some none)
  (n2_2:QK K (.ref Cl2) "quotient"=some none)
  (n2_3:QK K (.ref Cl2) "rest"=some none)
  (m2:QR K Cl2=true)
  (kp2:QU K (.ref Cl2)=true)
  (p3:QI K Cl3 Str.empty=true)
  (q3:QJ K Cl3=true)
  (r3:QO K Cl3=true)
  (s3:QK K (.ref Cl3) "__setattr__"=some (some (.builtin "object.__setattr__")))
  (n3_0:QK K (.ref Cl3) "quotient"=some none)
  (n3_1:QK K (.ref Cl3) "rest"=some none)
  (n3_2:QK K (.ref Cl3) "by"=some none)
  (n3_3:QK K (.ref Cl3) "name"=some none)
  (m3:QR K Cl3=true)
  (kp3:QU K (.ref Cl3)=true)
  (p4:QI K Cl4 Str.empty=true)
  (q4:QJ K Cl4=true)
  (r4:QO K Cl4=true)
  (s4:QK K (.ref Cl4) "__setattr__"=some (some (.builtin "object.__setattr__")))
  (n4_0:QK K (.ref Cl4) "old"=some none)
  (n4_1:QK K (.ref Cl4) "new"=some none)
  (m4:QR K Cl4=true)
  (kp4:QU K (.ref Cl4)=true)
  (p5:QI K Cl5 Str.empty=true)
  (q5:QJ K Cl5=true)
  (r5:QO K Cl5=true)
  (s5:QK K (.ref Cl5) "__setattr__"=some (some (.builtin "object.__setattr__")))
  (n5_0:QK K (.ref Cl5) "name"=some none)
  (n5_1:QK K (.ref Cl5) "kind"=some none)
  (m5:QR K Cl5=true)
  (kp5:QU K (.ref Cl5)=true)
  (p6:QI K Cl6 Str.empty=true)
  (q6:QJ K Cl6=true)
  (r6:QO K Cl6=true)
  (s6:QK K (.ref Cl6) "__setattr__"=some (some (.builtin "object.__setattr__")))
  (n6_0:QK K (.ref Cl6) "name"=some none)
  (n6_1:QK K (.ref Cl6) "value"=some none)
  (m6:QR K Cl6=true)
  (kp6:QU K (.ref Cl6)=true)
  (p7:QI K Cl7 Str.empty=true)
  (q7:QJ K Cl7=true)
  (r7:QO K Cl7=true)
  (s7:QK K (.ref Cl7) "__setattr__"=some (some (.builtin "object.__setattr__")))
  (n7_0:QK K (.ref Cl7) "glass"=some none)
  (n7_1:QK K (.ref Cl7) "step"=some none)
  (m7:QR K Cl7=true)
  (kp7:QU K (.ref Cl7)=true)
  (p8:QI K Cl8 Str.empty=true)
  (q8:QJ K Cl8=true)
  (r8:QO K Cl8=true)
  (s8:QK K (.ref Cl8) "__setattr__"=some (some (.builtin "object.__setattr__")))
  (n8_0:QK K (.ref Cl8) "one"=some none)
  (n8_1:QK K (.ref Cl8) "other"=some none)
  (n8_2:QK K (.ref Cl8) "pair"=some none)
  (m8:QR K Cl8=true)
  (kp8:QU K (.ref Cl8)=true)
  (p9:QI K Cl9 Str.empty=true)
  (q9:QJ K Cl9=true)
  (r9:QO K Cl9=true)
  (s9:QK K (.ref Cl9) "__setattr__"=some (some (.builtin "object.__setattr__")))
  (n9_0:QK K (.ref Cl9) "name"=some none)
  (m9:QR K Cl9=true)
  (kp9:QU K (.ref Cl9)=true)
  (vsg:Rh K (.builtin "object.__class__") "__get__"=some (some (.builtin "getset_descriptor.__get__")))
  (vtk:Ri K (.builtin "object.__class__")=some true)
  (vf0:QK K (.ref Cl0) "__class__"=some (some (.builtin "object.__class__")))
  (vm0:Rj K Cl0 (.type "object")=some true)
  (vf1:QK K (.ref Cl1) "__class__"=some (some (.builtin "object.__class__")))
  (vm1:Rj K Cl1 (.type "object")=some true)
  (vf2:QK K (.ref Cl2) "__class__"=some (some (.builtin "object.__class__")))
  (vm2:Rj K Cl2 (.type "object")=some true)
  (vf3:QK K (.ref Cl3) "__class__"=some (some (.builtin "object.__class__")))
  (vm3:Rj K Cl3 (.type "object")=some true)
  (vf4:QK K (.ref Cl4) "__class__"=some (some (.builtin "object.__class__")))
  (vm4:Rj K Cl4 (.type "object")=some true)
  (vf5:QK K (.ref Cl5) "__class__"=some (some (.builtin "object.__class__")))
  (vm5:Rj K Cl5 (.type "object")=some true)
  (vf6:QK K (.ref Cl6) "__class__"=some (some (.builtin "object.__class__")))
  (vm6:Rj K Cl6 (.type "object")=some true)
  (vf7:QK K (.ref Cl7) "__class__"=some (some (.builtin "object.__class__")))
  (vm7:Rj K Cl7 (.type "object")=some true)
  (vf8:QK K (.ref Cl8) "__class__"=some (some (.builtin "object.__class__")))
  (vm8:Rj K Cl8 (.type "object")=some true)
  (vf9:QK K (.ref Cl9) "__class__"=some (some (.builtin "object.__class__")))
  (vm9:Rj K Cl9 (.type "object")=some true)
  (vt7:QS K (.ref Cl7)=some (.type "type"))
  (vi7:Rf K (.ref Cl7) (.type "type")=some true)
  (yy7_7:Rk K (.ref Cl7) Cl7=true)
  (vs7_9:Rg K (.ref Cl9) (.ref Cl7)=some false)
  (vn7_9:Cl9≠Cl7)
  (vs7_8:Rg K (.ref Cl8) (.ref Cl7)=some false)
  (vn7_8:Cl8≠Cl7)
  (vt8:QS K (.ref Cl8)=some (.type "type"))
  (vi8:Rf K (.ref Cl8) (.type "type")=some true)
  (yy8_8:Rk K (.ref Cl8) Cl8=true)
  (vs8_9:Rg K (.ref Cl9) (.ref Cl8)=some false)
  (vn8_9:Cl9≠Cl8)
  (vs8_7:Rg K (.ref Cl7) (.ref Cl8)=some false)
  (vn8_7:Cl7≠Cl8)
  (vt4:QS K (.ref Cl4)=some (.type "type"))
  (vi4:Rf K (.ref Cl4) (.type "type")=some true)
  (yy4_4:Rk K (.ref Cl4) Cl4=true)
  (vs4_0:Rg K (.ref Cl0) (.ref Cl4)=some false)
  (vn4_0:Cl0≠Cl4)
  (vs4_1:Rg K (.ref Cl1) (.ref Cl4)=some false)
  (vn4_1:Cl1≠Cl4)
  (vs4_2:Rg K (.ref Cl2) (.ref Cl4)=some false)
  (vn4_2:Cl2≠Cl4)
  (vs4_3:Rg K (.ref Cl3) (.ref Cl4)=some false)
  (vn4_3:Cl3≠Cl4)
  (vs4_5:Rg K (.ref Cl5) (.ref Cl4)=some false)
  (vn4_5:Cl5≠Cl4)
  (vs4_6:Rg K (.ref Cl6) (.ref Cl4)=some false)
  (vn4_6:Cl6≠Cl4)
  (vt5:QS K (.ref Cl5)=some (.type "type"))
  (vi5:Rf K (.ref Cl5) (.type "type")=some true)
  (yy5_5:Rk K (.ref Cl5) Cl5=true)
  (vs5_0:Rg K (.ref Cl0) (.ref Cl5)=some false)
  (vn5_0:Cl0≠Cl5)
  (vs5_1:Rg K (.ref Cl1) (.ref Cl5)=some false)
  (vn5_1:Cl1≠Cl5)
  (vs5_2:Rg K (.ref Cl2) (.ref Cl5)=some false)
  (vn5_2:Cl2≠Cl5)
  (vs5_3:Rg K (.ref Cl3) (.ref Cl5)=some false)
  (vn5_3:Cl3≠Cl5)
  (vs5_4:Rg K (.ref Cl4) (.ref Cl5)=some false)
  (vn5_4:Cl4≠Cl5)
  (vs5_6:Rg K (.ref Cl6) (.ref Cl5)=some false)
  (vn5_6:Cl6≠Cl5)
  (vt2:QS K (.ref Cl2)=some (.type "type"))
  (vi2:Rf K (.ref Cl2) (.type "type")=some true)
  (yy2_2:Rk K (.ref Cl2) Cl2=true)
  (vs2_0:Rg K (.ref Cl0) (.ref Cl2)=some false)
  (vn2_0:Cl0≠Cl2)
  (vs2_1:Rg K (.ref Cl1) (.ref Cl2)=some false)
  (vn2_1:Cl1≠Cl2)
  (vs2_3:Rg K (.ref Cl3) (.ref Cl2)=some false)
  (vn2_3:Cl3≠Cl2)
  (vs2_4:Rg K (.ref Cl4) (.ref Cl2)=some false)
  (vn2_4:Cl4≠Cl2)
  (vs2_5:Rg K (.ref Cl5) (.ref Cl2)=some false)
  (vn2_5:Cl5≠Cl2)
  (vs2_6:Rg K (.ref Cl6) (.ref Cl2)=some false)
  (vn2_6:Cl6≠Cl2)
  (vt3:QS K (.ref Cl3)=some (.type "type"))
  (vi3:Rf K (.ref Cl3) (.type "type")=some true)
  (yy3_3:Rk K (.ref Cl3) Cl3=true)
  (vs3_0:Rg K (.ref Cl0) (.ref Cl3)=some false)
  (vn3_0:Cl0≠Cl3)
  (vs3_1:Rg K (.ref Cl1) (.ref Cl3)=some false)
  (vn3_1:Cl1≠Cl3)
  (vs3_2:Rg K (.ref Cl2) (.ref Cl3)=some false)
  (vn3_2:Cl2≠Cl3)
  (vs3_4:Rg K (.ref Cl4) (.ref Cl3)=some false)
  (vn3_4:Cl4≠Cl3)
  (vs3_5:Rg K (.ref Cl5) (.ref Cl3)=some false)
  (vn3_5:Cl5≠Cl3)
  (vs3_6:Rg K (.ref Cl6) (.ref Cl3)=some false)
  (vn3_6:Cl6≠Cl3)
  (vt0:QS K (.ref Cl0)=some (.type "type"))
  (vi0:Rf K (.ref Cl0) (.type "type")=some true)
  (yy0_0:Rk K (.ref Cl0) Cl0=true)
  (vs0_1:Rg K (.ref Cl1) (.ref Cl0)=some false)
  (vn0_1:Cl1≠Cl0)
  (vs0_2:Rg K (.ref Cl2) (.ref Cl0)=some false)
  (vn0_2:Cl2≠Cl0)
  (vs0_3:Rg K (.ref Cl3) (.ref Cl0)=some false)
  (vn0_3:Cl3≠Cl0)
  (vs0_4:Rg K (.ref Cl4) (.ref Cl0)=some false)
  (vn0_4:Cl4≠Cl0)
  (vs0_5:Rg K (.ref Cl5) (.ref Cl0)=some false)
  (vn0_5:Cl5≠Cl0)
  (vs0_6:Rg K (.ref Cl6) (.ref Cl0)=some false)
  (vn0_6:Cl6≠Cl0)
  (vt1:QS K (.ref Cl1)=some (.type "type"))
  (vi1:Rf K (.ref Cl1) (.type "type")=some true)
  (yy1_1:Rk K (.ref Cl1) Cl1=true)
  (vs1_0:Rg K (.ref Cl0) (.ref Cl1)=some false)
  (vn1_0:Cl0≠Cl1)
  (vs1_2:Rg K (.ref Cl2) (.ref Cl1)=some false)
  (vn1_2:Cl2≠Cl1)
  (vs1_3:Rg K (.ref Cl3) (.ref Cl1)=some false)
  (vn1_3:Cl3≠Cl1)
  (vs1_4:Rg K (.ref Cl4) (.ref Cl1)=some false)
  (vn1_4:Cl4≠Cl1)
  (vs1_5:Rg K (.ref Cl5) (.ref Cl1)=some false)
  (vn1_5:Cl5≠Cl1)
  (vs1_6:Rg K (.ref Cl6) (.ref Cl1)=some false)
  (vn1_6:Cl6≠Cl1)
  (vt9:QS K (.ref Cl9)=some (.type "type"))
  (vi9:Rf K (.ref Cl9) (.type "type")=some true)
  (yy9_9:Rk K (.ref Cl9) Cl9=true)
  (vs9_7:Rg K (.ref Cl7) (.ref Cl9)=some false)
  (vn9_7:Cl7≠Cl9)
  (vs9_8:Rg K (.ref Cl8) (.ref Cl9)=some false)
  (vn9_8:Cl8≠Cl9)
  (dd0:KDs K [("written",top 47),("parts_of",top 32),("steps_of",top 69),("renamed",top 66),("kind_at",top 40),("names_of",top 24),("place_of",top 25),("both_words",top 18),("both_numbers",top 17),("both",top 16),("kinds_of",top 15),("single",top 19),("is_behind",top 68),("same_parts",top 67),("instead",top 65),("depth_of",top 26),("is_whole",top 13),("replaced",top 42),("in_key",top 41),("with_fields",top 43),("least",top 20),("least_row",top 38),("named_elsewhere",top 44),("second_value",top 73),("check_key",top 72),("has_parts",top 14),("keys_rise",top 37),("fits",top 34),("keeps",top 35),("is_row",top 36)])
  (dd1:KDs K [("is_idle",top 64),("laid_over",top 63),("thin",top 62),("thinned",top 61),("_law_stay",top 81),("_law_nested_two",top 85),("_law_fused_two",top 84),("_law_parted_two",top 83),("_law_plain_two",top 82),("_law_next",top 76),("_law_cell_at",top 75),("_law_seed",top 77),("_law_name",top 78),("_law_twelves",top 79),("_law_fields",top 80)])
  (zz:KZs K ["isinstance","str","tuple","len","enumerate","max","min","all","int","bool","any","range","zip"])
  (ke0:Ra K RT "MOST_WITHIN"=some (some (.int 3 tk0)))
  (ke1:Ra K RT "MOST_FIELDS"=some (some (.int 8 tk1)))
  (ke2:Ra K RT "LEAST_BY"=some (some (.int 2 tk2)))
  (ke3:Ra K RT "MOST_BY"=some (some (.int 1000000000 tk3))):
  ∃fd:Sn,(∀(s:RL)(v:RF),Sq s fd ⟨[v],[]⟩ [("_law_script",v)])/\∀base:RP,K.In base->base.Ns RT mg->gz l.prog w K mg base (lQ l.prog w) 55 fa fd ["_law_script"] (ya K 1 (aj nB 1 10)):=by
 have e:=hfa.symm.trans (Rl X G a27);cases e;have c_MOST_WITHIN:∃t,mg "MOST_WITHIN"=some (.int 3 t):=⟨_,Rl X G ke0⟩
 have c_MOST_FIELDS:∃t,mg "MOST_FIELDS"=some (.int 8 t):=⟨_,Rl X G ke1⟩
 have c_LEAST_BY:∃t,mg "LEAST_BY"=some (.int 2 t):=⟨_,Rl X G ke2⟩
 have c_MOST_BY:∃t,mg "MOST_BY"=some (.int 1000000000 t):=⟨_,Rl X G ke3⟩
 have F0:=aW (st:=(inClass (top 49) 1)) l0 c0 k0;have F1:=aW (st:=(inClass (top 50) 1)) l1 c1 k1;have F2:=aW (st:=(inClass (top 54) 1)) l2 c2 k2;have F3:=aW (st:=(inClass (top 55) 1)) l3 c3 k3;have F4:=aW (st:=(inClass (top 57) 1)) l4 c4 k4;have F5:=aW (st:=(inClass (top 59) 1)) l5 c5 k5;have F6:=aW (st:=(inClass (top 71) 1)) l6 c6 k6;have F7:=aW (st:=(inClass (top 46) 4)) l7 c7 k7;have F8:=aW (st:=(inClass (top 50) 5)) l8 c8 k8;have F9:=aW (st:=(inClass (top 59) 5)) l9 c9 k9;have F10:=aW (st:=(inClass (top 71) 5)) l10 c10 k10;have F11:=aW (st:=(inClass (top 29) 2)) l11 c11 k11;have F12:=aW (st:=(inClass (top 29) 1)) l12 c12 k12;have F13:=aW (st:=(inClass (top 30) 1)) l13 c13 k13;have F14:=aW (st:=(inClass (top 31) 1)) l14 c14 k14;have F15:=aW (st:=(inClass (top 49) 2)) l15 c15 k15;have F16:=aW (st:=(inClass (top 50) 2)) l16 c16 k16;have F17:=aW (st:=(inClass (top 54) 4)) l17 c17 k17;have F18:=aW (st:=(inClass (top 54) 3)) l18 c18 k18;have F19:=aW (st:=(inClass (top 54) 2)) l19 c19 k19;have F20:=aW (st:=(inClass (top 55) 3)) l20 c20 k20;have F21:=aW (st:=(inClass (top 55) 2)) l21 c21 k21;have F22:=aW (st:=(inClass (top 57) 2)) l22 c22 k22;have F23:=aW (st:=(inClass (top 59) 2)) l23 c23 k23;have F24:=aW (st:=(inClass (top 71) 2)) l24 c24 k24;have F25:=aW (st:=(inClass (top 30) 2)) l25 c25 k25;have F26:=aW (st:=(inClass (top 31) 2)) l26 c26 k26;have F27:=aW (st:=(top 86)) l27 c27 k27;have F28:=aW (st:=(inClass (top 57) 0)) l28 c28 k28;have b28:=F28.binds (ps:=["self","old","new"]) λ_ _ _ _ _ _ us hl=>by obtain⟨u0,u1,u2,rfl⟩:=uC hl;rfl
 have F29:=aW (st:=(inClass (top 59) 0)) l29 c29 k29;have b29:=F29.binds (ps:=["self","name","kind"]) λ_ _ _ _ _ _ us hl=>by obtain⟨u0,u1,u2,rfl⟩:=uC hl;rfl
 have F30:=aW (st:=(inClass (top 30) 0)) l30 c30 k30;have b30:=F30.binds (ps:=["self","glass","step"]) λ_ _ _ _ _ _ us hl=>by obtain⟨u0,u1,u2,rfl⟩:=uC hl;rfl
 have F31:=aW (st:=(inClass (top 31) 0)) l31 c31 k31;have b31:=F31.binds (ps:=["self","one","other","pair"]) λ_ _ _ _ _ _ us hl=>by obtain⟨u0,u1,u2,u3,rfl⟩:=Gg hl;rfl
 have F32:=aW (st:=(inClass (top 29) 0)) l32 c32 k32;have b32:=F32.binds (ps:=["self","name"]) λ_ _ _ _ _ _ us hl=>by obtain⟨u0,u1,rfl⟩:=Cr hl;rfl
 have F33:=aW (st:=(inClass (top 49) 0)) l33 c33 k33;have b33:=F33.binds (ps:=["self","many","name"]) λ_ _ _ _ _ _ us hl=>by obtain⟨u0,u1,u2,rfl⟩:=uC hl;rfl
 have F34:=aW (st:=(inClass (top 50) 0)) l34 c34 k34;have b34:=F34.binds (ps:=["self","name"]) λ_ _ _ _ _ _ us hl=>by obtain⟨u0,u1,rfl⟩:=Cr hl;rfl
 have F35:=aW (st:=(inClass (top 55) 0)) l35 c35 k35;have b35:=F35.binds (ps:=["self","quotient","rest","by","name"]) λ_ _ _ _ _ _ us hl=>by obtain⟨u0,u1,u2,u3,u4,rfl⟩:=IB hl;rfl
 have F36:=aW (st:=(inClass (top 54) 0)) l36 c36 k36;have b36:=F36.binds (ps:=["self","name","by","quotient","rest"]) λ_ _ _ _ _ _ us hl=>by obtain⟨u0,u1,u2,u3,u4,rfl⟩:=IB hl;rfl
 have F37:=aW (st:=(inClass (top 71) 0)) l37 c37 k37;have b37:=F37.binds (ps:=["self","name","value"]) λ_ _ _ _ _ _ us hl=>by obtain⟨u0,u1,u2,rfl⟩:=uC hl;rfl
 have cl0:jv K Cl0:=⟨p0,q0,r0,s0⟩
 have cl1:jv K Cl1:=⟨p1,q1,r1,s1⟩
 have cl2:jv K Cl2:=⟨p2,q2,r2,s2⟩
 have cl3:jv K Cl3:=⟨p3,q3,r3,s3⟩
 have cl4:jv K Cl4:=⟨p4,q4,r4,s4⟩
 have cl5:jv K Cl5:=⟨p5,q5,r5,s5⟩
 have cl6:jv K Cl6:=⟨p6,q6,r6,s6⟩
 have cl7:jv K Cl7:=⟨p7,q7,r7,s7⟩
 have cl8:jv K Cl8:=⟨p8,q8,r8,s8⟩
 have cl9:jv K Cl9:=⟨p9,q9,r9,s9⟩
 have rZ:aQ K "name" ["Nest"]:=by
  intro c hc C hC;simp only[PR,Qh,or_false]at hc;rcases hc with rfl
  ·cases ah hC ac0;exact⟨cl0,n0_1⟩
 have rW:aQ K "many" ["Nest"]:=by
  intro c hc C hC;simp only[PR,Qh,or_false]at hc;rcases hc with rfl
  ·cases ah hC ac0;exact⟨cl0,n0_0⟩
 have pA:aQ K "name" ["Unnest"]:=by
  intro c hc C hC;simp only[PR,Qh,or_false]at hc;rcases hc with rfl
  ·cases ah hC ac1;exact⟨cl1,n1_0⟩
 have rH:aQ K "rest" ["Part"]:=by
  intro c hc C hC;simp only[PR,Qh,or_false]at hc;rcases hc with rfl
  ·cases ah hC ac2;exact⟨cl2,n2_3⟩
 have mR:aQ K "quotient" ["Part"]:=by
  intro c hc C hC;simp only[PR,Qh,or_false]at hc;rcases hc with rfl
  ·cases ah hC ac2;exact⟨cl2,n2_2⟩
 have uk:aQ K "by" ["Part"]:=by
  intro c hc C hC;simp only[PR,Qh,or_false]at hc;rcases hc with rfl
  ·cases ah hC ac2;exact⟨cl2,n2_1⟩
 have rF:aQ K "name" ["Part"]:=by
  intro c hc C hC;simp only[PR,Qh,or_false]at hc;rcases hc with rfl
  ·cases ah hC ac2;exact⟨cl2,n2_0⟩
 have rS:aQ K "name" ["Fuse"]:=by
  intro c hc C hC;simp only[PR,Qh,or_false]at hc;rcases hc with rfl
  ·cases ah hC ac3;exact⟨cl3,n3_3⟩
 have uR:aQ K "by" ["Fuse"]:=by
  intro c hc C hC;simp only[PR,Qh,or_false]at hc;rcases hc with rfl
  ·cases ah hC ac3;exact⟨cl3,n3_2⟩
 have rP:aQ K "rest" ["Fuse"]:=by
  intro c hc C hC;simp only[PR,Qh,or_false]at hc;rcases hc with rfl
  ·cases ah hC ac3;exact⟨cl3,n3_1⟩
 have mx:aQ K "quotient" ["Fuse"]:=by
  intro c hc C hC;simp only[PR,Qh,or_false]at hc;rcases hc with rfl
  ·cases ah hC ac3;exact⟨cl3,n3_0⟩
 have pT:aQ K "new" ["Rename"]:=by
  intro c hc C hC;simp only[PR,Qh,or_false]at hc;rcases hc with rfl
  ·cases ah hC ac4;exact⟨cl4,n4_1⟩
 have pH:aQ K "old" ["Rename"]:=by
  intro c hc C hC;simp only[PR,Qh,or_false]at hc;rcases hc with rfl
  ·cases ah hC ac4;exact⟨cl4,n4_0⟩
 have pN:aQ K "kind" ["Sieve"]:=by
  intro c hc C hC;simp only[PR,Qh,or_false]at hc;rcases hc with rfl
  ·cases ah hC ac5;exact⟨cl5,n5_1⟩
 have pL:aQ K "name" ["Sieve"]:=by
  intro c hc C hC;simp only[PR,Qh,or_false]at hc;rcases hc with rfl
  ·cases ah hC ac5;exact⟨cl5,n5_0⟩
 have pV:aQ K "value" ["Drop"]:=by
  intro c hc C hC;simp only[PR,Qh,or_false]at hc;rcases hc with rfl
  ·cases ah hC ac6;exact⟨cl6,n6_1⟩
 have sk:aQ K "name" ["Drop"]:=by
  intro c hc C hC;simp only[PR,Qh,or_false]at hc;rcases hc with rfl
  ·cases ah hC ac6;exact⟨cl6,n6_0⟩
 have pU:aQ K "glass" ["Over"]:=by
  intro c hc C hC;simp only[PR,Qh,or_false]at hc;rcases hc with rfl
  ·cases ah hC ac7;exact⟨cl7,n7_0⟩
 have rq:aQ K "step" ["Over"]:=by
  intro c hc C hC;simp only[PR,Qh,or_false]at hc;rcases hc with rfl
  ·cases ah hC ac7;exact⟨cl7,n7_1⟩
 have tE:aQ K "one" ["Both"]:=by
  intro c hc C hC;simp only[PR,Qh,or_false]at hc;rcases hc with rfl
  ·cases ah hC ac8;exact⟨cl8,n8_0⟩
 have pR:aQ K "other" ["Both"]:=by
  intro c hc C hC;simp only[PR,Qh,or_false]at hc;rcases hc with rfl
  ·cases ah hC ac8;exact⟨cl8,n8_1⟩
 have rN:aQ K "pair" ["Both"]:=by
  intro c hc C hC;simp only[PR,Qh,or_false]at hc;rcases hc with rfl
  ·cases ah hC ac8;exact⟨cl8,n8_2⟩
 have la:aQ K "rest" ["Part","Fuse"]:=by
  intro c hc C hC;simp only[PR,Qh,or_false]at hc;rcases hc with rfl|rfl
  ·cases ah hC ac2;exact⟨cl2,n2_3⟩
  ·cases ah hC ac3;exact⟨cl3,n3_1⟩
 have jf:aQ K "quotient" ["Part","Fuse"]:=by
  intro c hc C hC;simp only[PR,Qh,or_false]at hc;rcases hc with rfl|rfl
  ·cases ah hC ac2;exact⟨cl2,n2_2⟩
  ·cases ah hC ac3;exact⟨cl3,n3_0⟩
 have n0:aQ K "by" ["Part","Fuse"]:=by
  intro c hc C hC;simp only[PR,Qh,or_false]at hc;rcases hc with rfl|rfl
  ·cases ah hC ac2;exact⟨cl2,n2_1⟩
  ·cases ah hC ac3;exact⟨cl3,n3_2⟩
 have cT:aQ K "name" ["Leaf","Nest","Unnest","Part","Fuse","Sieve","Drop"]:=by
  intro c hc C hC;simp only[PR,Qh,or_false]at hc;rcases hc with rfl|rfl|rfl|rfl|rfl|rfl|rfl
  ·cases ah hC ac9;exact⟨cl9,n9_0⟩
  ·cases ah hC ac0;exact⟨cl0,n0_1⟩
  ·cases ah hC ac1;exact⟨cl1,n1_0⟩
  ·cases ah hC ac2;exact⟨cl2,n2_0⟩
  ·cases ah hC ac3;exact⟨cl3,n3_3⟩
  ·cases ah hC ac5;exact⟨cl5,n5_0⟩
  ·cases ah hC ac6;exact⟨cl6,n6_0⟩
 have rg:aQ K "name" ["Leaf"]:=by
  intro c hc C hC;simp only[PR,Qh,or_false]at hc;rcases hc with rfl
  ·cases ah hC ac9;exact⟨cl9,n9_0⟩
 refine⟨QX "law" "law" (iM (top 86)) (dS (top 86)) (aw (top 86)) .none kV27 dc27 pm27 an27 cd27 ct27,λs v=>.of_eq rfl,λbase _ _=>?_⟩;have Y_Over:eL K mg "Over" ["Over"] ["Leaf","Both"]:=by
  refine⟨_,Rl X G ac7,λc hc D hD=>?_,λc hc D hD=>?_⟩<;>simp only[PR,Qh,or_false]at hc
  ·rcases hc with rfl;cases ah hD ac7;exact yy7_7
  ·rcases hc with rfl|rfl
   ·cases ah hD ac9;exact⟨cl9,⟨vn7_9,(by obtain⟨cd,hc,_⟩:=QQ cl7.hd;rw[hc];rfl),vt7,vi7,vs7_9,vf9,vsg,vtk,vm9⟩⟩
   ·cases ah hD ac8;exact⟨cl8,⟨vn7_8,(by obtain⟨cd,hc,_⟩:=QQ cl7.hd;rw[hc];rfl),vt7,vi7,vs7_8,vf8,vsg,vtk,vm8⟩⟩
 have Y_Both:eL K mg "Both" ["Both"] ["Leaf","Over"]:=by
  refine⟨_,Rl X G ac8,λc hc D hD=>?_,λc hc D hD=>?_⟩<;>simp only[PR,Qh,or_false]at hc
  ·rcases hc with rfl;cases ah hD ac8;exact yy8_8
  ·rcases hc with rfl|rfl
   ·cases ah hD ac9;exact⟨cl9,⟨vn8_9,(by obtain⟨cd,hc,_⟩:=QQ cl8.hd;rw[hc];rfl),vt8,vi8,vs8_9,vf9,vsg,vtk,vm9⟩⟩
   ·cases ah hD ac7;exact⟨cl7,⟨vn8_7,(by obtain⟨cd,hc,_⟩:=QQ cl8.hd;rw[hc];rfl),vt8,vi8,vs8_7,vf7,vsg,vtk,vm7⟩⟩
 have Y_Rename:eL K mg "Rename" ["Rename"] ["Nest","Unnest","Part","Fuse","Sieve","Drop"]:=by
  refine⟨_,Rl X G ac4,λc hc D hD=>?_,λc hc D hD=>?_⟩<;>simp only[PR,Qh,or_false]at hc
  ·rcases hc with rfl;cases ah hD ac4;exact yy4_4
  ·rcases hc with rfl|rfl|rfl|rfl|rfl|rfl
   ·cases ah hD ac0;exact⟨cl0,⟨vn4_0,(by obtain⟨cd,hc,_⟩:=QQ cl4.hd;rw[hc];rfl),vt4,vi4,vs4_0,vf0,vsg,vtk,vm0⟩⟩
   ·cases ah hD ac1;exact⟨cl1,⟨vn4_1,(by obtain⟨cd,hc,_⟩:=QQ cl4.hd;rw[hc];rfl),vt4,vi4,vs4_1,vf1,vsg,vtk,vm1⟩⟩
   ·cases ah hD ac2;exact⟨cl2,⟨vn4_2,(by obtain⟨cd,hc,_⟩:=QQ cl4.hd;rw[hc];rfl),vt4,vi4,vs4_2,vf2,vsg,vtk,vm2⟩⟩
   ·cases ah hD ac3;exact⟨cl3,⟨vn4_3,(by obtain⟨cd,hc,_⟩:=QQ cl4.hd;rw[hc];rfl),vt4,vi4,vs4_3,vf3,vsg,vtk,vm3⟩⟩
   ·cases ah hD ac5;exact⟨cl5,⟨vn4_5,(by obtain⟨cd,hc,_⟩:=QQ cl4.hd;rw[hc];rfl),vt4,vi4,vs4_5,vf5,vsg,vtk,vm5⟩⟩
   ·cases ah hD ac6;exact⟨cl6,⟨vn4_6,(by obtain⟨cd,hc,_⟩:=QQ cl4.hd;rw[hc];rfl),vt4,vi4,vs4_6,vf6,vsg,vtk,vm6⟩⟩
 have Y_Sieve:eL K mg "Sieve" ["Sieve"] ["Nest","Unnest","Part","Fuse","Rename","Drop"]:=by
  refine⟨_,Rl X G ac5,λc hc D hD=>?_,λc hc D hD=>?_⟩<;>simp only[PR,Qh,or_false]at hc
  ·rcases hc with rfl;cases ah hD ac5;exact yy5_5
  ·rcases hc with rfl|rfl|rfl|rfl|rfl|rfl
   ·cases ah hD ac0;exact⟨cl0,⟨vn5_0,(by obtain⟨cd,hc,_⟩:=QQ cl5.hd;rw[hc];rfl),vt5,vi5,vs5_0,vf0,vsg,vtk,vm0⟩⟩
   ·cases ah hD ac1;exact⟨cl1,⟨vn5_1,(by obtain⟨cd,hc,_⟩:=QQ cl5.hd;rw[hc];rfl),vt5,vi5,vs5_1,vf1,vsg,vtk,vm1⟩⟩
   ·cases ah hD ac2;exact⟨cl2,⟨vn5_2,(by obtain⟨cd,hc,_⟩:=QQ cl5.hd;rw[hc];rfl),vt5,vi5,vs5_2,vf2,vsg,vtk,vm2⟩⟩
   ·cases ah hD ac3;exact⟨cl3,⟨vn5_3,(by obtain⟨cd,hc,_⟩:=QQ cl5.hd;rw[hc];rfl),vt5,vi5,vs5_3,vf3,vsg,vtk,vm3⟩⟩
   ·cases ah hD ac4;exact⟨cl4,⟨vn5_4,(by obtain⟨cd,hc,_⟩:=QQ cl5.hd;rw[hc];rfl),vt5,vi5,vs5_4,vf4,vsg,vtk,vm4⟩⟩
   ·cases ah hD ac6;exact⟨cl6,⟨vn5_6,(by obtain⟨cd,hc,_⟩:=QQ cl5.hd;rw[hc];rfl),vt5,vi5,vs5_6,vf6,vsg,vtk,vm6⟩⟩
 have Y_Part:eL K mg "Part" ["Part"] ["Nest","Unnest","Fuse","Rename","Sieve","Drop"]:=by
  refine⟨_,Rl X G ac2,λc hc D hD=>?_,λc hc D hD=>?_⟩<;>simp only[PR,Qh,or_false]at hc
  ·rcases hc with rfl;cases ah hD ac2;exact yy2_2
  ·rcases hc with rfl|rfl|rfl|rfl|rfl|rfl
   ·cases ah hD ac0;exact⟨cl0,⟨vn2_0,(by obtain⟨cd,hc,_⟩:=QQ cl2.hd;rw[hc];rfl),vt2,vi2,vs2_0,vf0,vsg,vtk,vm0⟩⟩
   ·cases ah hD ac1;exact⟨cl1,⟨vn2_1,(by obtain⟨cd,hc,_⟩:=QQ cl2.hd;rw[hc];rfl),vt2,vi2,vs2_1,vf1,vsg,vtk,vm1⟩⟩
   ·cases ah hD ac3;exact⟨cl3,⟨vn2_3,(by obtain⟨cd,hc,_⟩:=QQ cl2.hd;rw[hc];rfl),vt2,vi2,vs2_3,vf3,vsg,vtk,vm3⟩⟩
   ·cases ah hD ac4;exact⟨cl4,⟨vn2_4,(by obtain⟨cd,hc,_⟩:=QQ cl2.hd;rw[hc];rfl),vt2,vi2,vs2_4,vf4,vsg,vtk,vm4⟩⟩
   ·cases ah hD ac5;exact⟨cl5,⟨vn2_5,(by obtain⟨cd,hc,_⟩:=QQ cl2.hd;rw[hc];rfl),vt2,vi2,vs2_5,vf5,vsg,vtk,vm5⟩⟩
   ·cases ah hD ac6;exact⟨cl6,⟨vn2_6,(by obtain⟨cd,hc,_⟩:=QQ cl2.hd;rw[hc];rfl),vt2,vi2,vs2_6,vf6,vsg,vtk,vm6⟩⟩
 have Y_Fuse:eL K mg "Fuse" ["Fuse"] ["Nest","Unnest","Part","Rename","Sieve","Drop"]:=by
  refine⟨_,Rl X G ac3,λc hc D hD=>?_,λc hc D hD=>?_⟩<;>simp only[PR,Qh,or_false]at hc
  ·rcases hc with rfl;cases ah hD ac3;exact yy3_3
  ·rcases hc with rfl|rfl|rfl|rfl|rfl|rfl
   ·cases ah hD ac0;exact⟨cl0,⟨vn3_0,(by obtain⟨cd,hc,_⟩:=QQ cl3.hd;rw[hc];rfl),vt3,vi3,vs3_0,vf0,vsg,vtk,vm0⟩⟩
   ·cases ah hD ac1;exact⟨cl1,⟨vn3_1,(by obtain⟨cd,hc,_⟩:=QQ cl3.hd;rw[hc];rfl),vt3,vi3,vs3_1,vf1,vsg,vtk,vm1⟩⟩
   ·cases ah hD ac2;exact⟨cl2,⟨vn3_2,(by obtain⟨cd,hc,_⟩:=QQ cl3.hd;rw[hc];rfl),vt3,vi3,vs3_2,vf2,vsg,vtk,vm2⟩⟩
   ·cases ah hD ac4;exact⟨cl4,⟨vn3_4,(by obtain⟨cd,hc,_⟩:=QQ cl3.hd;rw[hc];rfl),vt3,vi3,vs3_4,vf4,vsg,vtk,vm4⟩⟩
   ·cases ah hD ac5;exact⟨cl5,⟨vn3_5,(by obtain⟨cd,hc,_⟩:=QQ cl3.hd;rw[hc];rfl),vt3,vi3,vs3_5,vf5,vsg,vtk,vm5⟩⟩
   ·cases ah hD ac6;exact⟨cl6,⟨vn3_6,(by obtain⟨cd,hc,_⟩:=QQ cl3.hd;rw[hc];rfl),vt3,vi3,vs3_6,vf6,vsg,vtk,vm6⟩⟩
 have Y_Nest:eL K mg "Nest" ["Nest"] ["Unnest","Part","Fuse","Rename","Sieve","Drop"]:=by
  refine⟨_,Rl X G ac0,λc hc D hD=>?_,λc hc D hD=>?_⟩<;>simp only[PR,Qh,or_false]at hc
  ·rcases hc with rfl;cases ah hD ac0;exact yy0_0
  ·rcases hc with rfl|rfl|rfl|rfl|rfl|rfl
   ·cases ah hD ac1;exact⟨cl1,⟨vn0_1,(by obtain⟨cd,hc,_⟩:=QQ cl0.hd;rw[hc];rfl),vt0,vi0,vs0_1,vf1,vsg,vtk,vm1⟩⟩
   ·cases ah hD ac2;exact⟨cl2,⟨vn0_2,(by obtain⟨cd,hc,_⟩:=QQ cl0.hd;rw[hc];rfl),vt0,vi0,vs0_2,vf2,vsg,vtk,vm2⟩⟩
   ·cases ah hD ac3;exact⟨cl3,⟨vn0_3,(by obtain⟨cd,hc,_⟩:=QQ cl0.hd;rw[hc];rfl),vt0,vi0,vs0_3,vf3,vsg,vtk,vm3⟩⟩
   ·cases ah hD ac4;exact⟨cl4,⟨vn0_4,(by obtain⟨cd,hc,_⟩:=QQ cl0.hd;rw[hc];rfl),vt0,vi0,vs0_4,vf4,vsg,vtk,vm4⟩⟩
   ·cases ah hD ac5;exact⟨cl5,⟨vn0_5,(by obtain⟨cd,hc,_⟩:=QQ cl0.hd;rw[hc];rfl),vt0,vi0,vs0_5,vf5,vsg,vtk,vm5⟩⟩
   ·cases ah hD ac6;exact⟨cl6,⟨vn0_6,(by obtain⟨cd,hc,_⟩:=QQ cl0.hd;rw[hc];rfl),vt0,vi0,vs0_6,vf6,vsg,vtk,vm6⟩⟩
 have Y_Unnest:eL K mg "Unnest" ["Unnest"] ["Nest","Part","Fuse","Rename","Sieve","Drop"]:=by
  refine⟨_,Rl X G ac1,λc hc D hD=>?_,λc hc D hD=>?_⟩<;>simp only[PR,Qh,or_false]at hc
  ·rcases hc with rfl;cases ah hD ac1;exact yy1_1
  ·rcases hc with rfl|rfl|rfl|rfl|rfl|rfl
   ·cases ah hD ac0;exact⟨cl0,⟨vn1_0,(by obtain⟨cd,hc,_⟩:=QQ cl1.hd;rw[hc];rfl),vt1,vi1,vs1_0,vf0,vsg,vtk,vm0⟩⟩
   ·cases ah hD ac2;exact⟨cl2,⟨vn1_2,(by obtain⟨cd,hc,_⟩:=QQ cl1.hd;rw[hc];rfl),vt1,vi1,vs1_2,vf2,vsg,vtk,vm2⟩⟩
   ·cases ah hD ac3;exact⟨cl3,⟨vn1_3,(by obtain⟨cd,hc,_⟩:=QQ cl1.hd;rw[hc];rfl),vt1,vi1,vs1_3,vf3,vsg,vtk,vm3⟩⟩
   ·cases ah hD ac4;exact⟨cl4,⟨vn1_4,(by obtain⟨cd,hc,_⟩:=QQ cl1.hd;rw[hc];rfl),vt1,vi1,vs1_4,vf4,vsg,vtk,vm4⟩⟩
   ·cases ah hD ac5;exact⟨cl5,⟨vn1_5,(by obtain⟨cd,hc,_⟩:=QQ cl1.hd;rw[hc];rfl),vt1,vi1,vs1_5,vf5,vsg,vtk,vm5⟩⟩
   ·cases ah hD ac6;exact⟨cl6,⟨vn1_6,(by obtain⟨cd,hc,_⟩:=QQ cl1.hd;rw[hc];rfl),vt1,vi1,vs1_6,vf6,vsg,vtk,vm6⟩⟩
 have Y_Leaf:eL K mg "Leaf" ["Leaf"] ["Over","Both"]:=by
  refine⟨_,Rl X G ac9,λc hc D hD=>?_,λc hc D hD=>?_⟩<;>simp only[PR,Qh,or_false]at hc
  ·rcases hc with rfl;cases ah hD ac9;exact yy9_9
  ·rcases hc with rfl|rfl
   ·cases ah hD ac7;exact⟨cl7,⟨vn9_7,(by obtain⟨cd,hc,_⟩:=QQ cl9.hd;rw[hc];rfl),vt9,vi9,vs9_7,vf7,vsg,vtk,vm7⟩⟩
   ·cases ah hD ac8;exact⟨cl8,⟨vn9_8,(by obtain⟨cd,hc,_⟩:=QQ cl9.hd;rw[hc];rfl),vt9,vi9,vs9_8,vf8,vsg,vtk,vm8⟩⟩
 have Aq:=tG (P:=l.prog) (w:=w) (base:=base) ac4 ⟨m4,a28,i28,kp4⟩ cl4 (by intro g hg;simp only[PR,Qh,or_false]at hg;rcases hg with rfl|rfl<;>first|exact n4_0|exact n4_1) F28 b28 (Rl X G ac4);have Dy:=vf (P:=l.prog) (w:=w) (base:=base) ac5 ⟨m5,a29,i29,kp5⟩ cl5 (by intro g hg;simp only[PR,Qh,or_false]at hg;rcases hg with rfl|rfl<;>first|exact n5_0|exact n5_1) F29 b29 (Rl X G ac5);have G1:=yp (P:=l.prog) (w:=w) (base:=base) ac7 ⟨m7,a30,i30,kp7⟩ cl7 (by intro g hg;simp only[PR,Qh,or_false]at hg;rcases hg with rfl|rfl<;>first|exact n7_0|exact n7_1) F30 b30 (Rl X G ac7);have EX:=yc (P:=l.prog) (w:=w) (base:=base) ac8 ⟨m8,a31,i31,kp8⟩ cl8 (by intro g hg;simp only[PR,Qh,or_false]at hg;rcases hg with rfl|rfl|rfl<;>first|exact n8_0|exact n8_1|exact n8_2) F31 b31 (Rl X G ac8);have Gu:=x8 (P:=l.prog) (w:=w) (base:=base) ac9 ⟨m9,a32,i32,kp9⟩ cl9 (by intro g hg;simp only[PR,Qh,or_false]at hg;rcases hg with rfl;exact n9_0) F32 b32 (Rl X G ac9);have ED:=yo (P:=l.prog) (w:=w) (base:=base) ac0 ⟨m0,a33,i33,kp0⟩ cl0 (by intro g hg;simp only[PR,Qh,or_false]at hg;rcases hg with rfl|rfl<;>first|exact n0_0|exact n0_1) F33 b33 (Rl X G ac0);have zi:=sO (P:=l.prog) (w:=w) (base:=base) ac1 ⟨m1,a34,i34,kp1⟩ cl1 (by intro g hg;simp only[PR,Qh,or_false]at hg;rcases hg with rfl;exact n1_0) F34 b34 (Rl X G ac1);have EG:=wz (P:=l.prog) (w:=w) (base:=base) ac3 ⟨m3,a35,i35,kp3⟩ cl3 (by intro g hg;simp only[PR,Qh,or_false]at hg;rcases hg with rfl|rfl|rfl|rfl<;>first|exact n3_0|exact n3_1|exact n3_2|exact n3_3) F35 b35 (Rl X G ac3);have Ey:=xu (P:=l.prog) (w:=w) (base:=base) ac2 ⟨m2,a36,i36,kp2⟩ cl2 (by intro g hg;simp only[PR,Qh,or_false]at hg;rcases hg with rfl|rfl|rfl|rfl<;>first|exact n2_0|exact n2_1|exact n2_2|exact n2_3) F36 b36 (Rl X G ac2);have EL:=wW (P:=l.prog) (w:=w) (base:=base) ac6 ⟨m6,a37,i37,kp6⟩ cl6 (by intro g hg;simp only[PR,Qh,or_false]at hg;rcases hg with rfl|rfl<;>first|exact n6_0|exact n6_1) F37 b37 (Rl X G ac6)
 let u:U:=⟨l.prog,w,K,mg,base,(0:Nat),(0:Nat)⟩
 have q0:Q0 u:=⟨⟨⟨⟨⟨⟨⟨⟨⟨⟨⟨⟨⟨⟨⟨⟨⟨⟨⟨⟨⟨⟨⟨⟨⟨⟨⟨⟨⟨⟨⟨⟨⟨⟨⟨⟨⟨⟨⟨⟨⟨⟨⟨⟨⟨⟨⟨⟨⟨⟨⟨⟨⟨⟨⟨⟨⟨⟨⟨⟨⟨⟨⟨⟨⟨⟨⟨⟨⟨⟨⟨⟨⟨⟨⟨⟨⟨⟨⟨⟨(Je.of X G (Je.of X G (Zs.of X G zz) dd0) dd1),c_MOST_WITHIN⟩,c_MOST_FIELDS⟩,c_LEAST_BY⟩,c_MOST_BY⟩,rZ⟩,rW⟩,pA⟩,rH⟩,mR⟩,uk⟩,rF⟩,rS⟩,uR⟩,rP⟩,mx⟩,pT⟩,pH⟩,pN⟩,pL⟩,pV⟩,sk⟩,pU⟩,rq⟩,tE⟩,pR⟩,rN⟩,la⟩,jf⟩,n0⟩,cT⟩,rg⟩,Aq⟩,Dy⟩,G1⟩,EX⟩,Gu⟩,ED⟩,zi⟩,EG⟩,Ey⟩,EL⟩,Y_Over⟩,Y_Both⟩,Y_Rename⟩,Y_Sieve⟩,Y_Part⟩,Y_Fuse⟩,Y_Nest⟩,Y_Unnest⟩,Y_Leaf⟩,⟨_,_,_,ac0,cl0,⟨a0,i0,k0⟩,F0⟩⟩,⟨_,_,_,ac1,cl1,⟨a1,i1,k1⟩,F1⟩⟩,⟨_,_,_,ac2,cl2,⟨a2,i2,k2⟩,F2⟩⟩,⟨_,_,_,ac3,cl3,⟨a3,i3,k3⟩,F3⟩⟩,⟨_,_,_,ac4,cl4,⟨a4,i4,k4⟩,F4⟩⟩,⟨_,_,_,ac5,cl5,⟨a5,i5,k5⟩,F5⟩⟩,⟨_,_,_,ac6,cl6,⟨a6,i6,k6⟩,F6⟩⟩,⟨_,_,_,ac0,cl0,⟨a7,i7,k7⟩,F7⟩⟩,⟨_,_,_,ac2,cl2,⟨a7_2,i7,k7⟩,F7⟩⟩,⟨_,_,_,ac3,cl3,⟨a7_3,i7,k7⟩,F7⟩⟩,⟨_,_,_,ac4,cl4,⟨a7_4,i7,k7⟩,F7⟩⟩,⟨_,_,_,ac1,cl1,⟨a8,i8,k8⟩,F8⟩⟩,⟨_,_,_,ac5,cl5,⟨a9,i9,k9⟩,F9⟩⟩,⟨_,_,_,ac6,cl6,⟨a10,i10,k10⟩,F10⟩⟩,⟨_,_,_,ac9,cl9,⟨a11,i11,k11⟩,F11⟩⟩,⟨_,_,_,ac9,cl9,⟨a12,i12,k12⟩,F12⟩⟩,⟨_,_,_,ac7,cl7,⟨a13,i13,k13⟩,F13⟩⟩,⟨_,_,_,ac8,cl8,⟨a14,i14,k14⟩,F14⟩⟩,⟨_,_,_,ac0,cl0,⟨a15,i15,k15⟩,F15⟩⟩,⟨_,_,_,ac1,cl1,⟨a16,i16,k16⟩,F16⟩⟩,⟨_,_,_,ac2,cl2,⟨a17,i17,k17⟩,F17⟩⟩,⟨_,_,_,ac2,cl2,⟨a18,i18,k18⟩,F18⟩⟩,⟨_,_,_,ac2,cl2,⟨a19,i19,k19⟩,F19⟩⟩,⟨_,_,_,ac3,cl3,⟨a20,i20,k20⟩,F20⟩⟩,⟨_,_,_,ac3,cl3,⟨a21,i21,k21⟩,F21⟩⟩,⟨_,_,_,ac4,cl4,⟨a22,i22,k22⟩,F22⟩⟩,⟨_,_,_,ac5,cl5,⟨a23,i23,k23⟩,F23⟩⟩,⟨_,_,_,ac6,cl6,⟨a24,i24,k24⟩,F24⟩⟩,⟨_,_,_,ac7,cl7,⟨a25,i25,k25⟩,F25⟩⟩,⟨_,_,_,ac8,cl8,⟨a26,i26,k26⟩,F26⟩⟩
 exact HN (u:=u) F27 (Nh (NV (Nz (Of (N2 (Nq (Nx (NR (NY (MX (NN (Oa (NA (M4 (Nc (NQ (NM (MF (N4 (NI (N5 (Od (Ng (NF (Nt (Nn (MT (NK (M3 (MA (K1 (N3 (Nw (MM (Nv (M7 (MP (MR (Nm (MQ (MK (N8 (NX (MN (NB (N6 (M5 (NW (M1 (MO (Ny (MH (M6 (M8 (MD (MY (e20 (M2 (Ni (Oc (N7 (ML (Og (N9 (ND (Hf (e10 (e9 (e8 (e7 (e6 (e5 (e4 (e3 (e2 (e1 q0))))))))))))))))))))))))))))))))))))))))))))))))))))))))))))))))))))))))))))
theorem walk{l:QZ}{q:RN}{loose:av}{XP:(cS)->RP->Prop}{YP:RM->RP->Prop}{d:DefRec}{K:Params->QG}(hn:l.most=some 63)(hdf:d.params.defaults=[])
  (hY:∀(w:RM)(h:RP),YP w h->(K w.params).In h)
  (F:∀ (w:RM) (mg:cS) (fa:RH) (h:RP),(K w.params).In h->h.Ns RT mg->mg d.name=some (.ref fa) ->
   ∃fd:Sn,(∀(s:RL)(u:RF),Sq s fd ⟨[u],[]⟩ [("_law_script",u)])/\∀base:RP,(K w.params).In base->base.Ns RT mg->gz l.prog w (K w.params) mg base (lQ l.prog w) 55 fa fd ["_law_script"] (ya (K w.params) 1 (aj nB 1 10)))
  (math:∀ns:List Int,ns.length<=63->aj nB 1 10 [.lst (ns.map .int)]=.ok (.bl true)):PySem.W.WalkO q loose XP YP l.row.toRowW d [] (λf vs=>PySem.call f vs):=
 L2.Jt (n:=63) (k:=55) (x:="_law_script") (CX:=λw=>lQ l.prog w) (sp:=λw=>ya (K w.params) 1 (aj nB 1 10)) hn (by decide) hdf ⟨rfl,by decide,by decide⟩ hY F
  (λw H a ns hl _ hS=>⟨[],[.lst (ns.map .int)],rfl,⟨trivial,λa h=>nomatch h⟩,by rw[BH];exact aM.mpr ⟨.ref a,[],rfl,cq.mpr ⟨a,_,rfl,hS,qw ns⟩,cw.mpr rfl⟩,by rw[math ns hl];exact λv H' _ d=>iT.mp d⟩) λ_ _ _ _ _ z=>by obtain⟨_,_,_,_,_,_,_,_,_,_,_,_,_,_,z⟩:=z;exact z
end Tk87
namespace Tk87
open PySem PySem.Spec L2 TG TD T4
local macro_rules|`(‹$x›)=>do if x.raw.isOfKind `num then Lean.Macro.throwUnsupported else `(some (S.val $x))
local macro_rules
 |`(tactic| simp! only[$xs,*])=>`(tactic| simp only[ed,qf,qC,qb,iV,dU,ge_0,yg,mj,yn,lU,jR,mq,mZ,xY,yd,xW,wc,wO,ng,nc,qF,gW,ke,mS,jO,pX,ni,lV,kn,mX,hW,md,hJ,iu,fX,fY,mP,j3,fV,jN,iA,j8,jV,gL,j5,iz,mF,jZ,iE,gH,jP,kq,xU,qN,wI,yf,wC,mO,km,lW,jL,jT,wQ,xo,Qp,Qq,OH,O3,Pg,Py,K0,env0,List.replicate,Qb,OM,P5,Nat.reduceAdd,Nat.reduceSub,OG,O6,lS,mG,qc,mW,mn,mQ,fZ,mM,qV,qW,qZ,mh,il,ic,iF,gY,iq,gX,gh,gQ,qJ,qM,qH,qd,gR,iw,eZ,eX,mB,fW,fj,eV,fe,kN,kT,eS,fi,gU,ir,j7,jS,eN,jM,mD,mK,jJ,jK,gN,if_true,if_false,Qg,Qr,Pb,$xs,*])
theorem gm(j:Int)(h:0<j:=by decide):∀i:Int,cI (.int i) (.int j)=some (.int (i%j)):=λi=>eG (i:=i) h
theorem gd(j:Int)(h:0<j:=by decide)(h':j<10^200:=by decide):∀i:Int,eB (.int i) (.int j)=some (.int (i/j)):=λi=>ju (i:=i) h h'
theorem tV(a c:Bool):(if a=true then(.ok true:R Bool)else .ok c)=.ok (a||c):=by cases a<;>rfl
theorem pq(f:FX)(k:Ks)(ρ:ao):nU f k ρ=pI (f ρ) k ρ λ_=>k.nx ρ:=nr rfl
theorem kJ:(("number":Str)==("number":Str))=true:=by decide +kernel
theorem zv:(("number":Str)==("rows":Str))=false:=by decide +kernel
theorem GP:(("rows":Str)==("rows":Str))=true:=by decide +kernel
theorem Gb:(("word":Str)==("rows":Str))=false:=by decide +kernel
noncomputable abbrev num(lo hi:Int):D:=.tup [.str "number",.int lo,.int hi]
noncomputable abbrev L:=List (Str×D)
structure Fk(K R:L):Prop where
 k1:1<=K.length
 kl:K.length<=7
 rl:R.length<=8
 nd:((K++R).map (·.1)).Nodup
section
variable{K R:L}
theorem Fk.len(F:Fk K R):(K++R).length<=15:=by have:=F.kl;have:=F.rl;rw[OX];omega
theorem Fk.e:K.map fld++R.map fld=(K++R).map fld:=by rw[PB]
theorem Fk.at(F:Fk K R){i:Nat}{x:Str}{k:D}(hi:(K++R)[i]?=some (x,k)):aj bp 2 4 [fm K R,.str x]=.ok (.int i):=vg (K.map fld) (R.map fld) (K++R) (by have:=F.len;omega) Fk.e F.nd i x k hi
theorem Fk.kd(F:Fk K R){i:Nat}{x:Str}{k:D}(hi:(K++R)[i]?=some (x,k)):aj bF 2 2 [fm K R,.int i]=.ok k:=wt (K.map fld) (R.map fld) (K++R) (by have:=F.len;omega) Fk.e i x k hi
theorem Fk.nms(F:Fk K R):aj cQ 1 1 [fm K R]=.ok (.tup ((K++R).map λp=>.str p.1)):=kQ (K.map fld) (R.map fld) (K++R) (by have:=F.len;omega) Fk.e
theorem Fk.ik(F:Fk K R)(i:Nat):aj dP 2 2 [fm K R,.int i]=.ok (.bl (decide (i<K.length))):=by
 have:=kR (K.map fld) (R.map fld) i
 rw[OI]at this;exact this
theorem tZ(ps:L)(x:Str):vw (.str x) (.tup (ps.map λp=>.str p.1))=some (.bl ((ps.map (·.1)).contains x)):=by
 have:=vG x (ps.map (·.1))
 rwa [Qi]at this
noncomputable def rk(K:L)(i:Nat)(os:L):L:=if i<K.length then K.take i++os++K.drop (i+1)else K
noncomputable def rr(K R:L)(i:Nat)(os:L):L:=if i<K.length then R else R.take (i-K.length)++os++R.drop (i-K.length+1)
theorem HF(i:Nat)(os:L)(h:i<(K++R).length):rk K i os++rr K R i os=(K++R).take i++os++(K++R).drop (i+1):=by
 unfold rk rr;by_cases z:i<K.length
 ·rw[if_pos z,if_pos z,List.take_append_of_le_length ‹0›,List.drop_append_of_le_length ‹0›];simp only[PP]
 ·rw[if_neg z,if_neg z];have t1:(K++R).take i=K++R.take (i-K.length):=by rw[List.take_append,Qn (l:=K) ‹0›]
  have t2:(K++R).drop (i+1)=R.drop (i-K.length+1):=by rw[List.drop_append,Qo (as:=K) ‹0›,Py,show i+1-K.length=i-K.length+1 by omega]
  rw[t1,t2];simp only[PP]
theorem vZ(i:Nat)(p:Str×D)(h:i<(K++R).length):rk K i [p]++rr K R i [p]=(K++R).set i p:=by
 rw[HF i [p] h,Qv,if_pos h,PP];rfl
theorem sA(i:Nat)(p:Str×D):(rk K i [p]).length=K.length:=by
 unfold rk;split
 ·rename_i z;rw[OX,OX,OQ,OZ,O2];omega
 ·rfl
theorem EQ(i:Nat)(p:Str×D)(h:i<(K++R).length):(rr K R i [p]).length=R.length:=by
 have:=congrArg List.length (vZ i p h)
 rw[OX,PJ,OX,sA]at this;omega
theorem oh(F:Fk K R)(i:Nat)(os:L)(ho:os.length<=10):aj aH 3 3 [fm K R,.int i,.tup (os.map fld)]=.ok (fm (rk K i os) (rr K R i os)):=by
 have h:=F.len;rw[OX]at h;have w:=mV (K.map fld) (R.map fld) (os.map fld) i (by rw[OI,OI,OI];omega);rw[w,OI];unfold fm rk rr;by_cases z:i<K.length
 ·rw[if_pos z,if_pos z,if_pos z,PB,PB,Qw,Qx]
 ·rw[if_neg z,if_neg z,if_neg z,PB,PB,Qw,Qx]
theorem xm{xs:av}(h:xs.Nodup){i:Nat}{n:Str}(hn:∀j,j≠i->xs[j]?≠some n):(xs.set i n).Nodup:=by
 refine List.pairwise_iff_getElem.mpr λa b ha hb hab=>?_;rw[PJ]at ha hb;rw[List.getElem_set,List.getElem_set];have w:=List.pairwise_iff_getElem.mp h a b ha hb hab;split
 ·split
  ·omega
  ·exact λz=>hn b ‹0› (by rw[Pr hb,z])
 ·split
  ·exact λz=>hn a ‹0› (by rw[Pr ha,<-z])
  ·exact w
theorem Fk.set(F:Fk K R){i:Nat}{p:Str×D}(hi:i<(K++R).length)(hp:∀j,j≠i->((K++R).map (·.1))[j]?≠some p.1):Fk (rk K i [p]) (rr K R i [p]):=by
 refine⟨by rw[sA];exact F.k1,by rw[sA];exact F.kl,by rw[EQ i p hi];exact F.rl,?_⟩;rw[vZ i p hi,Qy];exact xm F.nd hp
end
theorem fF(m:Str)(tbl:List (Str×(bI)))(c:Str)(fs:av)(vs:List D)(g:bI)(fo:FX)(fas:aS)(ρ:ao)(h:fo ρ=.ok (.obj c fs vs))(l:tbl.lookup c=some g)(hm:fs.contains m=false):cv m tbl fo fas ρ=(fas ρ).bind λas=>g (.obj c fs vs::as):=by
 unfold cv;rw[h,ed];simp only[l,hm];rfl
noncomputable abbrev oN(m:Int)(x:Str):D:=.obj "Nest" ["many","name"] [.int m,.str x]
noncomputable abbrev oU(x:Str):D:=.obj "Unnest" ["name"] [.str x]
noncomputable abbrev oP(a:Str)(b:Int)(q r:Str):D:=.obj "Part" ["name","by","quotient","rest"] [.str a,.int b,.str q,.str r]
noncomputable abbrev oF(q r:Str)(b:Int)(a:Str):D:=.obj "Fuse" ["quotient","rest","by","name"] [.str q,.str r,.int b,.str a]
noncomputable abbrev oR(o n:Str):D:=.obj "Rename" ["old","new"] [.str o,.str n]
noncomputable abbrev oV(a:Str)(k:D):D:=.obj "Sieve" ["name","kind"] [.str a,k]
noncomputable abbrev oD(a:Str)(v:D):D:=.obj "Drop" ["name","value"] [.str a,v]
noncomputable abbrev leaf(t:Str):D:=.obj "Leaf" ["name"] [.str t]
noncomputable abbrev over(g s:D):D:=.obj "Over" ["glass","step"] [g,s]
noncomputable abbrev LJ:List (Str×(bI)):=[("Nest",(aj bL 2 4)),("Unnest",(aj bq 2 5)),("Part",(aj bN 2 6)),("Fuse",(aj bM 2 6)),("Rename",(aj bw 2 3)),("Sieve",(aj bC 2 5)),("Drop",(aj bO 2 4))]
noncomputable abbrev E5(ro rb:bI):List (Str×(bI)):=[("Leaf",(aj bJ 2 2)),("Over",ro),("Both",rb)]
noncomputable def So(s:D)(g:bI):Prop:=∃c fs vs,s=.obj c fs vs/\LJ.lookup c=some g/\fs.contains ("view_form":Str)=false
noncomputable def Go(n:Nat)(s:D)(g:bI):Prop:=∃c fs vs,s=.obj c fs vs/\(E5 (ay n) (aA n)).lookup c=some g/\fs.contains ("form":Str)=false
theorem Lr(m:Int)(x:Str):So (oN m x) (aj bL 2 4):=⟨_,_,_,rfl,by kernel_rfl,by decide +kernel⟩
theorem Lj(x:Str):So (oU x) (aj bq 2 5):=⟨_,_,_,rfl,by kernel_rfl,by decide +kernel⟩
theorem HL(a:Str)(b:Int)(q r:Str):So (oP a b q r) (aj bN 2 6):=⟨_,_,_,rfl,by kernel_rfl,by decide +kernel⟩
theorem HQ(q r:Str)(b:Int)(a:Str):So (oF q r b a) (aj bM 2 6):=⟨_,_,_,rfl,by kernel_rfl,by decide +kernel⟩
theorem HA(o n:Str):So (oR o n) (aj bw 2 3):=⟨_,_,_,rfl,by kernel_rfl,by decide +kernel⟩
theorem CU(a:Str)(k:D):So (oV a k) (aj bC 2 5):=⟨_,_,_,rfl,by kernel_rfl,by decide +kernel⟩
theorem IE(a:Str)(v:D):So (oD a v) (aj bO 2 4):=⟨_,_,_,rfl,by kernel_rfl,by decide +kernel⟩
theorem Lv(n:Nat)(t:Str):Go n (leaf t) (aj bJ 2 2):=⟨_,_,_,rfl,by kernel_rfl,by decide +kernel⟩
theorem JY(n:Nat)(g s:D):Go n (over g s) (ay n):=⟨_,_,_,rfl,by kernel_rfl,by decide +kernel⟩
theorem Go.meth{n:Nat}{g:D}{gf:bI}(h:Go n g gf)(fo:FX)(fas:aS)(ρ:ao)(e:fo ρ=.ok g):cv "form" (E5 (ay n) (aA n)) fo fas ρ=(fas ρ).bind λas=>gf (g::as):=by
 obtain⟨c,fs,vs,rfl,l,hm⟩:=h;exact fF "form" _ c fs vs gf fo fas ρ e l hm
theorem So.meth{s:D}{g:bI}(h:So s g)(fo:FX)(fas:aS)(ρ:ao)(e:fo ρ=.ok s):cv "view_form" LJ fo fas ρ=(fas ρ).bind λas=>g (s::as):=by
 obtain⟨c,fs,vs,rfl,l,hm⟩:=h;exact fF "view_form" _ c fs vs g fo fas ρ e l hm
theorem Ee(r:R D)(ρ:ao):pI r {nx:=λ_=>.ok D.non} ρ .ok=r:=by
 cases r with
 |ok d=>rfl
 |error x=>cases x<;>rfl
noncomputable def Fm(n:Nat)(g fs:D)(r:R D):Prop:=∃gf,Go n g gf/\gf [g,fs]=r
theorem iy(g s:D):aq "glass" ["Over"] (over g s)=some g:=by rfl
theorem j4(g s:D):aq "step" ["Over"] (over g s)=some s:=by rfl
section
variable{n:Nat}{g fs s:D}{gv:bI}
theorem BZ{r:R D}(h:Fm n g fs r)(hs:So s gv):Fm (n+1) (over g s) fs (r.bind λf=>gv [s,f]):=by
 obtain⟨gf,hg,e⟩:=h;refine⟨_,JY _ _ _,?_⟩;have m1:=hs.meth (f1 (aq "step" ["Over"]) (ae 0)) (ac (cv "form" (E5 (ay n) (aA n)) (f1 (aq "glass" ["Over"]) (ae 0)) (ac (ae 1) af)) af) [‹over g s›,‹fs›] (by simp! only[j4]);have m2:=hg.meth (f1 (aq "glass" ["Over"]) (ae 0)) (ac (ae 1) af) [‹over g s›,‹fs›] (by simp! only[iy]);rw[fq,b6];unfold gM;cases r with
 |ok f=>simp! only[m1,m2,e,Ee]
 |error x=>simp! only[m1,m2,e,Ee]
theorem vv{f:D}(h:Fm n g fs (.ok f))(hs:So s gv):Fm (n+1) (over g s) fs (gv [s,f]):=BZ h hs
end
theorem Gk(m:Int)(x:Str):aq "many" ["Nest"] (oN m x)=some (.int m):=by rfl
theorem Hk(m:Int)(x:Str):aq "name" ["Nest"] (oN m x)=some (.str x):=by rfl
theorem Ga(x:Str):aq "name" ["Unnest"] (oU x)=some (.str x):=by rfl
theorem EJ(o x:Str):aq "old" ["Rename"] (oR o x)=some (.str o):=by rfl
theorem Fx(o x:Str):aq "new" ["Rename"] (oR o x)=some (.str x):=by rfl
theorem HM(q r:Str)(b:Int)(a:Str):aq "quotient" ["Fuse"] (oF q r b a)=some (.str q):=by rfl
theorem Im(q r:Str)(b:Int)(a:Str):aq "rest" ["Fuse"] (oF q r b a)=some (.str r):=by rfl
theorem GL(q r:Str)(b:Int)(a:Str):aq "by" ["Fuse"] (oF q r b a)=some (.int b):=by rfl
theorem HS(a:Str)(b:Int)(q r:Str):aq "name" ["Part"] (oP a b q r)=some (.str a):=by rfl
theorem G5(a:Str)(b:Int)(q r:Str):aq "by" ["Part"] (oP a b q r)=some (.int b):=by rfl
theorem Fc(a:Str)(b:Int)(q r:Str):aq "quotient" ["Part"] (oP a b q r)=some (.str q):=by rfl
theorem Gv(a:Str)(b:Int)(q r:Str):aq "rest" ["Part"] (oP a b q r)=some (.str r):=by rfl
theorem Fu(a:Str)(k:D):aq "name" ["Sieve"] (oV a k)=some (.str a):=by rfl
theorem FU(a:Str)(k:D):aq "kind" ["Sieve"] (oV a k)=some k:=by rfl
theorem Hz(a:Str)(k:D):aq "name" ["Drop"] (oD a k)=some (.str a):=by rfl
theorem HD(a:Str)(k:D):aq "value" ["Drop"] (oD a k)=some k:=by rfl
theorem whole(m:Int):aj fu 1 1 [.int m]=.ok (.bl true):=by
 have t1:zA "int" (.int m)=some (.bl true):=rfl;have t2:zA "bool" (.int m)=some (.bl false):=rfl;rw[cP];unfold fu;simp! only[t1,t2];rfl
theorem B4(t:Str):aq "name" ["Leaf"] (leaf t)=some (.str t):=by rfl
theorem v0{xs:List D}(h:xs≠[])(p:pl (.tup xs)=true):fw (.tup xs) (.tup [])=some (.bl false):=by
 have e:fw (.tup xs) (.tup [])=if(pl (.tup xs)&&pl (.tup []))&&(df 8 (.tup xs)||df 8 (.tup []))then some (.bl (pyEq (.tup xs) (.tup [])))else none:=rfl
 have p2:pl (.tup [])=true:=rfl;have d2:df 8 (.tup [])=true:=rfl;have q:pyEq (.tup xs) (.tup [])=false:=by
  rw[pyEq];cases xs with
  |nil=>exact absurd rfl h
  |cons _ _=>unfold gD;rfl
 rw[e,p,p2,d2,Bool.or_true,q];rfl
theorem wr(i:Int)(h:i.natAbs<10^70):∃x:Str,aj cW 1 1 [.int i]=.ok (.str x):=by
 obtain⟨x,ex⟩:=str_int i h;have t:zA "str" (.int i)=some (.bl false):=rfl;refine⟨x,?_⟩;rw[cP];unfold cW;simp! only[t,ex]
noncomputable abbrev Ij:List (Str×(bI)):=[("Nest",(aj bV 1 1)),("Unnest",(aj bz 1 1)),("Part",(aj bQ 1 1)),("Fuse",(aj bS 1 1)),("Rename",(aj bu 1 1)),("Sieve",(aj bH 1 1)),("Drop",(aj bU 1 1))]
noncomputable abbrev IZ:List (Str×(bI)):=[("Nest",(aj ax 2 2)),("Unnest",(aj bT 2 2)),("Part",(aj ax 2 2)),("Fuse",(aj ax 2 2)),("Rename",(aj ax 2 2)),("Sieve",(aj cc 2 3)),("Drop",(aj dJ 2 2))]
theorem Oh(a b c d:D):nG [a,b,c,d]=some (.tup [a,b,c,d]):=nr rfl
theorem Mz(a b c d e:D):nG [a,b,c,d,e]=some (.tup [a,b,c,d,e]):=nr rfl
noncomputable def Wd(s:D):Prop:=∃(c:Str)(fs:av)(vs:List D)(gw:bI)(xs:av),s=.obj c fs vs/\Ij.lookup c=some gw/\fs.contains ("words":Str)=false/\gw [s]=.ok (.tup (xs.map .str))/\xs≠[]
theorem Wd.meth{s:D}(h:Wd s):∃xs:av,xs≠[]/\∀(fo:FX)(ρ:ao),fo ρ=.ok s->cv "words" Ij fo af ρ=.ok (.tup (xs.map .str)):=by
 obtain⟨c,fs,vs,gw,xs,rfl,l,hm,e,hx⟩:=h;refine⟨xs,hx,λfo ρ h=>?_⟩;rw[fF "words" Ij c fs vs gw fo af ρ h l hm];simp! only[e]
theorem rR(xs:av):pl (.tup (xs.map .str))=true:=by
 rw[dH];exact rK _ (λ_=>rfl) xs
theorem sJ(xs:av):mC (.tup (xs.map .str)) (.tup (xs.map .str))=some (.bl false):=by
 have e:mC (.tup (xs.map .str)) (.tup (xs.map .str))=if(pl (.tup (xs.map .str))&&pl (.tup (xs.map .str)))&&(df 8 (.tup (xs.map .str))||df 8 (.tup (xs.map .str)))then some (.bl (!pyEq (.tup (xs.map .str)) (.tup (xs.map .str))))else none:=rfl
 have d:df 8 (.tup (xs.map .str))=true:=by
  show(xs.map D.str).all (df 7)=true;rw[Pq];exact List.all_eq_true.mpr λ_ _=>rfl
 rw[e,rR,d,gS];rfl
theorem fz{s:D}(w:Wd s)(j:aX ["Sieve"] ["Nest","Unnest","Part","Fuse","Rename","Drop"] s=some (.bl false))(f:D):aj cY 2 2 [f,s]=.ok (.bl false):=by
 obtain⟨xs,hx,m⟩:=w.meth;have m:=m (ae 1) [‹f›,‹s›] rfl;have q:=v0 (xs:=xs.map D.str) (by simpa using hx) (rR xs);rw[b6];unfold cY;simp! only[m,Jv,q,j];rfl
theorem IK(m:Int)(x:Str)(h:m.natAbs<10^70):Wd (oN m x):=by
 obtain⟨y,ey⟩:=wr m h;refine⟨_,_,_,aj bV 1 1,["nest",y,x],rfl,by kernel_rfl,by decide +kernel,?_,by simp⟩;rw[cP];unfold bV;simp! only[Gk,Hk,ey,sq]
theorem IQ(x:Str):Wd (oU x):=by
 refine⟨_,_,_,aj bz 1 1,["unnest",x],rfl,by kernel_rfl,by decide +kernel,?_,by simp⟩;rw[cP];unfold bz;simp! only[Ga,tJ]
theorem Dt(a:Str)(b:Int)(q r:Str)(h:b.natAbs<10^70):Wd (oP a b q r):=by
 obtain⟨y,ey⟩:=wr b h;refine⟨_,_,_,aj bQ 1 1,["part",a,y,q,r],rfl,by kernel_rfl,by decide +kernel,?_,by simp⟩;rw[cP];unfold bQ;simp! only[HS,G5,Fc,Gv,ey,Mz]
theorem DK(q r:Str)(b:Int)(a:Str)(h:b.natAbs<10^70):Wd (oF q r b a):=by
 obtain⟨y,ey⟩:=wr b h;have ff_n:aq "name" ["Fuse"] (oF q r b a)=some (.str a):=by rfl
 refine⟨_,_,_,aj bS 1 1,["fuse",q,r,y,a],rfl,by kernel_rfl,by decide +kernel,?_,by simp⟩;rw[cP];unfold bS;simp! only[HM,Im,GL,ff_n,ey,Mz]
theorem Dd(a b:Str):Wd (oR a b):=by
 refine⟨_,_,_,aj bu 1 1,["rename",a,b],rfl,by kernel_rfl,by decide +kernel,?_,by simp⟩;rw[cP];unfold bu;simp! only[EJ,Fx,sq]
theorem FQ(a:Str)(lo hi:Int)(h:lo.natAbs<10^70)(h':hi.natAbs<10^70):Wd (oV a (num lo hi)):=by
 obtain⟨y,ey⟩:=wr lo h;obtain⟨z,ez⟩:=wr hi h';refine⟨_,_,_,aj bH 1 1,["sieve",a,y,z],rfl,by kernel_rfl,by decide +kernel,?_,by simp⟩;rw[cP];unfold bH;simp! only[FU,Fu,kJ,ey,ez,Oh]
theorem LY(a:Str)(v:Int)(h:v.natAbs<10^70):Wd (oD a (.int v)):=by
 obtain⟨y,ey⟩:=wr v h;refine⟨_,_,_,aj bU 1 1,["drop",a,y],rfl,by kernel_rfl,by decide +kernel,?_,by simp⟩;rw[cP];unfold bU;simp! only[Hz,HD,ey,sq]
section
variable{K R:L}
theorem vW{x:Str}(h:x∉(K++R).map (·.1)):((K++R).map (·.1)).contains x=false:=by
 cases z:((K++R).map (·.1)).contains x with
 |false=>rfl
 |true=>exact absurd (List.contains_iff_mem.mp z) h
theorem zt(F:Fk K R){i:Nat}{o x:Str}{k:D}(hi:(K++R)[i]?=some (o,k))(hx:x∉(K++R).map (·.1)):aj bw 2 3 [oR o x,fm K R]=.ok (fm (rk K i [(x,k)]) (rr K R i [(x,k)])):=by
 have p:=F.at hi;have c:=vW hx;have w:=oh F i [(x,k)] (by simp);have w:aj aH 3 3 [fm K R,.int i,.tup [.tup [.str x,k]]]=.ok (fm (rk K i [(x,k)]) (rr K R i [(x,k)])):=w;have kd:=F.kd hi;have nms:=F.nms;rw[b6];unfold bw;generalize fm (rk K i [(x,k)]) (rr K R i [(x,k)])=ff at *;generalize fm K R=f0 at *;simp! only[EJ,Fx,p,nms,tZ,c,kd,tJ,yH,w]
theorem uf(a b c d:Int)(h:max a c<=min b d):aj kL 2 2 [num a b,num c d]=.ok (num (max a c) (min b d)):=by
 have a1:nE [.int a,.int c]=some (.int (max a c)):=by
  rw[kN];congr 2;by_cases z:c>a
  ·rw[if_pos z];omega
  ·rw[if_neg z];omega
 have a2:ny [.int b,.int d]=some (.int (min b d)):=by
  rw[kT];congr 2;by_cases z:d<b
  ·rw[if_pos z];omega
  ·rw[if_neg z];omega
 have bn:aj dF 2 4 [num a b,num c d]=.ok (num (max a c) (min b d)):=by
  rw[b6];unfold dF;simp! only[a1,a2,decide_eq_true h,sq]
 rw[b6];unfold kL;simp! only[kJ,bn]
theorem sv(F:Fk K R){i:Nat}{x:Str}{a b c d:Int}(hi:(K++R)[i]?=some (x,num a b))(h:max a c<=min b d):aj bC 2 5 [oV x (num c d),fm K R]=.ok (fm (rk K i [(x,num (max a c) (min b d))]) (rr K R i [(x,num (max a c) (min b d))])):=by
 have p:=F.at hi;have w:=oh F i [(x,num (max a c) (min b d))] (by simp);have w:aj aH 3 3 [fm K R,.int i,.tup [.tup [.str x,num (max a c) (min b d)]]]=.ok (fm (rk K i [(x,num (max a c) (min b d))]) (rr K R i [(x,num (max a c) (min b d))])):=w;have kd:=F.kd hi;have bo:=uf a b c d h;have nn:isNon (num (max a c) (min b d))=false:=rfl;rw[b6];unfold bC;generalize fm (rk K i [(x,num (max a c) (min b d))]) (rr K R i [(x,num (max a c) (min b d))])=ff at *;generalize fm K R=f0 at *;simp! only[Fu,FU,p,kd,kJ,bo,nn,tJ,yH,w]
theorem CO(a b c d:Int):mC (num a b) (num c d)=some (.bl (!pyEq (num a b) (num c d))):=by
 have e:mC (num a b) (num c d)=if(pl (num a b)&&pl (num c d))&&(df 8 (num a b)||df 8 (num c d))then some (.bl (!pyEq (num a b) (num c d)))else none:=rfl
 have p1:pl (num a b)=true:=rfl;have p2:pl (num c d)=true:=rfl;have d1:df 8 (num a b)=true:=rfl;rw[e,p1,p2,d1];rfl
theorem DM(a b c d:Int):pyEq (num a b) (num c d)=((a==c)&&(b==d)):=by
 simp only[pyEq,gD,BEq.rfl,Bool.true_and,Pu]
theorem AI(a b c d:Int):fw (num a b) (num c d)=some (.bl ((a==c)&&(b==d))):=by
 have e:fw (num a b) (num c d)=if(pl (num a b)&&pl (num c d))&&(df 8 (num a b)||df 8 (num c d))then some (.bl (pyEq (num a b) (num c d)))else none:=rfl
 have p1:pl (num a b)=true:=rfl;have p2:pl (num c d)=true:=rfl;have d1:df 8 (num a b)=true:=rfl;rw[e,p1,p2,d1,DM];rfl
theorem rp(F:Fk K R){i:Nat}{x:Str}{a b c d:Int}(hi:(K++R)[i]?=some (x,num a b))(h:max a c<=min b d)(hs:¬(c<=a/\b<=d))(w:Wd (oV x (num c d))):aj cY 2 2 [fm K R,oV x (num c d)]=.ok (.bl false):=by
 obtain⟨xs,hx,m⟩:=w.meth;have p:=F.at hi;have kd:=F.kd hi;have bo:=uf a b c d h;have z:((max a c==a)&&(min b d==b))=false:=by
  rw[Qz];by_cases y:c<=a
  ·exact .inr (by simp;omega)
  ·exact .inl (by simp;omega)
 have ex:aj cc 2 3 [oV x (num c d),fm K R]=.ok (.bl false):=by
  rw[b6];unfold cc;generalize fm K R=f0 at *;simp! only[Fu,FU,p,kd,bo,AI,z]
 have m1:=m (ae 1) [‹fm K R›,‹oV x (num c d)›] rfl;have m2:=fF "exact" IZ "Sieve" ["name","kind"] [.str x,num c d] (aj cc 2 3) (ae 1) (ac (ae 0) af) [‹fm K R›,‹oV x (num c d)›] rfl (by kernel_rfl) (by decide +kernel);have q:=v0 (xs:=xs.map D.str) (by simpa using hx) (rR xs);have j:aX ["Sieve"] ["Nest","Unnest","Part","Fuse","Rename","Drop"] (oV x (num c d))=some (.bl true):=by kernel_rfl
 rw[b6];unfold cY;generalize fm K R=f0 at *;simp! only[m1,Jv,q,j,m2,ex];rfl
theorem vV(F:Fk K R){i:Nat}{x:Str}{a b v:Int}(hi:(K++R)[i]?=some (x,num a b))(hk:K.length<=i)(h1:a<=v)(h2:v<=b):aj bO 2 4 [oD x (.int v),fm K R]=.ok (fm (rk K i []) (rr K R i [])):=by
 have p:=F.at hi;have kd:=F.kd hi;have ik:=F.ik i;have w:=oh F i [] (by simp);have w:aj aH 3 3 [fm K R,.int i,.tup []]=.ok (fm (rk K i []) (rr K R i [])):=w;have wh:=whole v;have ft:cV 12 [num a b,.int v]=.ok (.bl true):=by
  rw[jq,b6];unfold rE;simp! only[kJ,wh,decide_eq_true h1,decide_eq_true h2];rfl
 have dk:decide (i<K.length)=false:=decide_eq_false ‹0›;rw[b6];unfold bO;generalize fm (rk K i []) (rr K R i [])=ff at *;generalize fm K R=f0 at *;simp! only[Hz,HD,p,kd,tV,zv,ft,Qg,QA,ik,dk,Jv,w]
theorem kK(F:Fk K R){x:Str}(hx:x∉(K++R).map (·.1))(pls:D):aj bR 3 4 [fm K R,.str x,pls]=.ok (.bl false):=by
 have hl:=F.len;have ll:(K.map fld).length+(R.map fld).length<=100:=by rw[OI,OI];rw[OX]at hl;omega
 obtain⟨vs,v1,v2,v3⟩:=zW (ρ:=inB [none,none,some 1,some 2] [‹fm K R›,‹.str x›,‹pls›,‹.tup ((K++R).map fld)›]) (g:=gT 2 (sC [0,1])) (C:=dg) (Fe:=gB (f2 fw (f2 ai (ae 1) (fC (.int 0))) (ae 2)) (f2 o6 (ae 0) (ae 3))) (fP 0 ((K++R).map fld)) (λt v=>v=.bl false) (λt d hd=>by
  rw[lN,OV]at hd;cases hp:(K++R)[t]? with
  |none=>rw[hp]at hd;cases hd
  |some p=>
   rw[hp]at hd;cases hd;have ne:(p.1==x)=false:=by
    have:p.1≠x:=λz=>hx (by rw[<-z];exact List.mem_map_of_mem (OW hp))
    simpa using this
   refine⟨[‹.int ((0+t:Nat):Int)›,‹.tup [.str p.1,p.2]›,‹.str x›,‹pls›],_,rfl,rfl,?_,rfl⟩;simp! only[ne])
 have ev:vs=((K++R).map λ_=>false).map .bl:=by
  have lv:vs.length=(K++R).length:=by rw[v1,fS,OI]
  apply List.ext_getElem
  ·rw[OI,OI,lv]
  ·intro t h1 h2;rw[v2 t _ (Pr h1),Qs,Qs]
 have f0:=gF (ix:=[none,none,some 1,some 2]) (G:=fh (ac (ae 3) af)) (ρ:=[‹fm K R›,‹.str x›,‹pls›,‹.tup ((K++R).map fld)›]) (by simp! only[qv]) (by rw[fS,OI];omega) v3;rw[ev]at f0;have an:((K++R).map λ_=>false).any id=false:=by
  rw[Qc,OC];intro p _ z;cases z
 have ad:=eD (K.map fld) (R.map fld) ‹0›;rw[Fk.e]at ad;rw[cy];unfold bR;simp! only[ad,f0,vU,an]
noncomputable def Nu(ps:L):Prop:=∀p∈ps,∃lo hi:Int,p.2=num lo hi
noncomputable def lw:D->D
 |.tup (.str _::.int lo::_)=>.int lo
 |_=>.non
theorem Dx(g:Nat)(lo hi:Int):cG (g+1) [num lo hi]=.ok (.int lo):=by
 rw[fQ,cP];unfold kX;simp! only[kJ]
theorem Ls(F:Fk K R)(N:Nu (K++R)):∃d,aj eA 1 1 [fm K R]=.ok d:=by
 have hl:=F.len;have ko:aj cR 1 1 [fm K R]=.ok (.tup ((K++R).map (·.2))):=kinds_ok (K.map fld) (R.map fld) (K++R) (by rw[OI,OI];rw[OX]at hl;omega) Fk.e;have rows_num:(("rows":Str)==("number":Str))=false:=by decide +kernel
 have rows_word:(("rows":Str)==("word":Str))=false:=by decide +kernel
 have f0:iC [none] (cu (fR (aj cR 1 1) (ac (f2 ai (ae 0) (fC (.int 1))) af))) (gN 0) dg (fR (cG 11) (ac (ae 0) af)) [‹.tup [.str "rows",fm K R,.bl true]›]=.ok (.lst ((K++R).map λp=>lw p.2)):=by
  refine gF (ds:=(K++R).map (·.2)) ?_ (by rw[OI];omega) ?_
  ·generalize fm K R=ff at *;simp! only[ko]
  ·refine kh (λp:Str×D=>p.2) _ (K++R) λp hp=>⟨_,rfl,rfl,?_⟩
   have e:cG 11 [p.2]=.ok (lw p.2):=by
    obtain⟨lo,hi,e⟩:=N p hp;rw[e];exact Dx 10 lo hi
   simp! only[e]
 have e1:cG 12 [.tup [.str "rows",fm K R,.bl true]]=.ok (.tup [.tup ((K++R).map λp=>lw p.2)]):=by
  rw[fQ,cP];unfold kX;generalize fm K R=ff at *;simp! only[rows_num,rows_word,f0,yH]
 refine⟨.tup ((K++R).map λp=>lw p.2),?_⟩;rw[cP];unfold eA;generalize fm K R=ff at *;simp! only[sq,e1]
theorem v7(F:Fk K R)(N:Nu (K++R)){i:Nat}{x q r:Str}{a b c:Int}(hi:(K++R)[i]?=some (x,num a b))(c1:2<=c)(c2:c<=1000)(d1:a%c=0)(d2:(b+1)%c=0)(hq:q∉(K++R).map (·.1))(hr:r∉(K++R).map (·.1))(qr:q≠r)(hk:i<K.length):
  aj bN 2 6 [oP x c q r,fm K R]=.ok (fm (rk K i [(q,num (a/c) (b/c)),(r,num 0 (c-1))]) (rr K R i [(q,num (a/c) (b/c)),(r,num 0 (c-1))])):=by
 have p:=F.at hi;have kd:=F.kd hi;have ik:=F.ik i;have e1:=kK F hq (.tup [.int i]);have e2:=kK F hr (.tup [.int i]);obtain⟨lr,el⟩:=Ls F N;have w:=oh F i [(q,num (a/c) (b/c)),(r,num 0 (c-1))] (by simp);have w:aj aH 3 3 [fm K R,.int i,.tup [.tup [.str q,num (a/c) (b/c)],.tup [.str r,num 0 (c-1)]]]=.ok (fm (rk K i [(q,num (a/c) (b/c)),(r,num 0 (c-1))]) (rr K R i [(q,num (a/c) (b/c)),(r,num 0 (c-1))])):=w;have g:=λj=>eG (i:=j) (show(0:Int)<c by omega);have dv:=λj=>ju (i:=j) (show(0:Int)<c by omega) (show c<10^200 by
  have:(10:Int)^200>1000:=by decide +kernel
  omega)
 have qr':(q==r)=false:=by simpa using qr
 have cn:aj bx 3 3 [oP x c q r,fm K R,.int i]=.ok .non:=by
  rw[cy];unfold bx;generalize fm K R=f0 at *;simp! only[Fc,Gv,qr',yH,e1,e2]
 have z1:(a%c==0)=true:=by simpa using d1
 have z2:((b+1)%c==0)=true:=by simpa using d2
 have ce:aj bD 3 5 [oP x c q r,fm K R,.int i]=.ok .non:=by
  rw[cy];unfold bD;generalize fm K R=f0 at *;simp! only[kd,el,G5,g,z1,z2]
 have m1:=λf x3 x4 x5=>fF "check_names" [("Part",(aj bx 3 3))] "Part" ["name","by","quotient","rest"] [.str x,.int c,.str q,.str r] (aj bx 3 3) (ae 0) (ac (ae 1) (ac (ae 2) af)) [‹oP x c q r›,‹f›,‹.int (i:Int)›,x3,x4,x5] rfl (by kernel_rfl) (by decide +kernel);have m2:=λf x3 x4 x5=>fF "check_ends" [("Part",(aj bD 3 5))] "Part" ["name","by","quotient","rest"] [.str x,.int c,.str q,.str r] (aj bD 3 5) (ae 0) (ac (ae 1) (ac (ae 2) af)) [‹oP x c q r›,‹f›,‹.int (i:Int)›,x3,x4,x5] rfl (by kernel_rfl) (by decide +kernel);have dk:decide (i<K.length)=true:=decide_eq_true hk;have lk:cX [.tup (K.map fld)]=some (.int (K.length:Int)):=by
  have:cX [.tup (K.map fld)]=some (.int ((K.map fld).length:Int)):=rfl
  rw[this,OI]
 have i0:ai (fm K R) (.int 0)=some (.tup (K.map fld)):=gh _ _;have kl:=F.kl;have ge:decide ((8:Int)<=(K.length:Int))=false:=decide_eq_false ‹0›;have c3:decide ((2:Int)<=c)=true:=decide_eq_true c1;have c4:decide (c<=1000000000)=true:=decide_eq_true ‹0›;rw[b6];unfold bN;generalize fm (rk K i [(q,num (a/c) (b/c)),(r,num 0 (c-1))]) (rr K R i [(q,num (a/c) (b/c)),(r,num 0 (c-1))])=ff at *;generalize fm K R=f0 at *;simp! only[HS,G5,Fc,Gv,p,kd,kJ,eN,tV,c3,c4,Bool.and_self,Qg,QA,m1,cn,pq,ik,dk,i0,lk,ge,m2,ce,dv,tJ,sq,w]
theorem vM(F:Fk K R){i j:Nat}{x y z:Str}{a b c:Int}(hi:(K++R)[i]?=some (x,num a b))(hj:(K++R)[j]?=some (y,num 0 (c-1)))(ij:i≠j)(c1:2<=c)(c2:c<=1000)(hz:z∉(K++R).map (·.1))(ik':i<K.length)(jk':j<K.length):
  aj bM 2 6 [oF x y c z,fm K R]=.ok (fm ((K.set i (z,num (a*c) (b*c+c-1))).eraseIdx j) R):=by
 have p:=F.at hi;have q:=F.at hj;have ki:=F.kd hi;have kj:=F.kd hj;have ii:=F.ik i;have ji:=F.ik j;have el:=kK F hz (.tup [.int i,.int j]);have ff_n:aq "name" ["Fuse"] (oF x y c z)=some (.str z):=by rfl
 have kl:=F.kl;have hl:=F.len;rw[OX]at hl;have w1:=mV (K.map fld) (R.map fld) [fld (z,num (a*c) (b*c+c-1))] i (by rw[OI,OI];simp;omega);rw[OI,if_pos ik']at w1;have e1:(K.map fld).take i++[fld (z,num (a*c) (b*c+c-1))]++(K.map fld).drop (i+1)=(K.set i (z,num (a*c) (b*c+c-1))).map fld:=by
  rw[Qy,Qv,if_pos (by rw[OI];exact ik'),PP];rfl
 rw[e1]at w1;have w2:=mV ((K.set i (z,num (a*c) (b*c+c-1))).map fld) (R.map fld) [] j (by rw[OI,OI,PJ];simp;omega);rw[OI,PJ,if_pos jk',OM]at w2;have e2:((K.set i (z,num (a*c) (b*c+c-1))).map fld).take j++((K.set i (z,num (a*c) (b*c+c-1))).map fld).drop (j+1)=((K.set i (z,num (a*c) (b*c+c-1))).eraseIdx j).map fld:=by
  rw[<-Qw,<-Qx,<-PB,QB]
 rw[e2]at w2;have w1:aj aH 3 3 [fm K R,.int i,.tup [.tup [.str z,num (a*c) (b*c+c-1)]]]=.ok (fm (K.set i (z,num (a*c) (b*c+c-1))) R):=w1;have w2:aj aH 3 3 [fm (K.set i (z,num (a*c) (b*c+c-1))) R,.int j,.tup []]=.ok (fm ((K.set i (z,num (a*c) (b*c+c-1))).eraseIdx j) R):=w2;have ma:=jH (i:=a) (j:=c) ‹0› ‹0›;have mb:=jH (i:=b) (j:=c) ‹0› ‹0›;have n1:((i:Int)==(j:Int))=false:=by simp;omega
 have n2:(!(decide (i<K.length)==decide (j<K.length)))=false:=by rw[decide_eq_true ik',decide_eq_true jk'];rfl
 have c3:decide ((2:Int)<=c)=true:=decide_eq_true c1;have c4:decide (c<=1000000000)=true:=decide_eq_true ‹0›;have nz:(!pyEq (num 0 (c-1)) (num 0 (c-1)))=false:=by rw[gS];rfl
 have ck:aj bA 4 4 [oF x y c z,fm K R,.int i,.int j]=.ok .non:=by
  rw[Au];unfold bA;generalize fm K R=f0 at *;simp! only[ki,kj,ii,ji,n1,n2,kJ,GL,tV,eN,c3,c4,Bool.and_self,Qg,QA,sq,CO,nz]
 have m:=λf x4 x5=>fF "check_kinds" [("Fuse",(aj bA 4 4))] "Fuse" ["quotient","rest","by","name"] [.str x,.str y,.int c,.str z] (aj bA 4 4) (ae 0) (ac (ae 1) (ac (ae 2) (ac (ae 3) af))) [‹oF x y c z›,‹f›,‹.int (i:Int)›,‹.int (j:Int)›,x4,x5] rfl (by kernel_rfl) (by decide +kernel);rw[b6];unfold bM;generalize fm ((K.set i (z,num (a*c) (b*c+c-1))).eraseIdx j) R=ff at *;generalize fm (K.set i (z,num (a*c) (b*c+c-1))) R=f1 at *;generalize fm K R=f0 at *;simp! only[HM,Im,GL,ff_n,p,q,m,ck,pq,tJ,el,ki,ma,mb,sq,yH,w1,Jv,w2]
end
noncomputable abbrev DL(t:Str)(f:D):D:=uQ [(.inr t,f)]
theorem HZ(t:Str)(f:D):nD [(.str t,f)]=some (DL t f):=by
 unfold nD;have e:jD [(.str t,f)]=some [(.inr t,f)]:=rfl;rw[e];rfl
theorem CC(fs:List (FX×FX))(ρ:ao):gK fs ρ=(Bl (wu fs ρ)).bind λps=>rO (nD ps):=rfl
theorem Dj(ρ:ao):wu [] ρ=.ok []:=rfl
theorem yx(fk fv:FX)(r:List (FX×FX))(ρ:ao):wu ((fk,fv)::r) ρ=(fk ρ).bind λk=>(fv ρ).bind λv=>(wu r ρ).bind λps=>.ok ((k,v)::ps):=rfl
theorem HG{α:Type}(a:α):Bl (.ok a:R α)=.ok a:=rfl
theorem gg(t:Str)(f:D):Ea (DL t f) (.str t)=some (some f):=by
 unfold Ea;show((lx (kC [((.inr t:Key),f)]) ([((.inr t:Key),f)].map (·.2))).bind λal=>(keyOf (.str t)).map λq=>mL al q)=_;rw[qS];show some (mL [((.inr t:Key),f)] (.inr t))=_;unfold mL;rw[O5,decide_eq_true (rfl:(Sum.inr t:Key)=Sum.inr t)];rfl
theorem CA(m:Nat)(t:Str)(f:D):Fm m (leaf t) (DL t f) (.ok f):=by
 refine⟨_,Lv _ _,?_⟩;have g:=gg t f;have g1:iR (.str t) (DL t f)=some (.bl false):=by unfold iR;rw[g];rfl
 have g2:qD (DL t f) (.str t)=some f:=by unfold qD;rw[g];rfl
 rw[b6];unfold bJ;generalize DL t f=fs at *;simp! only[B4,g1,g2]
section
variable{g fs:D}
theorem De{f d:D}(h:Fm 12 g fs (.ok f))(t:dj 12 [fs,g]=.ok d):aj hX 2 2 [fs,g]=.ok d:=by
 obtain⟨gf,hg,e⟩:=h;have m:=hg.meth (ae 1) (ac (ae 0) af) [‹fs›,‹g›] rfl;rw[b6];unfold hX;simp! only[m,e,pq,t]
theorem xF(m:Nat)(t:Str):dj (m+1) [fs,leaf t]=.ok (leaf t):=by
 have j1:aX ["Over"] ["Leaf","Both"] (leaf t)=some (.bl false):=by kernel_rfl
 have j2:aX ["Both"] ["Leaf","Over"] (leaf t)=some (.bl false):=by kernel_rfl
 rw[gE,b6];unfold oY;simp! only[j1,j2]
theorem qR{m:Nat}{s g' d:D}(h:dj m [fs,g]=.ok g')(hl:bf 12 [fs,g',s]=.ok d):dj (m+1) [fs,over g s]=.ok d:=by
 have j1:aX ["Over"] ["Leaf","Both"] (over g s)=some (.bl true):=by kernel_rfl
 rw[gE,b6];unfold oY;simp! only[j1,iy,j4,h,hl]
end
theorem Kz:∀(fas:aS)(ρ:ao),fNew "Over" ["glass","step"] fas ρ=(fas ρ).bind λas=>if as.length=2 then .ok (.obj "Over" ["glass","step"] as)else un:=λ_ _=>rfl
theorem MI:∀(fas:aS)(ρ:ao),fNew "Leaf" ["name"] fas ρ=(fas ρ).bind λas=>if as.length=1 then .ok (.obj "Leaf" ["name"] as)else un:=λ_ _=>rfl
theorem yy{fs f s:D}{t:Str}(h:Fm 12 (leaf t) fs (.ok f))(hi:aj cY 2 2 [f,s]=.ok (.bl false)):bf 12 [fs,leaf t,s]=.ok (over (leaf t) s):=by
 obtain⟨gf,hg,e⟩:=h;have m:=hg.meth (ae 1) (ac (ae 0) af) [‹fs›,‹leaf t›,‹s›,none] rfl;have j1:aX ["Over"] ["Leaf","Both"] (leaf t)=some (.bl false):=by kernel_rfl
 have nn:isNon D.non=true:=rfl;rw[dI,cy];unfold fE;simp! only[m,e,hi,j1,nn,Kz]
theorem yU{fs f f1 s0 s1:D}{t:Str}(h0:Fm 12 (leaf t) fs (.ok f))(h1:Fm 12 (over (leaf t) s0) fs (.ok f1))(hi:aj cY 2 2 [f1,s1]=.ok (.bl false))(hs:aj aU 3 3 [f,s0,s1]=.ok .non):bf 12 [fs,over (leaf t) s0,s1]=.ok (over (over (leaf t) s0) s1):=by
 obtain⟨gf,hg,e⟩:=h0;obtain⟨gf',hg',e'⟩:=h1;have m:=hg'.meth (ae 1) (ac (ae 0) af) [‹fs›,‹over (leaf t) s0›,‹s1›,none] rfl;have m0:=hg.meth (TG.f1 (aq "glass" ["Over"]) (ae 1)) (ac (ae 0) af) [‹fs›,‹over (leaf t) s0›,‹s1›,‹.non›] (by simp! only[iy]);have j1:aX ["Over"] ["Leaf","Both"] (over (leaf t) s0)=some (.bl true):=by kernel_rfl
 have nn:isNon D.non=true:=rfl;rw[dI,cy];unfold fE;simp! only[m,e',hi,j1,m0,e,j4,hs,nn,Kz]
theorem uO(m:Nat)(t:Str):aV (m+1) [leaf t]=.ok (.lst []):=by
 have j1:aX ["Over"] ["Leaf","Both"] (leaf t)=some (.bl false):=by kernel_rfl
 have j2:aX ["Both"] ["Leaf","Over"] (leaf t)=some (.bl false):=by kernel_rfl
 rw[dR,cP];unfold gk;simp! only[j1,j2,NC]
theorem oE{m:Nat}{g s:D}{xs:List D}(hx:xs.length<=5)(h:aV m [g]=.ok (.lst xs)):aV (m+1) [over g s]=.ok (.lst (xs++[s])):=by
 have j1:aX ["Over"] ["Leaf","Both"] (over g s)=some (.bl true):=by kernel_rfl
 have ad:=An xs [s] (by simp;omega);rw[dR,cP];unfold gk;simp! only[j1,iy,j4,h,Jm,ad]
theorem FV(t:Str)(s0 s1:D):aj gu 1 1 [over (over (leaf t) s0) s1]=.ok (.int 2):=by
 have h:=oE (s:=s1) (by simp) (oE (s:=s0) (by simp) (uO 9 t));have h:aV 12 [over (over (leaf t) s0) s1]=.ok (.lst [s0,s1]):=h;rw[cP];unfold gu;simp! only[h];rfl
theorem stay{f f1 f2 s0 s1:D}{g0 g1:bI}(t:Str)(w0:Wd s0)(w1:Wd s1)(o0:So s0 g0)(o1:So s1 g1)(e0:g0 [s0,f]=.ok f1)(e1:g1 [s1,f1]=.ok f2)(i0:aj cY 2 2 [f,s0]=.ok (.bl false))(i1:aj cY 2 2 [f1,s1]=.ok (.bl false))(hs:aj aU 3 3 [f,s0,s1]=.ok .non):aj cK 3 6 [f,.str t,.lst [s0,s1]]=.ok (.bl true):=by
 have h0:=λm=>CA m t f;have h1:∀m,Fm (m+1) (over (leaf t) s0) (DL t f) (.ok f1):=λm=>by
  have:=vv (h0 m) o0
  rwa [e0]at this
 have h2:Fm 12 (over (over (leaf t) s0) s1) (DL t f) (.ok f2):=by
  have:=vv (h1 10) o1
  rwa [e1]at this
 have th:=De h2 (qR (qR (xF 9 t) (yy (h0 12) i0)) (yU (h0 12) (h1 11) i1 hs));have st:=FV t s0 s1;obtain⟨xs,_,m0⟩:=w0.meth;obtain⟨ys,_,m1⟩:=w1.meth;have a1:=m1 (TG.f1 (aq "step" ["Over"]) (ae 5)) [‹f›,‹.str t›,‹.lst [s0,s1]›,‹over (over (leaf t) s0) s1›,none,‹over (over (leaf t) s0) s1›] (by simp! only[j4]);have a2:=m1 (TG.f2 ai (ae 2) (fC (.int 1))) [‹f›,‹.str t›,‹.lst [s0,s1]›,‹over (over (leaf t) s0) s1›,none,‹over (over (leaf t) s0) s1›] (by simp! only[]);have b1:=m0 (TG.f1 (aq "step" ["Over"]) (TG.f1 (aq "glass" ["Over"]) (ae 5))) [‹f›,‹.str t›,‹.lst [s0,s1]›,‹over (over (leaf t) s0) s1›,none,‹over (over (leaf t) s0) s1›] (by simp! only[iy,j4]);have b2:=m0 (TG.f2 ai (ae 2) (fC (.int 0))) [‹f›,‹.str t›,‹.lst [s0,s1]›,‹over (over (leaf t) s0) s1›,none,‹over (over (leaf t) s0) s1›] (by simp! only[]);have j1:∀g s,aX ["Over"] ["Leaf","Both"] (over g s)=some (.bl true):=λg s=>by kernel_rfl
 have j2:aX ["Leaf"] ["Over","Both"] (leaf t)=some (.bl true):=by kernel_rfl
 have fl:aq "name" ["Leaf","Nest","Unnest","Part","Fuse","Sieve","Drop"] (leaf t)=some (.str t):=by rfl
 have tt:(t==t)=true:=by simp
 have n1:=sJ xs;have n2:=sJ ys;have d1:=HZ t f;have z2:((2:Int)==2)=true:=rfl;rw[cy];unfold cK;generalize DL t f=fs at *;simp! only[MI,Kz,DR,DU,CC,Dj,yx,HG,d1,th,st,z2,j1,iy,a1,a2,b1,b2,n1,n2,j2,fl,tt];rfl
theorem Br(m:Int)(x:Str):aX ["Nest"] ["Unnest","Part","Fuse","Rename","Sieve","Drop"] (oN m x)=some (.bl true):=by kernel_rfl
theorem A6(x:Str):aX ["Nest"] ["Unnest","Part","Fuse","Rename","Sieve","Drop"] (oU x)=some (.bl false):=by kernel_rfl
theorem A3(a:Str)(b:Int)(q r:Str):aX ["Nest"] ["Unnest","Part","Fuse","Rename","Sieve","Drop"] (oP a b q r)=some (.bl false):=by kernel_rfl
theorem A7(q r:Str)(b:Int)(a:Str):aX ["Nest"] ["Unnest","Part","Fuse","Rename","Sieve","Drop"] (oF q r b a)=some (.bl false):=by kernel_rfl
theorem A1(o n:Str):aX ["Nest"] ["Unnest","Part","Fuse","Rename","Sieve","Drop"] (oR o n)=some (.bl false):=by kernel_rfl
theorem Bn(a:Str)(k:D):aX ["Nest"] ["Unnest","Part","Fuse","Rename","Sieve","Drop"] (oV a k)=some (.bl false):=by kernel_rfl
theorem Bz(a:Str)(v:D):aX ["Nest"] ["Unnest","Part","Fuse","Rename","Sieve","Drop"] (oD a v)=some (.bl false):=by kernel_rfl
theorem A5(m:Int)(x:Str):aX ["Unnest"] ["Nest","Part","Fuse","Rename","Sieve","Drop"] (oN m x)=some (.bl false):=by kernel_rfl
theorem By(x:Str):aX ["Unnest"] ["Nest","Part","Fuse","Rename","Sieve","Drop"] (oU x)=some (.bl true):=by kernel_rfl
theorem Bj(a:Str)(b:Int)(q r:Str):aX ["Unnest"] ["Nest","Part","Fuse","Rename","Sieve","Drop"] (oP a b q r)=some (.bl false):=by kernel_rfl
theorem A9(q r:Str)(b:Int)(a:Str):aX ["Unnest"] ["Nest","Part","Fuse","Rename","Sieve","Drop"] (oF q r b a)=some (.bl false):=by kernel_rfl
theorem AZ(o n:Str):aX ["Unnest"] ["Nest","Part","Fuse","Rename","Sieve","Drop"] (oR o n)=some (.bl false):=by kernel_rfl
theorem Bw(a:Str)(k:D):aX ["Unnest"] ["Nest","Part","Fuse","Rename","Sieve","Drop"] (oV a k)=some (.bl false):=by kernel_rfl
theorem BC(a:Str)(v:D):aX ["Unnest"] ["Nest","Part","Fuse","Rename","Sieve","Drop"] (oD a v)=some (.bl false):=by kernel_rfl
theorem Bp(m:Int)(x:Str):aX ["Part"] ["Nest","Unnest","Fuse","Rename","Sieve","Drop"] (oN m x)=some (.bl false):=by kernel_rfl
theorem Ba(x:Str):aX ["Part"] ["Nest","Unnest","Fuse","Rename","Sieve","Drop"] (oU x)=some (.bl false):=by kernel_rfl
theorem A0(a:Str)(b:Int)(q r:Str):aX ["Part"] ["Nest","Unnest","Fuse","Rename","Sieve","Drop"] (oP a b q r)=some (.bl true):=by kernel_rfl
theorem BD(q r:Str)(b:Int)(a:Str):aX ["Part"] ["Nest","Unnest","Fuse","Rename","Sieve","Drop"] (oF q r b a)=some (.bl false):=by kernel_rfl
theorem Bk(o n:Str):aX ["Part"] ["Nest","Unnest","Fuse","Rename","Sieve","Drop"] (oR o n)=some (.bl false):=by kernel_rfl
theorem BA(a:Str)(k:D):aX ["Part"] ["Nest","Unnest","Fuse","Rename","Sieve","Drop"] (oV a k)=some (.bl false):=by kernel_rfl
theorem Bu(a:Str)(v:D):aX ["Part"] ["Nest","Unnest","Fuse","Rename","Sieve","Drop"] (oD a v)=some (.bl false):=by kernel_rfl
theorem A2(m:Int)(x:Str):aX ["Fuse"] ["Nest","Unnest","Part","Rename","Sieve","Drop"] (oN m x)=some (.bl false):=by kernel_rfl
theorem Bh(x:Str):aX ["Fuse"] ["Nest","Unnest","Part","Rename","Sieve","Drop"] (oU x)=some (.bl false):=by kernel_rfl
theorem BF(a:Str)(b:Int)(q r:Str):aX ["Fuse"] ["Nest","Unnest","Part","Rename","Sieve","Drop"] (oP a b q r)=some (.bl false):=by kernel_rfl
theorem A4(q r:Str)(b:Int)(a:Str):aX ["Fuse"] ["Nest","Unnest","Part","Rename","Sieve","Drop"] (oF q r b a)=some (.bl true):=by kernel_rfl
theorem Bv(o n:Str):aX ["Fuse"] ["Nest","Unnest","Part","Rename","Sieve","Drop"] (oR o n)=some (.bl false):=by kernel_rfl
theorem Bm(a:Str)(k:D):aX ["Fuse"] ["Nest","Unnest","Part","Rename","Sieve","Drop"] (oV a k)=some (.bl false):=by kernel_rfl
theorem Bg(a:Str)(v:D):aX ["Fuse"] ["Nest","Unnest","Part","Rename","Sieve","Drop"] (oD a v)=some (.bl false):=by kernel_rfl
theorem Bb(m:Int)(x:Str):aX ["Rename"] ["Nest","Unnest","Part","Fuse","Sieve","Drop"] (oN m x)=some (.bl false):=by kernel_rfl
theorem Bf(x:Str):aX ["Rename"] ["Nest","Unnest","Part","Fuse","Sieve","Drop"] (oU x)=some (.bl false):=by kernel_rfl
theorem Bc(a:Str)(b:Int)(q r:Str):aX ["Rename"] ["Nest","Unnest","Part","Fuse","Sieve","Drop"] (oP a b q r)=some (.bl false):=by kernel_rfl
theorem Bt(q r:Str)(b:Int)(a:Str):aX ["Rename"] ["Nest","Unnest","Part","Fuse","Sieve","Drop"] (oF q r b a)=some (.bl false):=by kernel_rfl
theorem Bx(o n:Str):aX ["Rename"] ["Nest","Unnest","Part","Fuse","Sieve","Drop"] (oR o n)=some (.bl true):=by kernel_rfl
theorem BE(a:Str)(k:D):aX ["Rename"] ["Nest","Unnest","Part","Fuse","Sieve","Drop"] (oV a k)=some (.bl false):=by kernel_rfl
theorem Bo(a:Str)(v:D):aX ["Rename"] ["Nest","Unnest","Part","Fuse","Sieve","Drop"] (oD a v)=some (.bl false):=by kernel_rfl
theorem Am(m:Int)(x:Str):aX ["Sieve"] ["Nest","Unnest","Part","Fuse","Rename","Drop"] (oN m x)=some (.bl false):=by kernel_rfl
theorem AV(x:Str):aX ["Sieve"] ["Nest","Unnest","Part","Fuse","Rename","Drop"] (oU x)=some (.bl false):=by kernel_rfl
theorem yq(a:Str)(b:Int)(q r:Str):aX ["Sieve"] ["Nest","Unnest","Part","Fuse","Rename","Drop"] (oP a b q r)=some (.bl false):=by kernel_rfl
theorem yt(q r:Str)(b:Int)(a:Str):aX ["Sieve"] ["Nest","Unnest","Part","Fuse","Rename","Drop"] (oF q r b a)=some (.bl false):=by kernel_rfl
theorem yv(o n:Str):aX ["Sieve"] ["Nest","Unnest","Part","Fuse","Rename","Drop"] (oR o n)=some (.bl false):=by kernel_rfl
theorem Be(a:Str)(k:D):aX ["Sieve"] ["Nest","Unnest","Part","Fuse","Rename","Drop"] (oV a k)=some (.bl true):=by kernel_rfl
theorem yr(a:Str)(v:D):aX ["Sieve"] ["Nest","Unnest","Part","Fuse","Rename","Drop"] (oD a v)=some (.bl false):=by kernel_rfl
theorem Ez(a:Str)(b:Int)(q r:Str):aq "name" ["Leaf","Nest","Unnest","Part","Fuse","Sieve","Drop"] (oP a b q r)=some (.str a):=by rfl
theorem Gz(q r:Str)(b:Int)(a:Str):aq "name" ["Leaf","Nest","Unnest","Part","Fuse","Sieve","Drop"] (oF q r b a)=some (.str a):=by rfl
theorem K6(a:Str)(k:D):aq "name" ["Leaf","Nest","Unnest","Part","Fuse","Sieve","Drop"] (oV a k)=some (.str a):=by rfl
theorem Hj(a:Str)(b:Int)(q r:Str):aq "by" ["Part","Fuse"] (oP a b q r)=some (.int b):=by rfl
theorem Ip(a:Str)(b:Int)(q r:Str):aq "quotient" ["Part","Fuse"] (oP a b q r)=some (.str q):=by rfl
theorem Hg(a:Str)(b:Int)(q r:Str):aq "rest" ["Part","Fuse"] (oP a b q r)=some (.str r):=by rfl
theorem HX(q r:Str)(b:Int)(a:Str):aq "by" ["Part","Fuse"] (oF q r b a)=some (.int b):=by rfl
theorem GH(q r:Str)(b:Int)(a:Str):aq "quotient" ["Part","Fuse"] (oF q r b a)=some (.str q):=by rfl
theorem Gh(q r:Str)(b:Int)(a:Str):aq "rest" ["Part","Fuse"] (oF q r b a)=some (.str r):=by rfl
theorem Fq(f:D)(o n o' n':Str)(h:n≠o'):aj aU 3 3 [f,oR o n,oR o' n']=.ok .non:=by
 have z:(n==o')=false:=by simpa using h
 rw[cy];unfold aU;simp! only[Br,A5,Bp,A2,Bb,Am,A6,By,Ba,Bh,Bf,AV,A3,Bj,A0,BF,Bc,yq,A7,A9,BD,A4,Bt,yt,A1,AZ,Bk,Bv,Bx,yv,Bn,Bw,BA,Bm,BE,Be,Bz,BC,Bu,Bg,Bo,yr,EJ,Fx,z]
theorem GW(f:D)(a b:Str)(k k':D)(h:a≠b):aj aU 3 3 [f,oV a k,oV b k']=.ok .non:=by
 have z:(a==b)=false:=by simpa using h
 rw[cy];unfold aU;simp! only[Br,A5,Bp,A2,Bb,Am,A6,By,Ba,Bh,Bf,AV,A3,Bj,A0,BF,Bc,yq,A7,A9,BD,A4,Bt,yt,A1,AZ,Bk,Bv,Bx,yv,Bn,Bw,BA,Bm,BE,Be,Bz,BC,Bu,Bg,Bo,yr,K6,z]
theorem Fl(f:D)(a b:Str)(k k':D):aj aU 3 3 [f,oD a k,oV b k']=.ok .non:=by
 rw[cy];unfold aU;simp! only[Br,A5,Bp,A2,Bb,Am,A6,By,Ba,Bh,Bf,AV,A3,Bj,A0,BF,Bc,yq,A7,A9,BD,A4,Bt,yt,A1,AZ,Bk,Bv,Bx,yv,Bn,Bw,BA,Bm,BE,Be,Bz,BC,Bu,Bg,Bo,yr]
theorem Fz(f:D)(a b:Str)(k k':D):aj aU 3 3 [f,oV a k,oD b k']=.ok .non:=by
 rw[cy];unfold aU;simp! only[Br,A5,Bp,A2,Bb,Am,A6,By,Ba,Bh,Bf,AV,A3,Bj,A0,BF,Bc,yq,A7,A9,BD,A4,Bt,yt,A1,AZ,Bk,Bv,Bx,yv,Bn,Bw,BA,Bm,BE,Be,Bz,BC,Bu,Bg,Bo,yr]
theorem IY(b b':Int)(q r q' r':Str):fw (.tup [.int b,.str q,.str r]) (.tup [.int b',.str q',.str r'])=some (.bl ((b==b')&&((q==q')&&(r==r')))):=by
 have e:fw (.tup [.int b,.str q,.str r]) (.tup [.int b',.str q',.str r'])=if(pl (.tup [.int b,.str q,.str r])&&pl (.tup [.int b',.str q',.str r']))&&(df 8 (.tup [.int b,.str q,.str r])||df 8 (.tup [.int b',.str q',.str r']))then some (.bl (pyEq (.tup [.int b,.str q,.str r]) (.tup [.int b',.str q',.str r'])))else none:=rfl
 have p1:pl (.tup [.int b,.str q,.str r])=true:=rfl;have p2:pl (.tup [.int b',.str q',.str r'])=true:=rfl;have d1:df 8 (.tup [.int b,.str q,.str r])=true:=rfl;have w:pyEq (.tup [.int b,.str q,.str r]) (.tup [.int b',.str q',.str r'])=((b==b')&&((q==q')&&(r==r'))):=by
  simp only[pyEq,gD,Pu]
 rw[e,p1,p2,d1,w];rfl
theorem Dz(a:Str)(b:Int)(q r q' r':Str)(b':Int)(a':Str):aj cH 2 2 [oP a b q r,oF q' r' b' a']=.ok (.bl ((b==b')&&((q==q')&&(r==r')))):=by
 rw[b6];unfold cH;simp! only[Hj,Ip,Hg,HX,GH,Gh,sq,IY]
theorem vK(a:Str)(b:Int)(q r q' r':Str)(b':Int)(a':Str):aj cH 2 2 [oF q r b a,oP a' b' q' r']=.ok (.bl ((b==b')&&((q==q')&&(r==r')))):=by
 rw[b6];unfold cH;simp! only[Hj,Ip,Hg,HX,GH,Gh,sq,IY]
theorem GX(f:D)(a:Str)(b:Int)(q r q' r':Str)(b':Int)(a':Str)(h:¬(q=q'/\r=r')):aj aU 3 3 [f,oP a b q r,oF q' r' b' a']=.ok .non:=by
 have z:((b==b')&&((q==q')&&(r==r')))=false:=by
  rw[Qz,Qz];by_cases y:q=q'
  ·exact .inr (.inr (by simpa using λw=>h ⟨y,w⟩))
  ·exact .inr (.inl (by simpa using y))
 have s:=Dz a b q r q' r' b' a';rw[z]at s;rw[cy];unfold aU;simp! only[Br,A5,Bp,A2,Bb,Am,A6,By,Ba,Bh,Bf,AV,A3,Bj,A0,BF,Bc,yq,A7,A9,BD,A4,Bt,yt,A1,AZ,Bk,Bv,Bx,yv,Bn,Bw,BA,Bm,BE,Be,Bz,BC,Bu,Bg,Bo,yr,s]
theorem EH(f:D)(a:Str)(b:Int)(q r q' r':Str)(b':Int)(a':Str)(h:¬(b=b'/\q=q'/\r=r')):aj aU 3 3 [f,oF q r b a,oP a' b' q' r']=.ok .non:=by
 have z:((b==b')&&((q==q')&&(r==r')))=false:=by
  rw[Qz,Qz];by_cases x:b=b'
  ·by_cases y:q=q'
   ·exact .inr (.inr (by simpa using λw=>h ⟨x,y,w⟩))
   ·exact .inr (.inl (by simpa using y))
  ·exact .inl (by simpa using x)
 have s:=vK a b q r q' r' b' a';rw[z]at s;rw[cy];unfold aU;cases y:(a==a')with
 |true=>simp! only[Br,A5,Bp,A2,Bb,Am,A6,By,Ba,Bh,Bf,AV,A3,Bj,A0,BF,Bc,yq,A7,A9,BD,A4,Bt,yt,A1,AZ,Bk,Bv,Bx,yv,Bn,Bw,BA,Bm,BE,Be,Bz,BC,Bu,Bg,Bo,yr,Ez,Gz,y,s]
 |false=>simp! only[Br,A5,Bp,A2,Bb,Am,A6,By,Ba,Bh,Bf,AV,A3,Bj,A0,BF,Bc,yq,A7,A9,BD,A4,Bt,yt,A1,AZ,Bk,Bv,Bx,yv,Bn,Bw,BA,Bm,BE,Be,Bz,BC,Bu,Bg,Bo,yr,Ez,Gz,y]
theorem zg{K R:L}(F:Fk K R){i j:Nat}{q r:Str}{k k':D}(hi:(K++R)[i]?=some (q,k))(hj:(K++R)[j]?=some (r,k'))(h:j≠i+1)(a:Str)(b:Int):aj aU 3 3 [fm K R,oF q r b a,oP a b q r]=.ok .non:=by
 have z:((b==b)&&((q==q)&&(r==r)))=true:=by simp
 have s:=vK a b q r q r b a;rw[z]at s;have p:=F.at hi;have p':=F.at hj;have y:((j:Int)==(i:Int)+1)=false:=by simp;omega
 have bh:aj fD 2 2 [fm K R,oF q r b a]=.ok (.bl false):=by
  rw[b6];unfold fD;generalize fm K R=f0 at *;simp! only[GH,Gh,p,p',y]
 have aa:(a==a)=true:=by simp
 rw[cy];unfold aU;generalize fm K R=f0 at *;simp! only[Br,A5,Bp,A2,Bb,Am,A6,By,Ba,Bh,Bf,AV,A3,Bj,A0,BF,Bc,yq,A7,A9,BD,A4,Bt,yt,A1,AZ,Bk,Bv,Bx,yv,Bn,Bw,BA,Bm,BE,Be,Bz,BC,Bu,Bg,Bo,yr,Ez,Gz,aa,s,bh]
theorem Fs{K R:L}(F:Fk K R){i:Nat}{x y:Str}{f:D}{w:Bool}{m:Int}(hi:(K++R)[i]?=some (x,.tup [.str "rows",f,.bl w]))(h:w=false\/m≠K.length):aj aU 3 3 [fm K R,oU x,oN m y]=.ok .non:=by
 have p:=F.at hi;have kd:=F.kd hi;have ex:aj bT 2 2 [oU x,fm K R]=.ok (.bl w):=by
  rw[b6];unfold bT;generalize fm K R=f0 at *;simp! only[Ga,p,kd]
 have m2:=fF "exact" IZ "Unnest" ["name"] [.str x] (aj bT 2 2) (ae 1) (ac (ae 0) af) [‹fm K R›,‹oU x›,‹oN m y›] rfl (by kernel_rfl) (by decide +kernel);have lk:cX [.tup (K.map fld)]=some (.int (K.length:Int)):=by
  have:cX [.tup (K.map fld)]=some (.int ((K.map fld).length:Int)):=rfl
  rw[this,OI]
 have i0:ai (fm K R) (.int 0)=some (.tup (K.map fld)):=gh _ _;rw[cy];unfold aU;generalize fm K R=f0 at *;cases w with
 |false=>simp! only[Br,A5,Bp,A2,Bb,Am,A6,By,Ba,Bh,Bf,AV,A3,Bj,A0,BF,Bc,yq,A7,A9,BD,A4,Bt,yt,A1,AZ,Bk,Bv,Bx,yv,Bn,Bw,BA,Bm,BE,Be,Bz,BC,Bu,Bg,Bo,yr,m2,ex]
 |true=>
  have z:(m==(K.length:Int))=false:=by
   rcases h with h|h
   ·cases h
   ·simpa using h
  simp! only[Br,A5,Bp,A2,Bb,Am,A6,By,Ba,Bh,Bf,AV,A3,Bj,A0,BF,Bc,yq,A7,A9,BD,A4,Bt,yt,A1,AZ,Bk,Bv,Bx,yv,Bn,Bw,BA,Bm,BE,Be,Bz,BC,Bu,Bg,Bo,yr,m2,ex,Gk,i0,lk,z]
section
variable{K R:L}
noncomputable def Pk(d:D):Prop:=∃(s:Str)(t:List D),d=.tup (.str s::t)/\(s==("rows":Str))=false
theorem Gp(hl:(K++R).length<=30)(h:∀p∈K++R,Pk p.2):bg 12 [fm K R]=.ok (.int 0):=by
 have ll:(K.map fld).length+(R.map fld).length<=100:=by rw[OI,OI];rw[OX]at hl;omega
 have ko:aj cR 1 1 [fm K R]=.ok (.tup ((K++R).map (·.2))):=kinds_ok (K.map fld) (R.map fld) (K++R) ll Fk.e;have f0:iC [none] (cu (fR (aj cR 1 1) (ac (ae 0) af))) (gN 0) (fB (f2 fw (f2 ai (ae 0) (fC (.int 0))) (fC (.str "rows")))) (f2 bm (fC (.int 1)) (fR (bg 11) (ac (f2 ai (ae 0) (fC (.int 1))) af))) [‹fm K R›]=.ok (.lst []):=by
  have e:=vi (ρ:=inB [none] [‹fm K R›]) (g:=gN 0) (C:=fB (f2 fw (f2 ai (ae 0) (fC (.int 0))) (fC (.str "rows")))) (Fe:=f2 bm (fC (.int 1)) (fR (bg 11) (ac (f2 ai (ae 0) (fC (.int 1))) af))) (λp:Str×D=>p.2) (λ_=>false) (λ_=>.non) (K++R) λp hp=>⟨_,rfl,by
   obtain⟨s,t,e,hs⟩:=h p hp;rw[e];simp! only[hs],λz=>by cases z⟩
  have z:(K++R).filter (λ_=>false)=[]:=by simp
  rw[z]at e;refine gF (ds:=(K++R).map (·.2)) ?_ (by rw[OI];omega) e;generalize fm K R=f0 at *;simp! only[ko]
 have gm0:qL 0 (.lst [])=some (.int 0):=rfl;rw[fN,cP];unfold iK;generalize fm K R=f0 at *;simp! only[f0,gm0]
theorem xt(K:L):cX [.tup (K.map fld)]=some (.int (K.length:Int)):=by
 have:cX [.tup (K.map fld)]=some (.int ((K.map fld).length:Int)):=rfl
 rw[this,OI]
theorem CI{m:Nat}{x:Str}(hl:(K++R).length<=30)(m1:1<=m)(m2:m<K.length)(hx:x∉K.map (·.1))(h:∀p∈K++R,Pk p.2):∃f,aj bL 2 4 [oN m x,fm K R]=.ok f:=by
 have w:=whole (m:Int);have i0:ai (fm K R) (.int 0)=some (.tup (K.map fld)):=gh _ _;have i1:ai (fm K R) (.int 1)=some (.tup (R.map fld)):=gQ _ _ _;have lk:=xt K;have c1:cutD (K.map fld) none (some (m:Int))=(K.take m).map fld:=by rw[zp,Qw]
 have c2:cutD (K.map fld) (some (m:Int)) none=(K.drop m).map fld:=by rw[tK,Qx]
 have f0:iC [none] (cu (ae 2)) (gN 0) dg (f2 ai (ae 0) (fC (.int 0))) [‹oN m x›,‹fm K R›,‹.tup ((K.take m).map fld)›,none]=.ok (.lst ((K.take m).map λp=>.str p.1)):=by
  refine gF (ds:=(K.take m).map fld) (by simp! only[]) (by rw[OI,OQ];rw[OX]at hl;omega) ?_;exact kh (λp:Str×D=>fld p) (λp=>.str p.1) _ λp hp=>⟨_,rfl,rfl,by simp! only[]⟩
 have gi:vw (.str x) (.lst ((K.take m).map λp=>.str p.1))=some (.bl false):=by
  have e:=DG x ((K.take m).map (·.1));rw[Qi]at e;have c:((K.take m).map (·.1)).contains x=false:=by
   cases z:((K.take m).map (·.1)).contains x with
   |false=>rfl
   |true=>
    obtain⟨p,hp,e⟩:=List.mem_map.mp (List.contains_iff_mem.mp z);exact absurd (List.mem_map.mpr ⟨p,List.mem_of_mem_take hp,e⟩) hx
  rw[c]at e;exact e
 have d0:bg 12 [fm (K.drop m) R]=.ok (.int 0):=by
  refine Gp ?_ ?_
  ·rw[OX,OZ];rw[OX]at hl;omega
  ·intro p hp;rcases List.mem_append.mp hp with z|z
   ·exact h p (Ov _ (List.mem_of_mem_drop z))
   ·exact h p (OA _ z)
 have d0:bg 12 [.tup [.tup ((K.drop m).map fld),.tup (R.map fld)]]=.ok (.int 0):=d0;have g3:decide ((3:Int)<=0)=false:=rfl;have b1:(decide ((1:Int)<=(m:Int))&&decide ((m:Int)<(K.length:Int)))=true:=by
  rw[decide_eq_true (by omega:(1:Int)<=(m:Int)),decide_eq_true (by omega:(m:Int)<(K.length:Int))];rfl
 refine⟨.tup [.tup ((K.take m).map fld),.tup [.tup [.str x,.tup [.str "rows",.tup [.tup ((K.drop m).map fld),.tup (R.map fld)],.bl true]]]],?_⟩;rw[b6];unfold bL;generalize fm K R=ff at *;simp! only[Gk,Hk,w,i0,i1,lk,eN,tV,b1,Qg,QA,c1,f0,gi,c2,tJ,d0,g3,sq,yH]
theorem Fw{I J:L}{x:Str}{w:Bool}(F:Fk K [(x,.tup [.str "rows",fm I J,.bl w])])(hl:(I++J).length<=30)(h8:K.length+I.length<=8)(h:∀p∈K,p.1∉(I++J).map (·.1)):aj bq 2 5 [oU x,fm K [(x,.tup [.str "rows",fm I J,.bl w])]]=.ok (fm (K++I) J):=by
 have hi:(K++[(x,.tup [.str "rows",fm I J,.bl w])])[K.length]?=some (x,.tup [.str "rows",fm I J,.bl w]):=by
  rw[OS (Oz _),Qa];rfl
 have p:=F.at hi;have k:=F.kd hi;have nmi:aj cQ 1 1 [fm I J]=.ok (.tup ((I++J).map λp=>.str p.1)):=kQ (I.map fld) (J.map fld) (I++J) ‹0› Fk.e;have kl:=F.kl;have f0:iC [none,some 4] (cu (ae 3)) (gN 0) dg (f2 vw (f2 ai (ae 0) (fC (.int 0))) (fR (aj cQ 1 1) (ac (ae 1) af))) [‹oU x›,‹fm K [(x,.tup [.str "rows",fm I J,.bl w])]›,‹.tup [.str "rows",fm I J,.bl w]›,‹.tup (K.map fld)›,‹fm I J›]=.ok (.lst ((K.map λ_=>false).map .bl)):=by
  refine gF (ds:=K.map fld) (by simp! only[]) (by rw[OI];omega) ?_;rw[Qi];refine kh (λp:Str×D=>fld p) _ K λp hp=>⟨_,rfl,rfl,?_⟩
  have c:=vW (K:=I) (R:=J) (h p hp);generalize fm I J=ff at *;simp! only[nmi,tZ,c];rfl
 have an:(K.map λ_=>false).any id=false:=by
  rw[Qc,OC];intro p _ z;cases z
 have ad:=eD (K.map fld) (I.map fld) (by rw[OI,OI];omega);rw[<-PB]at ad;have Hf:((1:Int)==1)=true:=rfl;have lk:=xt K;have li:=xt I;have d8:decide ((8:Int)<(K.length:Int)+(I.length:Int))=false:=decide_eq_false ‹0›;have i0:ai (fm K [(x,.tup [.str "rows",fm I J,.bl w])]) (.int 0)=some (.tup (K.map fld)):=gh _ _;have i1:ai (fm K [(x,.tup [.str "rows",fm I J,.bl w])]) (.int 1)=some (.tup [fld (x,.tup [.str "rows",fm I J,.bl w])]):=gQ _ _ _;have l1:cX [.tup [fld (x,.tup [.str "rows",fm I J,.bl w])]]=some (.int 1):=rfl;have a0:ai (fm I J) (.int 0)=some (.tup (I.map fld)):=gh _ _;have a1:ai (fm I J) (.int 1)=some (.tup (J.map fld)):=gQ _ _ _;rw[b6];unfold bq;generalize fm K [(x,.tup [.str "rows",fm I J,.bl w])]=f1 at *;generalize fld (x,.tup [.str "rows",fm I J,.bl w])=fx at *;have ef:fm (K++I) J=.tup [.tup ((K++I).map fld),.tup (J.map fld)]:=rfl;rw[ef];generalize fm I J=f2 at *;simp! only[Ga,p,k,GP,tV,i0,i1,l1,a0,a1,lk,li,Hf,Qg,QA,f0,vU,an,d8,ad,tJ]
end
noncomputable def Tw(d:D):Prop:=∃lo hi:Int,d=num lo hi/\lo%12=0/\(hi+1)%12=0/\lo+11<=hi/\lo.natAbs<10^60/\hi.natAbs<10^60
structure Bs(n:Nat->Str)(K R:L):Prop where
 k1:2<=K.length
 k2:K.length<=4
 r1:2<=R.length
 r2:R.length<=4
 ka:∀i p,K[i]?=some p->p.1=n i/\Tw p.2
 ra:∀i p,R[i]?=some p->p.1=n (5+i)/\Tw p.2
noncomputable def Inj(n:Nat->Str):Prop:=∀a b,a<24->b<24->n a=n b->a=b
section
variable{n:Nat->Str}{K R:L}
theorem Bs.at(B:Bs n K R){i:Nat}{p:Str×D}(h:(K++R)[i]?=some p):∃j,j<10/\p.1=n j/\Tw p.2:=by
 have:=B.k2
 have:=B.r2
 by_cases z:i<K.length
 ·rw[OU z]at h;exact⟨i,by omega,(B.ka i p h).1,(B.ka i p h).2⟩
 ·rw[OS ‹0›]at h;have q:=(List.getElem?_eq_some_iff.mp h).1;exact⟨5+(i-K.length),by omega,(B.ra _ p h).1,(B.ra _ p h).2⟩
theorem Bs.mem(B:Bs n K R){x:Str}(h:x∈(K++R).map (·.1)):∃j,j<10/\x=n j:=by
 obtain⟨p,hp,rfl⟩:=List.mem_map.mp h;obtain⟨i,hi⟩:=QC hp;obtain⟨j,h1,h2,_⟩:=B.at hi;exact⟨j,h1,h2⟩
theorem Bs.no(B:Bs n K R)(N:Inj n){j:Nat}(h:10<=j)(h':j<24):n j∉(K++R).map (·.1):=λz=>by
 obtain⟨i,h1,h2⟩:=B.mem z
 have:=N j i h' ‹0› h2
 omega
theorem Bs.tw(B:Bs n K R){p:Str×D}(hp:p∈K++R):Tw p.2:=by
 obtain⟨i,hi⟩:=QC hp;obtain⟨_,_,_,h⟩:=B.at hi;exact h
theorem Bs.nu(B:Bs n K R):Nu (K++R):=λp hp=>by
 obtain⟨lo,hi,e,_⟩:=B.tw hp;exact⟨lo,hi,e⟩
theorem Bs.nd(B:Bs n K R)(N:Inj n):((K++R).map (·.1)).Nodup:=by
 have k2:=B.k2;have r2:=B.r2;rw[PB,P9];refine⟨List.pairwise_iff_getElem.mpr λa b ha hb hab z=>?_,List.pairwise_iff_getElem.mpr λa b ha hb hab z=>?_,λx hx y hy z=>?_⟩
 ·rw[OI]at ha hb;rw[Qs,Qs,(B.ka a _ (Pr ha)).1,(B.ka b _ (Pr hb)).1]at z
  have:=N a b ‹0› ‹0› z
  omega
 ·rw[OI]at ha hb;rw[Qs,Qs,(B.ra a _ (Pr ha)).1,(B.ra b _ (Pr hb)).1]at z
  have:=N (5+a) (5+b) ‹0› ‹0› z
  omega
 ·obtain⟨p,hp,e1⟩:=List.mem_map.mp hx;obtain⟨q,hq,e2⟩:=List.mem_map.mp hy;obtain⟨i,hi⟩:=QC hp;obtain⟨j,hj⟩:=QC hq;have li:=(List.getElem?_eq_some_iff.mp hi).1;have lj:=(List.getElem?_eq_some_iff.mp hj).1;have a:=(B.ka i p hi).1;have b:=(B.ra j q hj).1
  have:=N i (5+j) ‹0› ‹0› (by rw[<-a,<-b,e1,e2,z])
  omega
theorem Bs.fk(B:Bs n K R)(N:Inj n):Fk K R:=⟨by have:=B.k1;omega,by have:=B.k2;omega,by have:=B.r2;omega,B.nd N⟩
end
noncomputable def St(t:Str)(f s0 s1:D):Prop:=aj cK 3 6 [f,.str t,.lst [s0,s1]]=.ok (.bl true)
section
variable{n:Nat->Str}{K R:L}{t:Str}
theorem u9{i j:Nat}{p:Str×D}(hi:i<(K++R).length)(ij:j≠i):(rk K i [p]++rr K R i [p])[j]?=(K++R)[j]?:=by
 rw[vZ i p hi,Ox (Ne.symm ij)]
theorem o5{i:Nat}{p:Str×D}(hi:(K++R)[i]?=some p):i<(K++R).length:=(List.getElem?_eq_some_iff.mp hi).1
theorem vp{i:Nat}{p:Str×D}(hi:(K++R)[i]?=some p):((K++R).map (·.1))[i]?=some p.1:=by rw[OV,hi];rfl
theorem Fk.oth(F:Fk K R){i j:Nat}{p:Str×D}(hi:(K++R)[i]?=some p)(ij:j≠i):((K++R).map (·.1))[j]?≠some p.1:=λz=>by
 have a:=vp hi;have li:=(List.getElem?_eq_some_iff.mp a).1;have lj:=(List.getElem?_eq_some_iff.mp z).1;have ea:=(List.getElem?_eq_some_iff.mp a).2;have ez:=(List.getElem?_eq_some_iff.mp z).2;rcases Nat.lt_or_gt_of_ne ij with h|h
 ·exact List.pairwise_iff_getElem.mp F.nd j i lj li h (by rw[ea,ez])
 ·exact List.pairwise_iff_getElem.mp F.nd i j li lj h (by rw[ea,ez])
theorem Fk.setN(F:Fk K R){i:Nat}{p:Str×D}{x:Str}{k:D}(hi:(K++R)[i]?=some p)(hx:x∉(K++R).map (·.1)):Fk (rk K i [(x,k)]) (rr K R i [(x,k)]):=F.set (o5 hi) λj _ z=>hx (OW z)
theorem Fk.setK(F:Fk K R){i:Nat}{x:Str}{k k':D}(hi:(K++R)[i]?=some (x,k)):Fk (rk K i [(x,k')]) (rr K R i [(x,k')]):=F.set (p:=(x,k')) (o5 hi) λj ij=>F.oth (p:=(x,k)) hi ij
theorem IX(F:Fk K R){i j:Nat}{a b x y:Str}{k k':D}(hi:(K++R)[i]?=some (a,k))(hj:(K++R)[j]?=some (b,k'))(ij:j≠i)(hx:x∉(K++R).map (·.1))(hy:y=a\/(y∉(K++R).map (·.1)/\y≠x)):St t (fm K R) (oR a x) (oR b y):=by
 have xa:x≠a:=λz=>hx (by rw[z];exact OW (vp hi));have xb:x≠b:=λz=>hx (by rw[z];exact OW (vp hj));have hy':y∉(rk K i [(x,k)]++rr K R i [(x,k)]).map (·.1):=λz=>by
  rw[vZ i _ (o5 hi),Qy]at z;obtain⟨m,hm⟩:=QC z;by_cases mi:m=i
  ·rw[mi,Ow (by rw[OI];exact o5 hi)]at hm;have e:x=y:=Option.some.inj hm;rcases hy with h|h
   ·exact xa (e.trans h)
   ·exact h.2 e.symm
  ·rw[Ox (Ne.symm mi)]at hm;rcases hy with h|h
   ·rw[h]at hm;exact F.oth hi mi hm
   ·exact h.1 (OW hm)
 exact stay t (Dd _ _) (Dd _ _) (HA _ _) (HA _ _) (zt F hi hx) (zt (F.setN hi hx) (by rw[u9 (o5 hi) ij];exact hj) hy') (fz (Dd _ _) (yv _ _) _) (fz (Dd _ _) (yv _ _) _) (Fq _ _ _ _ _ xb)
theorem Ir(F:Fk K R){i j:Nat}{x y:Str}{a b a' b' c d c' d':Int}(hi:(K++R)[i]?=some (x,num a b))(hj:(K++R)[j]?=some (y,num a' b'))(ij:j≠i)(w0:Wd (oV x (num c d)))(w1:Wd (oV y (num c' d')))(h0:max a c<=min b d)(h1:max a' c'<=min b' d')(z0:¬(c<=a/\b<=d))(z1:¬(c'<=a'/\b'<=d')):St t (fm K R) (oV x (num c d)) (oV y (num c' d')):=by
 have xy:x≠y:=λz=>F.oth hi ij (by rw[vp hj,z]);have F':Fk (rk K i [(x,num (max a c) (min b d))]) (rr K R i [(x,num (max a c) (min b d))]):=F.setK hi;have hj':(rk K i [(x,num (max a c) (min b d))]++rr K R i [(x,num (max a c) (min b d))])[j]?=some (y,num a' b'):=by rw[u9 (o5 hi) ij];exact hj
 exact stay t w0 w1 (CU _ _) (CU _ _) (sv F hi h0) (sv F' hj' h1) (rp F hi h0 z0 w0) (rp F' hj' h1 z1 w1) (GW _ _ _ _ _ xy)
theorem Fk.del(F:Fk K R){i:Nat}(hk:K.length<=i):Fk (rk K i []) (rr K R i [])/\rk K i []=K:=by
 have e1:rk K i []=K:=if_neg ‹0›;have e2:rr K R i []=R.eraseIdx (i-K.length):=by
  unfold rr;rw[if_neg ‹0›,OM,QB]
 rw[e1,e2];refine⟨⟨F.k1,F.kl,Om (List.length_eraseIdx_le ..) F.rl,?_⟩,rfl⟩;exact F.nd.sublist (List.Sublist.map _ (List.Sublist.append (List.Sublist.refl _) (List.eraseIdx_sublist ..)))
theorem Ic(F:Fk K R){i:Nat}{x y:Str}{a b a' b' c d v:Int}(hi:(K++R)[i]?=some (x,num a b))(hk:K.length<=i)(h1:a<=v)(h2:v<=b)(hj:K[0]?=some (y,num a' b'))(w0:Wd (oD x (.int v)))(w1:Wd (oV y (num c d)))(h3:max a' c<=min b' d)(z1:¬(c<=a'/\b'<=d)):St t (fm K R) (oD x (.int v)) (oV y (num c d)):=by
 obtain⟨F',e⟩:=F.del hk;have hj':(rk K i []++rr K R i [])[0]?=some (y,num a' b'):=by rw[e,OU (List.getElem?_eq_some_iff.mp hj).1];exact hj
 exact stay t w0 w1 (IE _ _) (CU _ _) (vV F hi hk h1 h2) (sv F' hj' h3) (fz w0 (yr _ _) _) (rp F' hj' h3 z1 w1) (Fl _ _ _ _ _)
theorem IH(F:Fk K R){i:Nat}{x y:Str}{a b a' b' c d v:Int}(hi:(K++R)[i]?=some (x,num a b))(hk:K.length<=i)(h1:a<=v)(h2:v<=b)(hj:K[0]?=some (y,num a' b'))(w0:Wd (oD x (.int v)))(w1:Wd (oV y (num c d)))(h3:max a' c<=min b' d)(z1:¬(c<=a'/\b'<=d)):St t (fm K R) (oV y (num c d)) (oD x (.int v)):=by
 have l0:=(List.getElem?_eq_some_iff.mp hj).1;have hj':(K++R)[0]?=some (y,num a' b'):=by rw[OU l0];exact hj
 have F':Fk (rk K 0 [(y,num (max a' c) (min b' d))]) (rr K R 0 [(y,num (max a' c) (min b' d))]):=F.setK hj';have hi':(rk K 0 [(y,num (max a' c) (min b' d))]++rr K R 0 [(y,num (max a' c) (min b' d))])[i]?=some (x,num a b):=by rw[u9 (o5 hj') ‹0›];exact hi
 exact stay t w1 w0 (CU _ _) (IE _ _) (sv F hj' h3) (vV F' hi' (by rw[sA];exact hk) h1 h2) (rp F hj' h3 z1 w1) (fz w0 (yr _ _) _) (Fz _ _ _ _ _)
theorem Ec{p0:Str×D}{T:L}{x q r x' y' z':Str}{a b c a' b':Int}{i j:Nat}(F:Fk ((x,num a b)::T) R)(N:Nu (((x,num a b)::T)++R))(c1:2<=c)(c2:c<=1000)(d1:a%c=0)(d2:(b+1)%c=0)(hq:q∉(((x,num a b)::T)++R).map (·.1))(hr:r∉(((x,num a b)::T)++R).map (·.1))(qr:q≠r)(hT:T.length<=5)
  (hi:((q,num (a/c) (b/c))::(r,num 0 (c-1))::T)[i]?=some (x',num a' b')) (hj:((q,num (a/c) (b/c))::(r,num 0 (c-1))::T)[j]?=some (y',num 0 (c-1))) (ij:i≠j) (hz:z'∉(((x,num a b)::T)++R).map (·.1)) (zq:z'≠q) (zr:z'≠r) (nq:¬(q=x'/\r=y')):St t (fm ((x,num a b)::T) R) (oP x c q r) (oF x' y' c z'):=by
 have e1:rk ((x,num a b)::T) 0 [(q,num (a/c) (b/c)),(r,num 0 (c-1))]=(q,num (a/c) (b/c))::(r,num 0 (c-1))::T:=if_pos (by simp);have e2:rr ((x,num a b)::T) R 0 [(q,num (a/c) (b/c)),(r,num 0 (c-1))]=R:=if_pos (by simp);have p:=v7 F N (i:=0) (q:=q) (r:=r) (c:=c) (by rfl) c1 c2 d1 d2 hq hr qr (by simp);rw[e1,e2]at p;have nd:=F.nd;rw[Pg,OH,QD]at nd;have mm:∀w,w∉(((x,num a b)::T)++R).map (·.1)->w∉(T++R).map (·.1):=λw hw z=>hw (by rw[Pg,OH];exact Ou _ z);have F':Fk ((q,num (a/c) (b/c))::(r,num 0 (c-1))::T) R:=by
  refine⟨by simp,by simp;omega,F.rl,?_⟩;rw[Pg,Pg,OH,OH,QD,QD];exact⟨λz=>(List.mem_cons.mp z).elim qr (mm q hq),mm r hr,nd.2⟩
 have li:=(List.getElem?_eq_some_iff.mp hi).1;have lj:=(List.getElem?_eq_some_iff.mp hj).1;have hz':z'∉(((q,num (a/c) (b/c))::(r,num 0 (c-1))::T)++R).map (·.1):=λw=>by
  rw[Pg,Pg,OH,OH]at w;exact(List.mem_cons.mp w).elim zq λw=>(List.mem_cons.mp w).elim zr (mm z' hz)
 have f:=vM F' (z:=z') (c:=c) (by rw[OU li];exact hi) (by rw[OU lj];exact hj) ij c1 c2 hz' li lj;have cs:c.natAbs<10^70:=by
  have:(1000:Nat)<10^70:=by decide +kernel
  omega
 exact stay t (Dt _ _ _ _ cs) (DK _ _ _ _ cs) (HL _ _ _ _) (HQ _ _ _ _) p f (fz (Dt _ _ _ _ cs) (yq _ _ _ _) _) (fz (DK _ _ _ _ cs) (yt _ _ _ _) _) (GX _ _ _ _ _ _ _ _ _ nq)
theorem Al{T:L}{x y z q r:Str}{a b c e:Int}{i j:Nat}(F:Fk K R)(hi:(K++R)[i]?=some (x,num a b))(hj:(K++R)[j]?=some (y,num 0 (c-1)))(ij:i≠j)(c1:2<=c)(c2:c<=1000)(hz:z∉(K++R).map (·.1))(ik:i<K.length)(jk:j<K.length)
  (es:(K.set i (z,num (a*c) (b*c+c-1))).eraseIdx j=(z,num (a*c) (b*c+c-1))::T) (F':Fk ((z,num (a*c) (b*c+c-1))::T) R) (N:Nu (T++R)) (e1:2<=e) (e2:e<=1000) (d1:a*c%e=0) (d2:(b*c+c)%e=0) (hq:q∉(((z,num (a*c) (b*c+c-1))::T)++R).map (·.1)) (hr:r∉(((z,num (a*c) (b*c+c-1))::T)++R).map (·.1)) (qr:q≠r) (hs:aj aU 3 3 [fm K R,oF x y c z,oP z e q r]=.ok .non):St t (fm K R) (oF x y c z) (oP z e q r):=by
 have f:=vM F hi hj ij c1 c2 hz ik jk;rw[es]at f;have N':Nu (((z,num (a*c) (b*c+c-1))::T)++R):=λp hp=>by
  rw[Pg]at hp;rcases List.mem_cons.mp hp with h|h
  ·exact⟨_,_,by rw[h]⟩
  ·exact N p h
 have p:=v7 F' N' (i:=0) (q:=q) (r:=r) (c:=e) (by rfl) e1 e2 d1 (by rw[show b*c+c-1+1=b*c+c by omega];exact d2) hq hr qr (by simp);have h7:(1000:Nat)<10^70:=by decide +kernel
 have cs:c.natAbs<10^70:=by omega
 have es:e.natAbs<10^70:=by omega
 exact stay t (DK _ _ _ _ cs) (Dt _ _ _ _ es) (HQ _ _ _ _) (HL _ _ _ _) f p (fz (DK _ _ _ _ cs) (yt _ _ _ _) _) (fz (Dt _ _ _ _ es) (yq _ _ _ _) _) hs
theorem Hu{I J:L}{x y:Str}{w:Bool}{m:Nat}(F:Fk K [(x,.tup [.str "rows",fm I J,.bl w])])(hl:(I++J).length<=20)(h8:K.length+I.length<=8)(h:∀p∈K,p.1∉(I++J).map (·.1))(pk:∀p∈K++(I++J),Pk p.2)(m1:1<=m)(m2:m<K.length+I.length)(hy:y∉(K++I).map (·.1))(hw:w=false\/m≠K.length):St t (fm K [(x,.tup [.str "rows",fm I J,.bl w])]) (oU x) (oN m y):=by
 have u:=Fw F ‹0› h8 h;have kl:=F.kl;obtain⟨f,e⟩:=CI (K:=K++I) (R:=J) (m:=m) (x:=y) (by rw[PP,OX];omega) m1 (by rw[OX];exact m2) hy (by rw[PP];exact pk);have hi:(K++[(x,.tup [.str "rows",fm I J,.bl w])])[K.length]?=some (x,.tup [.str "rows",fm I J,.bl w]):=by
  rw[OS (Oz _),Qa];rfl
 have ms:((m:Int)).natAbs<10^70:=by
  have:(1000:Nat)<10^70:=by decide +kernel
  omega
 exact stay t (IQ _) (IK _ _ ms) (Lj _) (Lr _ _) u e (fz (IQ _) (AV _) _) (fz (IK _ _ ms) (Am _ _) _) (Fs F hi (by rcases hw with h|h;exact .inl h;exact .inr ‹0›))
end
theorem Io(x:Int)(h0:0<=x)(h1:x<2147483700):∃d,Tw d/\aj de 1 2 [.int x]=.ok d:=by
 obtain⟨P,hP,eP,bP⟩:∃P:Int,0<P/\pS (.int 10) (.int 40)=some (.int P)/\P=10^40:=⟨10^40,by decide +kernel,Ab 10 40 (by decide) (by decide),rfl⟩
 have p7:pS (.int x) (.int 7)=some (.int (x^7)):=Ab x 7 (by decide) ‹0›;have gp:=λi=>eG (i:=i) hP;have g4:=gm 4;have d4:=gd 4;have m12:=λj=>lm (i:=12) (j:=j) (by decide) (by decide);have q0:=Qt (x^7) (show P≠0 by omega);have q1:=Qu (x^7) hP;obtain⟨q,hq⟩:∃q,q=x^7%P:=⟨_,rfl⟩
 rw[<-hq]at q0 q1;have nP:P.natAbs=10^40:=by rw[bP];decide +kernel
 have K1:(10:Nat)^60=10^20*10^40:=by decide +kernel
 have e20:(1000:Nat)<10^20:=by decide +kernel
 have big:1000*P.natAbs<10^60:=by rw[K1,nP];exact Nat.mul_lt_mul_of_pos_right e20 (by decide +kernel)
 obtain⟨lo,elo,h12,hs⟩:∃lo:Int,ai (.lst [.int 0,.int (-12),.int (0-12*q),.int (12*q)]) (.int (x%4))=some (.int lo)/\lo%12=0/\lo.natAbs<=12*P.natAbs:=by
  rcases(show x%4=0\/x%4=1\/x%4=2\/x%4=3 by omega)with z|z|z|z<;>rw[z]
  ·exact⟨0,rfl,by decide,by omega⟩
  ·exact⟨-12,rfl,by decide,by omega⟩
  ·exact⟨_,rfl,by omega,by omega⟩
  ·exact⟨_,rfl,by omega,by omega⟩
 obtain⟨w,ew,w1,ws⟩:∃w:Int,ai (.lst [.int 1,.int 2,.int 5,.int P]) (.int (x/4%4))=some (.int w)/\1<=w/\w<=5*P:=by
  rcases(show x/4%4=0\/x/4%4=1\/x/4%4=2\/x/4%4=3 by omega)with z|z|z|z<;>rw[z]
  ·exact⟨1,rfl,by decide,by omega⟩
  ·exact⟨2,rfl,by decide,by omega⟩
  ·exact⟨5,rfl,by decide,by omega⟩
  ·exact⟨P,rfl,by omega,by omega⟩
 refine⟨num lo (lo+12*w-1),⟨lo,_,rfl,h12,by omega,by omega,by omega,by omega⟩,?_⟩;rw[cP];unfold de;simp! only[p7,eP,gp,<-hq,m12,NE,g4,d4,elo,ew,sq]
noncomputable def Fd(n:Nat->Str)(s:Nat)(K:L):Prop:=∀i p,K[i]?=some p->p.1=n (s+i)/\Tw p.2
theorem FC(n:Nat->Str)(s:Nat):Fd n s []:=λi p h=>by simp at h
theorem pY{n:Nat->Str}(b:Int)(hn:∀k:Nat,k<24->aj aT 2 7 [.int b,.int (k:Int)]=.ok (.str (n k)))(x:Int)(h0:0<=x)(h1:x<2147483700)(s m:Nat)(hs:s<=5)(hm:m<=4):∃K:L,K.length=m/\Fd n s K/\aj bG 4 6 [.int x,.int b,.int s,.int m]=.ok (.tup (K.map fld)):=by
 have r:=mU m (PN hm (by decide));obtain⟨B,hB⟩:∃B:bE,B=ak (aG 0 (fR (aj bW 1 1) (ac (ae 0) af))) (ak (D5 4 oB (ac (aO (ac (fR (aj aT 2 7) (ac (ae 1) (ac (f2 bm (ae 2) (ae 5)) af))) (ac (fR (aj de 1 2) (ac (ae 0) af)) af))) af)) (fG [5] aN)):=⟨_,rfl⟩
 suffices h:∃K:L,(K.length=m/\Fd n s K)/\aj bG 4 6 [.int x,.int b,.int s,.int m]=.ok (.tup (K.map fld))by
  obtain⟨K,⟨a,c⟩,d⟩:=h;exact⟨K,a,c,d⟩
 rw[Au];unfold bG;rw[<-hB];simp! only[r];refine sr (Q:=λz=>∃K:L,(K.length=m/\Fd n s K)/\z=.ok (.tup (K.map fld))) (λi ρ=>∃(K:L)(y:Int),K.length=i/\Fd n s K/\0<=y/\y<2147483700/\ρ=[‹.int y›,‹.int b›,‹.int s›,‹.int m›,some (.own (.lst (K.map fld))),none]) ?_ ⟨[],x,rfl,FC n s,h0,h1,rfl⟩ ?_
 ·rintro i d ρ k' hd ⟨K,y,hl,hf,y0,y1,rfl⟩;have hi:=j6 hd;rw[eY]at hi;have hdi:d=.int (i:Int):=by
   rw[mI,OV,PH hi]at hd;cases hd;show D.int (0+(i:Int))=_;rw[Int.zero_add]
  subst hdi;obtain⟨y',a0,a1,en⟩:=ot y y0 y1;obtain⟨d,td,et⟩:=Io y' a0 ‹0›;have ek:aj aT 2 7 [.int b,.int ((s:Int)+(i:Int))]=.ok (.str (n (s+i))):=by
   have:=hn (s+i) ‹0›
   rwa [show((s+i:Nat):Int)=(s:Int)+(i:Int)by omega]at this
  have ap:oB (K.map fld) [.tup [.str (n (s+i)),d]]=some ((K++[(n (s+i),d)]).map fld):=by
   rw[z7 (by rw[OI];omega),PB];rfl
  have sm:=λ(f:aS)(Q:Ks)=>zF 4 oB f Q [‹.int y'›,‹.int b›,‹.int s›,‹.int m›,some (.own (.lst (K.map fld))),‹.int (i:Int)›] (xs:=K.map fld) rfl;refine⟨_,_,rfl,⟨K++[(n (s+i),d)],y',by rw[OX,hl];rfl,?_,a0,by omega,rfl⟩,?_⟩
  ·intro j p hj;by_cases z:j<K.length
   ·rw[OU z]at hj;exact hf j p hj
   ·rw[OS ‹0›]at hj;have lj:=(List.getElem?_eq_some_iff.mp hj).1;have e:j-K.length=0:=(by simp at lj;omega);rw[e]at hj;cases hj;exact⟨by rw[show j=i by omega],td⟩
  ·rw[hB];simp! only[en,sm,ek,et,tJ,ap]
 ·rintro ρ ⟨K,y,hl,hf,-,-,rfl⟩;rw[eY]at hl;refine⟨K,⟨hl,hf⟩,?_⟩;simp! only[]
theorem CF(f:FX)(g:GF)(k:Ks)(ρ:ao):DC f g k ρ=pI (f ρ) k ρ λd=>(rO (g d ρ)).bind k.nx:=nr rfl
theorem Jk(a b c:D):lJ [a,b,c]=some (.lst [a,b,c]):=nr rfl
noncomputable abbrev SP(n:Nat->Str):D:=.lst [.str (n 10),.str (n 11),.str (n 12),.str (n 13),.str (n 14)]
theorem kI{ps:L}{i:Nat}{p:Str×D}(h:ps[i]?=some p):ai (.tup (ps.map fld)) (.int (i:Int))=some (fld p):=by
 rw[IV,yC,OV,h];rfl
theorem MB:∀(fas:aS)(ρ:ao),fNew "Rename" ["old","new"] fas ρ=(fas ρ).bind λas=>if as.length=2 then .ok (.obj "Rename" ["old","new"] as)else un:=λ_ _=>rfl
theorem Nf:∀(fas:aS)(ρ:ao),fNew "Sieve" ["name","kind"] fas ρ=(fas ρ).bind λas=>if as.length=2 then .ok (.obj "Sieve" ["name","kind"] as)else un:=λ_ _=>rfl
theorem MV:∀(fas:aS)(ρ:ao),fNew "Drop" ["name","value"] fas ρ=(fas ρ).bind λas=>if as.length=2 then .ok (.obj "Drop" ["name","value"] as)else un:=λ_ _=>rfl
theorem HY:∀(fas:aS)(ρ:ao),fNew "Part" ["name","by","quotient","rest"] fas ρ=(fas ρ).bind λas=>if as.length=4 then .ok (.obj "Part" ["name","by","quotient","rest"] as)else un:=λ_ _=>rfl
theorem Hs:∀(fas:aS)(ρ:ao),fNew "Fuse" ["quotient","rest","by","name"] fas ρ=(fas ρ).bind λas=>if as.length=4 then .ok (.obj "Fuse" ["quotient","rest","by","name"] as)else un:=λ_ _=>rfl
theorem N0:∀(fas:aS)(ρ:ao),fNew "Nest" ["many","name"] fas ρ=(fas ρ).bind λas=>if as.length=2 then .ok (.obj "Nest" ["many","name"] as)else un:=λ_ _=>rfl
theorem Nr:∀(fas:aS)(ρ:ao),fNew "Unnest" ["name"] fas ρ=(fas ρ).bind λas=>if as.length=1 then .ok (.obj "Unnest" ["name"] as)else un:=λ_ _=>rfl
section
variable{n:Nat->Str}{K R:L}{t:Str}
theorem big{lo:Int}{c:Int}(h:lo.natAbs<10^60)(h0:0<=c)(h1:c<=20):(lo+c).natAbs<10^70:=by
 have a:(1000:Nat)<10^60:=by decide +kernel
 have b:(10:Nat)^70=10^60*10^10:=by decide +kernel
 have d:(2:Nat)<=10^10:=by decide +kernel
 have e:10^60*2<=10^60*(10:Nat)^10:=Nat.mul_le_mul_left _ d;omega
theorem tW(B:Bs n K R)(N:Inj n)(x:Int)(x0:0<=x):∃s0 s1,aj b7 3 14 [fm K R,SP n,.int x]=.ok (.lst [s0,s1])/\St t (fm K R) s0 s1:=by
 have F:=B.fk N;have k1:=B.k1;have k2:=B.k2;have r1:=B.r1;have r2:=B.r2;obtain⟨l,hl⟩:∃l:Nat,l=(K++R).length:=⟨_,rfl⟩
 have ll:l=K.length+R.length:=by rw[hl,OX]
 have ad:bm (.tup (K.map fld)) (.tup (R.map fld))=some (.tup ((K++R).map fld)):=by
  rw[eD _ _ (by rw[OI,OI];omega),Fk.e]
 have gl:cX [.tup ((K++R).map fld)]=some (.int (l:Int)):=by rw[xt,hl]
 have glr:cX [.tup (R.map fld)]=some (.int (R.length:Int)):=xt R;have ml:=λi=>eG (i:=i) (show(0:Int)<(l:Int)by omega);have Jm:=λi=>eG (i:=i) (show(0:Int)<(l:Int)-1 by omega);have mlr:=λi=>eG (i:=i) (show(0:Int)<(R.length:Int)by omega);have m2:=gm 2;have m3:=gm 3;have m12:=gm 12;have d8:=gd 8;have d64:=gd 64;have d128:=gd 128;have d512:=gd 512;have d8192:=gd 8192;have d16384:=gd 16384;obtain⟨i,ei,li⟩:∃i:Nat,x%(l:Int)=i/\i<l:=⟨(x%(l:Int)).toNat,by have:=Qt x (show(l:Int)≠0 by omega);omega,by have:=Qu x (show(0:Int)<l by omega);have:=Qt x (show(l:Int)≠0 by omega);omega⟩
 obtain⟨j,ej,lj,ij⟩:∃j:Nat,((i:Int)+1+x/8%((l:Int)-1))%(l:Int)=j/\j<l/\j≠i:=by
  have a0:=Qt (x/8) (show(l:Int)-1≠0 by omega);have a1:=Qu (x/8) (show(0:Int)<(l:Int)-1 by omega);generalize x/8%((l:Int)-1)=w at *;by_cases z:(i:Int)+1+w<l
  ·exact⟨(i+1+w.toNat),by rw[Int.emod_eq_of_lt ‹0› z];omega,by omega,by omega⟩
  ·refine⟨(i+1+w.toNat)-l,?_,by omega,by omega⟩;rw[show(i:Int)+1+w=((i:Int)+1+w-l)+l by omega,Int.add_emod_right,Int.emod_eq_of_lt ‹0› ‹0›];omega
 obtain⟨⟨a,k⟩,hi⟩:∃p,(K++R)[i]?=some p:=⟨_,Pr ‹0›⟩
 obtain⟨⟨b,k'⟩,hj⟩:∃p,(K++R)[j]?=some p:=⟨_,Pr ‹0›⟩
 obtain⟨_,_,_,lo,hi',e1,t1,t2,t3,t4,t5⟩:=B.at hi;obtain⟨_,_,_,lo',hi'',e2,u1,u2,u3,u4,u5⟩:=B.at hj;have e1:k=num lo hi':=e1;have e2:k'=num lo' hi'':=e2;subst e1 e2;obtain⟨r,er,lr⟩:∃r:Nat,x/128%(R.length:Int)=r/\r<R.length:=⟨(x/128%(R.length:Int)).toNat,by have:=Qt (x/128) (show(R.length:Int)≠0 by omega);omega,by have:=Qu (x/128) (show(0:Int)<R.length by omega);have:=Qt (x/128) (show(R.length:Int)≠0 by omega);omega⟩
 obtain⟨⟨c,kc⟩,hr⟩:∃p,R[r]?=some p:=⟨_,Pr ‹0›⟩
 obtain⟨_,rl,rh,e3,v1,v2,v3,v4,v5⟩:=B.ra r _ hr;have e3:kc=num rl rh:=e3;subst e3;obtain⟨⟨y,ky⟩,h0⟩:∃p,K[0]?=some p:=⟨_,Pr ‹0›⟩
 obtain⟨_,yl,yh,e4,w1,w2,w3,w4,w5⟩:=B.ka 0 _ h0;have e4:ky=num yl yh:=e4;subst e4;have gi:=kI hi;have gj:=kI hj;have gr:=kI hr;have gy:ai (.tup (K.map fld)) (.int 0)=some (fld (y,num yl yh)):=kI h0;have hr':(K++R)[K.length+r]?=some (c,num rl rh):=by rw[OS ‹0›,Nat.add_sub_cancel_left];exact hr
 have i0:ai (fm K R) (.int 0)=some (.tup (K.map fld)):=gh _ _;have i1:ai (fm K R) (.int 1)=some (.tup (R.map fld)):=gQ _ _ _;have s0:ai (SP n) (.int 0)=some (.str (n 10)):=rfl;have s1:ai (SP n) (.int 1)=some (.str (n 11)):=rfl;have gT:∀ρ:ao,(gT 2 (sC [11,12])) (fld (y,num yl yh)) ρ=some ((ρ.set 11 (‹.str y›)).set 12 (‹num yl yh›)):=λρ=>rfl;by_cases z:x/64%2=0
 ·have zb:(x/64%2==0)=true:=by simpa using z
  obtain⟨nw,en,hn⟩:∃nw:Str,ai (.lst [.str (n 11),.str a]) (.int (x/128%2))=some (.str nw)/\(nw=a\/nw=n 11):=by
   rcases(show x/128%2=0\/x/128%2=1 by omega)with q|q<;>rw[q]
   ·exact⟨_,rfl,.inr rfl⟩
   ·exact⟨_,rfl,.inl rfl⟩
  refine⟨oR a (n 10),oR b nw,?_,IX F hi hj ij (B.no N (by decide) (by decide)) ?_⟩
  ·rw[cy];unfold b7;generalize fm K R=ff at *;generalize SP n=sp at *;simp! only[i0,i1,ad,gl,ml,ei,d8,Jm,ej,gi,gj,Ek,d64,m2,zb,s0,s1,d128,en,MB]
  ·rcases hn with q|q
   ·exact .inl q
   ·refine .inr ⟨by rw[q];exact B.no N (by decide) (by decide),λw=>?_⟩
    have:=N 11 10 (by decide) (by decide) (q.symm.trans w)
    omega
 ·have zb:(x/64%2==0)=false:=by simpa using z
  have W1:=FQ a (lo+1) (lo+3) (big t4 (by decide) (by decide)) (big t4 (by decide) (by decide));have W2:=FQ b (lo'+2) (lo'+7) (big u4 (by decide) (by decide)) (big u4 (by decide) (by decide));have W3:=LY c (rl+x/512%12) (big v4 ‹0› ‹0›);have W4:=FQ y (yl+x/8192%2) (yl+4) (big w4 ‹0› ‹0›) (big w4 (by decide) (by decide));have S1:St t (fm K R) (oV a (num (lo+1) (lo+3))) (oV b (num (lo'+2) (lo'+7))):=Ir F hi hj ij W1 W2 ‹0› ‹0› ‹0› ‹0›;have S2:St t (fm K R) (oD c (.int (rl+x/512%12))) (oV y (num (yl+x/8192%2) (yl+4))):=Ic F hr' ‹0› ‹0› ‹0› h0 W3 W4 ‹0› ‹0›;have S3:St t (fm K R) (oV y (num (yl+x/8192%2) (yl+4))) (oD c (.int (rl+x/512%12))):=IH F hr' ‹0› ‹0› ‹0› h0 W3 W4 ‹0› ‹0›;obtain⟨s,s',es,hs⟩:∃s s',ai (.lst [.lst [oV a (num (lo+1) (lo+3)),oV b (num (lo'+2) (lo'+7))],.lst [oD c (.int (rl+x/512%12)),oV y (num (yl+x/8192%2) (yl+4))],.lst [oV y (num (yl+x/8192%2) (yl+4)),oD c (.int (rl+x/512%12))]]) (.int (x/16384%3))=some (.lst [s,s'])/\St t (fm K R) s s':=by
   rcases(show x/16384%3=0\/x/16384%3=1\/x/16384%3=2 by omega)with q|q|q<;>rw[q]
   ·exact⟨_,_,rfl,S1⟩
   ·exact⟨_,_,rfl,S2⟩
   ·exact⟨_,_,rfl,S3⟩
  refine⟨s,s',?_,hs⟩;clear hs S1 S2 S3 W1 W2 W3 W4;rw[cy];unfold b7;generalize fm K R=ff at *;generalize SP n=sp at *;simp! only[i0,i1,ad,gl,ml,ei,d8,Jm,ej,gi,gj,Ek,d64,m2,zb,d128,glr,mlr,er,gr,d512,m12,gy,CF,gT,d8192,d16384,m3,Nf,MV,sq,Jk,es]
end
noncomputable def Nj(n:Nat->Str)(P:Nat->Prop)(ps:L):Prop:=∀p∈ps,∃j,P j/\j<24/\p.1=n j
section
variable{n:Nat->Str}{P:Nat->Prop}{K R ps qs:L}{t:Str}
theorem Nj.no(h:Nj n P ps)(N:Inj n){a:Nat}(ha:a<24)(hp:¬P a):n a∉ps.map (·.1):=λz=>by
 obtain⟨p,hp',e⟩:=List.mem_map.mp z;obtain⟨j,h1,h2,h3⟩:=h p hp'
 have:=N j a h2 ha (h3.symm.trans e)
 exact hp (this ▸ h1)
theorem Nj.app(h:Nj n P ps)(h':Nj n P qs):Nj n P (ps++qs):=λp hp=>(List.mem_append.mp hp).elim (h p) (h' p)
theorem Nj.cons{p:Str×D}(h:Nj n P ps)(j:Nat)(hj:P j)(j2:j<24)(e:p.1=n j):Nj n P (p::ps):=λq hq=>by
 rcases List.mem_cons.mp hq with z|z
 ·exact⟨j,hj,j2,by rw[z];exact e⟩
 ·exact h q z
theorem Nj.nil:Nj n P []:=λp hp=>by cases hp
theorem Bs.nk(B:Bs n K R)(hP:∀j,j<4->P j):Nj n P K:=λp hp=>by
 obtain⟨i,hi⟩:=QC hp
 have:=(List.getElem?_eq_some_iff.mp hi).1
 have:=B.k2
 exact⟨i,hP i ‹0›,by omega,(B.ka i p hi).1⟩
theorem Bs.nr(B:Bs n K R)(hP:∀j,5<=j->j<9->P j):Nj n P R:=λp hp=>by
 obtain⟨i,hi⟩:=QC hp
 have:=(List.getElem?_eq_some_iff.mp hi).1
 have:=B.r2
 exact⟨5+i,hP _ ‹0› ‹0›,by omega,(B.ra i p hi).1⟩
theorem zM{z:Str×D}(h:((K++R).map (·.1)).Nodup)(hz:z.1∉(K++R).map (·.1)):(((K++[z])++R).map (·.1)).Nodup:=by
 rw[PP,List.singleton_append];have p:((K++z::R).map (·.1)).Perm ((z::(K++R)).map (·.1)):=List.perm_middle.map _;rw[p.nodup_iff,OH,QD];exact⟨hz,h⟩
theorem Fk.wide(F:Fk K R)(hl:K.length<=4){z:Str×D}(hz:z.1∉(K++R).map (·.1)):Fk (K++[z]) R:=⟨by simp,by simp;omega,F.rl,zM F.nd hz⟩
theorem Bs.two(B:Bs n K R):∃(lo hi lo1 hi1:Int)(T:L),K=(n 0,num lo hi)::(n 1,num lo1 hi1)::T/\T.length<=2/\lo%12=0/\(hi+1)%12=0:=by
 have k1:=B.k1;have k2:=B.k2
 match K,B,k1,k2 with
 |(a,k)::(b,k')::T,B,_,k2=>
  obtain⟨a1,lo,hi,a2,a3,a4,_⟩:=B.ka 0 (a,k) rfl;obtain⟨b1,lo1,hi1,b2,_⟩:=B.ka 1 (b,k') rfl;have a1:a=n 0:=a1;have a2:k=num lo hi:=a2;have b1:b=n 1:=b1;have b2:k'=num lo1 hi1:=b2;refine⟨lo,hi,lo1,hi1,T,by rw[a1,a2,b1,b2],by simp at k2;omega,a3,a4⟩
theorem JF(a b c d e:D):lJ [a,b,c,d,e]=some (.lst [a,b,c,d,e]):=nr rfl
theorem oO(a b:Int):a*b%b=0:=Int.mul_emod_left a b
theorem rV(a b:Int):(a*b+b)%b=0:=by
 rw[show a*b+b=(a+1)*b by rw[Int.add_mul,Int.one_mul]];exact oO _ _
theorem xc(B:Bs n K R)(N:Inj n)(x:Int):∃f s0 s1,aj bj 3 8 [fm K R,SP n,.int x]=.ok (.tup [f,.lst [s0,s1]])/\St t f s0 s1:=by
 have F:=B.fk N;have NU:=B.nu;have k2:=B.k2;have nR:=λP h=>B.nr (P:=P) h;have nK:=λP h=>B.nk (P:=P) h;have fr:∀a,10<=a->a<24->n a∉(K++R).map (·.1):=λa h h'=>B.no N h h';have ne:∀a b,a<24->b<24->a≠b->n a≠n b:=λa b ha hb h z=>h (N a b ha hb z);have rl:=B.r2;obtain⟨lo,hi,lo1,hi1,T,e,hT,t1,t2⟩:=B.two;obtain⟨b,eb,hb⟩:∃b:Int,ai (.lst [.int 2,.int 3,.int 4,.int 6,.int 12]) (.int (x%5))=some (.int b)/\(b=2\/b=3\/b=4\/b=6\/b=12):=by
  rcases(show x%5=0\/x%5=1\/x%5=2\/x%5=3\/x%5=4 by omega)with z|z|z|z|z<;>rw[z]
  ·exact⟨2,rfl,by omega⟩
  ·exact⟨3,rfl,by omega⟩
  ·exact⟨4,rfl,by omega⟩
  ·exact⟨6,rfl,by omega⟩
  ·exact⟨12,rfl,by omega⟩
 have b1:2<=b:=by omega
 have b2:b<=1000:=by omega
 have d1:lo%b=0:=by rcases hb with z|z|z|z|z<;>subst z<;>omega
 have d2:(hi+1)%b=0:=by rcases hb with z|z|z|z|z<;>subst z<;>omega
 have wF:Fk (K++[(n 13,num 0 (b-1))]) R:=F.wide k2 (fr 13 (by decide) (by decide));have wN:Nu ((K++[(n 13,num 0 (b-1))])++R):=λp hp=>by
  rcases List.mem_append.mp hp with h|h
  ·rcases List.mem_append.mp h with h|h
   ·exact NU p (Ov _ h)
   ·rw[List.mem_singleton.mp h];exact⟨_,_,rfl⟩
  ·exact NU p (OA _ h)
 have wJ:Nj n (λj=>j<10\/j=13) ((K++[(n 13,num 0 (b-1))])++R):=((nK _ λj h=>.inl ‹0›).app (Nj.nil.cons 13 (.inr rfl) (by decide) rfl)).app (nR _ λj h h'=>.inl ‹0›);have ad:bm (.tup (K.map fld)) (.tup [.tup [.str (n 13),num 0 (b-1)]])=some (.tup ((K++[(n 13,num 0 (b-1))]).map fld)):=by
  have:=eD (K.map fld) [fld (n 13,num 0 (b-1))] (by rw[OI];simp;omega)
  rw[PB];exact this
 have h0:K[0]?=some (n 0,num lo hi):=by rw[e];rfl
 have h1:K[1]?=some (n 1,num lo1 hi1):=by rw[e];rfl
 have g0:ai (.tup (K.map fld)) (.int 0)=some (fld (n 0,num lo hi)):=kI h0;have g1:ai (.tup (K.map fld)) (.int 1)=some (fld (n 1,num lo1 hi1)):=kI h1;have i0:ai (fm K R) (.int 0)=some (.tup (K.map fld)):=gh _ _;have i1:ai (fm K R) (.int 1)=some (.tup (R.map fld)):=gQ _ _ _;have s0:ai (SP n) (.int 0)=some (.str (n 10)):=rfl;have s1:ai (SP n) (.int 1)=some (.str (n 11)):=rfl;have s2:ai (SP n) (.int 2)=some (.str (n 12)):=rfl;have s3:ai (SP n) (.int 3)=some (.str (n 13)):=rfl;have m5:=gm 5;have m4:=gm 4;have d8:=gd 8;have efm:fm (K++[(n 13,num 0 (b-1))]) R=.tup [.tup ((K++[(n 13,num 0 (b-1))]).map fld),.tup (R.map fld)]:=rfl;have c0:((x/8%4==0)=true/\x/8%4=0)\/((x/8%4==0)=false/\x/8%4≠0):=by
  by_cases z:x/8%4=0
  ·exact .inl ⟨by simpa using z,z⟩
  ·exact .inr ⟨by simpa using z,z⟩
 rcases c0 with⟨q0,-⟩|⟨q0,z0⟩
 ·refine⟨fm (K++[(n 13,num 0 (b-1))]) R,oP (n 0) b (n 10) (n 11),oF (n 1) (n 11) b (n 12),?_,?_⟩
  ·rw[efm,cy];unfold bj;generalize fm K R=ff at *;generalize SP n=sp at *;simp! only[i0,i1,m5,JF,eb,g0,g1,s0,s1,s2,s3,sq,tJ,yH,ad,d8,m4,q0,HY,Hs,Ek]
  ·rw[e,Pg]at wF wN wJ ⊢;refine Ec (p0:=(n 0,num lo hi)) (i:=2) (j:=1) wF wN b1 b2 d1 d2 (wJ.no N (by decide) ‹0›) (wJ.no N (by decide) ‹0›) (ne 10 11 (by decide) (by decide) (by decide)) (by simp;omega) rfl rfl (by decide) (wJ.no N (by decide) ‹0›) (ne 12 10 (by decide) (by decide) (by decide)) (ne 12 11 (by decide) (by decide) (by decide)) λz=>ne 10 1 (by decide) (by decide) (by decide) z.1
 have c1:((x/8%4==1)=true/\x/8%4=1)\/((x/8%4==1)=false/\x/8%4≠1):=by
  by_cases z:x/8%4=1
  ·exact .inl ⟨by simpa using z,z⟩
  ·exact .inr ⟨by simpa using z,z⟩
 rcases c1 with⟨q1,-⟩|⟨q1,z1⟩
 ·refine⟨fm (K++[(n 13,num 0 (b-1))]) R,oP (n 0) b (n 10) (n 11),oF (n 10) (n 13) b (n 12),?_,?_⟩
  ·rw[efm,cy];unfold bj;generalize fm K R=ff at *;generalize SP n=sp at *;simp! only[i0,i1,m5,JF,eb,g0,g1,s0,s1,s2,s3,sq,tJ,yH,ad,d8,m4,q0,q1,HY,Hs,Ek]
  ·rw[e,Pg]at wF wN wJ ⊢;refine Ec (p0:=(n 0,num lo hi)) (i:=0) (j:=T.length+3) wF wN b1 b2 d1 d2 (wJ.no N (by decide) ‹0›) (wJ.no N (by decide) ‹0›) (ne 10 11 (by decide) (by decide) (by decide)) (by simp;omega) rfl ?_ ‹0› (wJ.no N (by decide) ‹0›) (ne 12 10 (by decide) (by decide) (by decide)) (ne 12 11 (by decide) (by decide) (by decide)) λz=>ne 11 13 (by decide) (by decide) (by decide) z.2;show(T++[(n 13,num 0 (b-1))])[T.length]?=_;rw[OS (Oz _),Qa];rfl
 have c2:((x/8%4==2)=true/\x/8%4=2)\/((x/8%4==2)=false/\x/8%4≠2):=by
  by_cases z:x/8%4=2
  ·exact .inl ⟨by simpa using z,z⟩
  ·exact .inr ⟨by simpa using z,z⟩
 rcases c2 with⟨q2,-⟩|⟨q2,z2⟩
 ·refine⟨fm (K++[(n 13,num 0 (b-1))]) R,oF (n 0) (n 13) b (n 10),oP (n 10) b (n 0) (n 13),?_,?_⟩
  ·rw[efm,cy];unfold bj;generalize fm K R=ff at *;generalize SP n=sp at *;simp! only[i0,i1,m5,JF,eb,g0,g1,s0,s1,s2,s3,sq,tJ,yH,ad,d8,m4,q0,q1,q2,HY,Hs,Ek]
  ·have lK:K.length=T.length+2:=(by rw[e];rfl);have hi':((K++[(n 13,num 0 (b-1))])++R)[0]?=some (n 0,num lo hi):=(by rw[e];rfl);have hj':((K++[(n 13,num 0 (b-1))])++R)[K.length]?=some (n 13,num 0 (b-1)):=by
    rw[PP,OS (Oz _),Qa];rfl
   have F2:Fk ((n 10,num (lo*b) (hi*b+b-1))::(n 1,num lo1 hi1)::T) R:=by
    have q:=F.setN (x:=n 10) (k:=num (lo*b) (hi*b+b-1)) (i:=0) (p:=(n 0,num lo hi)) (by rw[e];rfl) (fr 10 (by decide) (by decide));have e1:rk K 0 [(n 10,num (lo*b) (hi*b+b-1))]=(n 10,num (lo*b) (hi*b+b-1))::(n 1,num lo1 hi1)::T:=(by rw[e];exact if_pos (by simp));have e2:rr K R 0 [(n 10,num (lo*b) (hi*b+b-1))]=R:=if_pos ‹0›
    rwa [e1,e2]at q
   have nT:Nj n (λj=>1<=j/\j<11) ((n 1,num lo1 hi1)::T):=λp hp=>by
    obtain⟨i,hi⟩:=QC hp;have li:=(List.getElem?_eq_some_iff.mp hi).1;have q:=(B.ka (i+1) p (by rw[e];exact hi)).1;simp at li;exact⟨i+1,⟨by omega,by omega⟩,by omega,q⟩
   have J2:Nj n (λj=>1<=j/\j<11) (((n 10,num (lo*b) (hi*b+b-1))::(n 1,num lo1 hi1)::T)++R):=(nT.cons 10 ⟨by decide,by decide⟩ (by decide) rfl).app (nR _ λj h h'=>⟨by omega,by omega⟩);have es:((K++[(n 13,num 0 (b-1))]).set 0 (n 10,num (lo*b) (hi*b+b-1))).eraseIdx K.length=(n 10,num (lo*b) (hi*b+b-1))::(n 1,num lo1 hi1)::T:=by
    rw[lK,e];show _::_::(T++[(n 13,num 0 (b-1))]).eraseIdx T.length=_;rw[List.eraseIdx_append_of_length_le (Oz _),Qa];show _::_::(T++[])=_;rw[OM]
   have hs:=zg wF hi' hj' ‹0› (n 10) b;exact Al (T:=(n 1,num lo1 hi1)::T) wF hi' hj' ‹0› b1 b2 (wJ.no N (by decide) ‹0›) (by simp) (by simp) es F2 (λp hp=>NU p (by rw[e];exact Ou _ hp)) b1 b2 (oO _ _) (rV _ _) (J2.no N (by decide) ‹0›) (J2.no N (by decide) ‹0›) (ne 0 13 (by decide) (by decide) (by decide)) hs
 ·refine⟨fm [(n 13,num 0 (b-1)),(n 0,num lo hi)] R,oF (n 0) (n 13) b (n 10),oP (n 10) b (n 0) (n 13),?_,?_⟩
  ·have efm:fm [(n 13,num 0 (b-1)),(n 0,num lo hi)] R=.tup [.tup [.tup [.str (n 13),num 0 (b-1)],.tup [.str (n 0),num lo hi]],.tup (R.map fld)]:=rfl;rw[efm,cy];unfold bj;generalize fm K R=ff at *;generalize SP n=sp at *;simp! only[i0,i1,m5,JF,eb,g0,g1,s0,s1,s2,s3,sq,tJ,yH,ad,d8,m4,q0,q1,q2,HY,Hs,Ek]
  ·have nd:=F.nd;have J0:Nj n (λj=>5<=j/\j<9) R:=nR _ λj h h'=>⟨h,h'⟩
   have J1:Nj n (λj=>5<=j/\j<9\/j=0) ((n 0,num lo hi)::R):=(nR _ λj h h'=>.inl ⟨h,h'⟩).cons 0 (.inr rfl) (by decide) rfl;have J2:Nj n (λj=>5<=j/\j<9\/j=0\/j=13) ([(n 13,num 0 (b-1)),(n 0,num lo hi)]++R):=((nR _ λj h h'=>.inl ⟨h,h'⟩).cons 0 (.inr (.inl rfl)) (by decide) rfl).cons 13 (.inr (.inr rfl)) (by decide) rfl;have J3:Nj n (λj=>5<=j/\j<9\/j=10) ([(n 10,num (lo*b) (hi*b+b-1))]++R):=(nR _ λj h h'=>.inl ⟨h,h'⟩).cons 10 (.inr rfl) (by decide) rfl;have ndR:(R.map (·.1)).Nodup:=by
    rw[PB,P9]at nd;exact nd.2.1
   have F1:Fk [(n 13,num 0 (b-1)),(n 0,num lo hi)] R:=by
    refine⟨by simp,by simp,F.rl,?_⟩;show(n 13::n 0::R.map (·.1)).Nodup;rw[QD,QD];exact⟨J1.no N (a:=13) (by decide) ‹0›,J0.no N (a:=0) (by decide) ‹0›,ndR⟩
   have F2:Fk [(n 10,num (lo*b) (hi*b+b-1))] R:=by
    refine⟨by simp,by simp,F.rl,?_⟩;show(n 10::R.map (·.1)).Nodup;rw[QD];exact⟨J0.no N (a:=10) (by decide) ‹0›,ndR⟩
   have hs:=zg F1 (i:=1) (j:=0) rfl rfl (by decide) (n 10) b;exact Al (T:=[]) F1 (i:=1) (j:=0) rfl rfl (by decide) b1 b2 (J2.no N (by decide) ‹0›) (by simp) (by simp) rfl F2 (λp hp=>NU p (OA _ hp)) b1 b2 (oO _ _) (rV _ _) (J3.no N (by decide) ‹0›) (J3.no N (by decide) ‹0›) (ne 0 13 (by decide) (by decide) (by decide)) hs
theorem yJ(B:Bs n K R)(N:Inj n)(x:Int):∃f s0 s1,aj cA 3 8 [fm K R,SP n,.int x]=.ok (.tup [f,.lst [s0,s1]])/\St t f s0 s1:=by
 have F:=B.fk N;have NU:=B.nu;have nR:=λP h=>B.nr (P:=P) h;have ne:∀a b,a<24->b<24->a≠b->n a≠n b:=λa b ha hb h z=>h (N a b ha hb z);obtain⟨lo,hi,lo1,hi1,T,e,hT,t1,t2⟩:=B.two;obtain⟨b,eb,hb⟩:∃b:Int,ai (.lst [.int 4,.int 6,.int 12]) (.int (x%3))=some (.int b)/\(b=4\/b=6\/b=12):=by
  rcases(show x%3=0\/x%3=1\/x%3=2 by omega)with z|z|z<;>rw[z]
  ·exact⟨4,rfl,by omega⟩
  ·exact⟨6,rfl,by omega⟩
  ·exact⟨12,rfl,by omega⟩
 have b1:2<=b:=by omega
 have b2:b<=1000:=by omega
 have v1:lo*b%2=0:=by rcases hb with z|z|z<;>subst z<;>omega
 have v2:(hi*b+b)%2=0:=by rcases hb with z|z|z<;>subst z<;>omega
 have nd:=F.nd;have J0:Nj n (λj=>5<=j/\j<9) R:=nR _ λj h h'=>⟨h,h'⟩
 have J1:Nj n (λj=>5<=j/\j<9\/j=13) ((n 13,num 0 (b-1))::R):=(nR _ λj h h'=>.inl ⟨h,h'⟩).cons 13 (.inr rfl) (by decide) rfl;have J2:Nj n (λj=>5<=j/\j<9\/j=0\/j=13) ([(n 0,num lo hi),(n 13,num 0 (b-1))]++R):=((nR _ λj h h'=>.inl ⟨h,h'⟩).cons 13 (.inr (.inr rfl)) (by decide) rfl).cons 0 (.inr (.inl rfl)) (by decide) rfl;have J3:Nj n (λj=>5<=j/\j<9\/j=10) ([(n 10,num (lo*b) (hi*b+b-1))]++R):=(nR _ λj h h'=>.inl ⟨h,h'⟩).cons 10 (.inr rfl) (by decide) rfl;have ndR:(R.map (·.1)).Nodup:=by
  rw[PB,P9]at nd;exact nd.2.1
 have F1:Fk [(n 0,num lo hi),(n 13,num 0 (b-1))] R:=by
  refine⟨by simp,by simp,F.rl,?_⟩;show(n 0::n 13::R.map (·.1)).Nodup;rw[QD,QD];exact⟨J1.no N (a:=0) (by decide) ‹0›,J0.no N (a:=13) (by decide) ‹0›,ndR⟩
 have F2:Fk [(n 10,num (lo*b) (hi*b+b-1))] R:=by
  refine⟨by simp,by simp,F.rl,?_⟩;show(n 10::R.map (·.1)).Nodup;rw[QD];exact⟨J0.no N (a:=10) (by decide) ‹0›,ndR⟩
 have SF:∀(e:Int)(q r:Nat),2<=e->e<=1000->lo*b%e=0->(hi*b+b)%e=0->q<24->r<24->(q<5\/11<=q)->(r<5\/11<=r)->q≠r->¬(b=e/\n 0=n q/\n 13=n r)->St t (fm [(n 0,num lo hi),(n 13,num 0 (b-1))] R) (oF (n 0) (n 13) b (n 10)) (oP (n 10) e (n q) (n r)):=λe q r e1 e2 h1 h2 hq hr q5 r5 qr hh=>
  Al (T:=[]) F1 (i:=0) (j:=1) rfl rfl (by decide) b1 b2 (J2.no N (by decide) ‹0›) (by simp) (by simp) rfl F2 (λp hp=>NU p (OA _ hp)) e1 e2 h1 h2 (J3.no N hq ‹0›) (J3.no N hr ‹0›) (ne q r hq hr qr) (EH _ _ _ _ _ _ _ _ _ hh)
 have S1:=SF 2 0 13 (by decide) (by decide) v1 v2 (by decide) (by decide) (by decide) (by decide) (by decide) (λz=>by omega);have S2:=SF b 11 13 b1 b2 (oO _ _) (rV _ _) (by decide) (by decide) (by decide) (by decide) (by decide) (λz=>ne 0 11 (by decide) (by decide) (by decide) z.2.1);have S3:=SF b 0 12 b1 b2 (oO _ _) (rV _ _) (by decide) (by decide) (by decide) (by decide) (by decide) (λz=>ne 13 12 (by decide) (by decide) (by decide) z.2.2);obtain⟨s,es,hs⟩:∃s,ai (.lst [oP (n 10) 2 (n 0) (n 13),oP (n 10) b (n 11) (n 13),oP (n 10) b (n 0) (n 12)]) (.int (x/8%3))=some s/\St t (fm [(n 0,num lo hi),(n 13,num 0 (b-1))] R) (oF (n 0) (n 13) b (n 10)) s:=by
  rcases(show x/8%3=0\/x/8%3=1\/x/8%3=2 by omega)with z|z|z<;>rw[z]
  ·exact⟨_,rfl,S1⟩
  ·exact⟨_,rfl,S2⟩
  ·exact⟨_,rfl,S3⟩
 refine⟨_,_,s,?_,hs⟩;clear hs S1 S2 S3 SF F1 F2 J0 J1 J2 J3;have h0:K[0]?=some (n 0,num lo hi):=by rw[e];rfl
 have g0:ai (.tup (K.map fld)) (.int 0)=some (fld (n 0,num lo hi)):=kI h0;have i0:ai (fm K R) (.int 0)=some (.tup (K.map fld)):=gh _ _;have i1:ai (fm K R) (.int 1)=some (.tup (R.map fld)):=gQ _ _ _;have s0:ai (SP n) (.int 0)=some (.str (n 10)):=rfl;have s1:ai (SP n) (.int 1)=some (.str (n 11)):=rfl;have s2:ai (SP n) (.int 2)=some (.str (n 12)):=rfl;have s3:ai (SP n) (.int 3)=some (.str (n 13)):=rfl;have m3:=gm 3;have d8:=gd 8;have ap:oB [oP (n 10) 2 (n 0) (n 13),oP (n 10) b (n 11) (n 13)] [oP (n 10) b (n 0) (n 12)]=some [oP (n 10) 2 (n 0) (n 13),oP (n 10) b (n 11) (n 13),oP (n 10) b (n 0) (n 12)]:=by
  rw[z7 (by simp)];rfl
 have efm:fm [(n 0,num lo hi),(n 13,num 0 (b-1))] R=.tup [.tup [.tup [.str (n 0),num lo hi],.tup [.str (n 13),num 0 (b-1)]],.tup (R.map fld)]:=rfl;rw[efm,cy];unfold cA;generalize fm K R=ff at *;generalize SP n=sp at *;have sm:=λf (Q:Ks) (x3 x4 x5 x6:Option S)=>zF 7 oB f Q [‹ff›,‹sp›,‹.int x›,x3,x4,x5,x6,some (.own (.lst [oP (n 10) 2 (n 0) (n 13),oP (n 10) b (n 11) (n 13)]))] (xs:=[oP (n 10) 2 (n 0) (n 13),oP (n 10) b (n 11) (n 13)]) rfl;simp! only[i0,i1,m3,Jk,eb,g0,s0,s1,s2,s3,sq,tJ,d8,HY,Hs,Ek,sm,ap,es]
end
noncomputable def CT:bE:=ak (aG 2 (fR (aj cN 2 3) (ac (ae 0) (ac (ae 6) af)))) (ak (dG (jg (aJ (fR (aj cK 3 6) (ac (ae 3) (ac (ae 5) (ac (fR (aj b7 3 14) (ac (ae 3) (ac (ae 4) (ac (f2 eB (ae 2) (fC (.int 5))) af)))) af)))))) (aB (fC (.bl false))) aN) (ak (aG 7 (dC (ac (fR (aj bj 3 8) (ac (ae 3) (ac (ae 4) (ac (ae 2) af)))) (ac (fR (aj cA 3 8) (ac (ae 3) (ac (ae 4) (ac (ae 2) af)))) (ac (fR (aj cm 3 7) (ac (ae 3) (ac (ae 4) (ac (ae 2) af)))) af))))) (fG [1,2,6] (ak (nY (cu (ae 7)) (gT 2 (sC [8,9])) (ak (dG (jg (aJ (fR (aj cK 3 6) (ac (ae 8) (ac (ae 5) (ac (ae 9) af)))))) (aB (fC (.bl false))) aN) (fG [8,9] aN))) (fG [2,6,7,8,9] aN)))))
theorem C6:nB=ak (aG 1 (f2 cI (f2 gP (fR (aj cU 2 2) (ac (ae 0) (ac (fC (.int 1)) af))) (fC (.int 48271))) (fC (.int 2147483647)))) (ak (aG 2 (fR (aj cN 2 3) (ac (ae 0) (ac (fC (.int 0)) af)))) (ak (aG 3 (aO (ac (fR (aj bG 4 6) (ac (fR (aj bW 1 1) (ac (ae 2) af)) (ac (ae 1) (ac (fC (.int 0)) (ac (f2 bm (fC (.int 2)) (f2 cI (ae 2) (fC (.int 3)))) af))))) (ac (fR (aj bG 4 6) (ac (f2 bm (fR (aj bW 1 1) (ac (ae 2) af)) (fC (.int 1))) (ac (ae 1) (ac (fC (.int 5)) (ac (f2 bm (fC (.int 2)) (f2 cI (f2 eB (ae 2) (fC (.int 8))) (fC (.int 3)))) af))))) af)))) (ak (aG 4 (iC [none,some 1] (fA (ac (fC (.int 5)) af)) (gN 0) dg (fR (aj aT 2 7) (ac (ae 1) (ac (f2 bm (fC (.int 10)) (ae 0)) af))))) (ak (aG 5 (fR (aj aT 2 7) (ac (ae 1) (ac (fC (.int 20)) af)))) (fG [1,2] (ak (nY (lA (ac (fC (.int 2)) (ac (fL ny (ac (fL nE (ac (fL cX (ac (ae 0) af)) (ac (fC (.int 4)) af))) (ac (fC (.int 17)) af))) af))) (gN 6) CT) (aB (fC (.bl true))))))))):=rfl
section
variable{n:Nat->Str}{K R:L}{t:Str}
theorem zZ(b:Int)(hb:0<=b):∃n:Nat->Str,Inj n/\∀k:Nat,k<24->aj aT 2 7 [.int b,.int (k:Int)]=.ok (.str (n k)):=by
 have h:=λk:Nat=>CB b (k:Int) hb ‹0›;refine⟨λk=>(h k).choose,λj k hj hk e=>?_,λk _=>(h k).choose_spec.1⟩;have e:(h j).choose=(h k).choose:=e;have p1:=(h j).choose_spec.2;have p2:=(h k).choose_spec.2;rw[<-e]at p2
 have:=DE ‹0› ‹0› ‹0› ‹0› p1 p2
 omega
noncomputable abbrev kwd:D:=.tup [.str "word",.tup [.str "a",.str "b"]]
theorem AA(a b:Int):Pk (num a b):=⟨_,_,rfl,zv⟩
theorem DY{d:D}(h:Tw d):Pk d:=by
 obtain⟨lo,hi,e,_⟩:=h;rw[e];exact AA _ _
theorem yj(B:Bs n K R)(N:Inj n)(x:Int):∃f s0 s1,aj cm 3 7 [fm K R,SP n,.int x]=.ok (.tup [f,.lst [s0,s1]])/\St t f s0 s1:=by
 have F:=B.fk N;have k1:=B.k1;have k2:=B.k2;have r2:=B.r2;have nR:=λP h=>B.nr (P:=P) h;have nK:=λP h=>B.nk (P:=P) h;have m3:=gm 3;have m2:=gm 2;have d8:=gd 8;obtain⟨w,hw⟩:∃w:Bool,w=decide ((0:Int)<x%3):=⟨_,rfl⟩
 obtain⟨m,em,m1,m2',hm⟩:∃m:Nat,ai (.lst [.int (K.length:Int),.int ((K.length:Int)+1),.int ((K.length:Int)-1)]) (.int (x%3))=some (.int (m:Int))/\1<=m/\m<K.length+2/\(w=false\/m≠K.length):=by
  rcases(show x%3=0\/x%3=1\/x%3=2 by omega)with z|z|z
  ·rw[z]at hw ⊢;exact⟨K.length,rfl,by omega,by omega,.inl (by rw[hw];rfl)⟩
  ·rw[z];exact⟨K.length+1,rfl,by omega,by omega,.inr ‹0›⟩
  ·rw[z];exact⟨K.length-1,by rw[show((K.length-1:Nat):Int)=(K.length:Int)-1 by omega];rfl,by omega,by omega,.inr ‹0›⟩
 obtain⟨y,ey,hy⟩:∃y:Nat,ai (.lst [.str (n 12),.str (n 14)]) (.int (x/8%2))=some (.str (n y))/\(y=12\/y=14):=by
  rcases(show x/8%2=0\/x/8%2=1 by omega)with z|z<;>rw[z]
  ·exact⟨12,rfl,.inl rfl⟩
  ·exact⟨14,rfl,.inr rfl⟩
 have JK:Nj n (λj=>j<4) K:=nK _ λj h=>h;have JI:Nj n (λj=>5<=j/\j<12) ([(n 10,kwd),(n 11,num 0 9)]++R):=((nR _ λj h h'=>⟨h,by omega⟩).cons 11 ⟨by decide,by decide⟩ (by decide) rfl).cons 10 ⟨by decide,by decide⟩ (by decide) rfl;have JM:Nj n (λj=>j<4\/j=10\/j=11) (K++[(n 10,kwd),(n 11,num 0 9)]):=(nK _ λj h=>.inl h).app ((Nj.nil.cons 11 (.inr (.inr rfl)) (by decide) rfl).cons 10 (.inr (.inl rfl)) (by decide) rfl);have ndK:(K.map (·.1)).Nodup:=by
  have nd:=F.nd;rw[PB,P9]at nd;exact nd.1
 have F1:Fk K [(n 12,.tup [.str "rows",fm [(n 10,kwd),(n 11,num 0 9)] R,.bl w])]:=by
  refine⟨by omega,by omega,by simp,?_⟩
  have:=zM (K:=K) (R:=[]) (z:=(n 12,.tup [.str "rows",fm [(n 10,kwd),(n 11,num 0 9)] R,.bl w])) (by rw[OM];exact ndK) (by rw[OM];exact JK.no N (by decide) ‹0›)
  rw[OM]at this;exact this
 refine⟨fm K [(n 12,.tup [.str "rows",fm [(n 10,kwd),(n 11,num 0 9)] R,.bl w])],oU (n 12),oN m (n y),?_,Hu F1 (by simp;omega) (by simp;omega) ?_ ?_ m1 m2' (JM.no N ‹0› ‹0›) hm⟩
 ·have i0:ai (fm K R) (.int 0)=some (.tup (K.map fld)):=gh _ _;have i1:ai (fm K R) (.int 1)=some (.tup (R.map fld)):=gQ _ _ _;have s0:ai (SP n) (.int 0)=some (.str (n 10)):=rfl;have s1:ai (SP n) (.int 1)=some (.str (n 11)):=rfl;have s2:ai (SP n) (.int 2)=some (.str (n 12)):=rfl;have s4:ai (SP n) (.int 4)=some (.str (n 14)):=rfl;have lk:=xt K;have efm:fm K [(n 12,.tup [.str "rows",fm [(n 10,kwd),(n 11,num 0 9)] R,.bl w])]=.tup [.tup (K.map fld),.tup [.tup [.str (n 12),.tup [.str "rows",.tup [.tup [.tup [.str (n 10),.tup [.str "word",.tup [.str "a",.str "b"]]],.tup [.str (n 11),num 0 9]],.tup (R.map fld)],.bl w]]]]:=rfl;rw[efm,cy];unfold cm;generalize fm K R=ff at *;generalize SP n=sp at *;simp! only[i0,i1,m3,m2,d8,s0,s1,s2,s4,yH,tJ,sq,lk,Jk,Ek,em,ey,<-hw,Nr,N0]
 ·intro p hp;obtain⟨j,h1,h2,h3⟩:=JK p hp;rw[h3];exact JI.no N ‹0› ‹0›
 ·intro p hp;rcases List.mem_append.mp hp with h|h
  ·exact DY (B.tw (Ov _ h))
  ·rcases List.mem_append.mp h with h|h
   ·simp only[PR,PV,or_false]at h;rcases h with h|h
    ·rw[h];exact⟨_,_,rfl,Gb⟩
    ·rw[h];exact AA _ _
   ·exact DY (B.tw (OA _ h))
theorem zf(b:Int)(hn:∀k:Nat,k<24->aj aT 2 7 [.int b,.int (k:Int)]=.ok (.str (n k)))(x0:Option S)(ρ:ao):
  iC [none,some 1] (fA (ac (fC (.int 5)) af)) (gN 0) dg (fR (aj aT 2 7) (ac (ae 1) (ac (f2 bm (fC (.int 10)) (ae 0)) af))) (x0::‹.int b›::ρ)=.ok (SP n):=by
 have r5:lP [.int 5]=some (d7 0 5):=mU 5 (by decide);have ib:inB [none,some 1] (x0::‹.int b›::ρ)=[none,‹.int b›]:=rfl;refine gF (ds:=d7 0 5) (by simp! only[r5]) (by rw[eY];decide) ?_;rw[ib];refine(kh (λk:Nat=>D.int (0+(k:Int))) (λk=>.str (n (10+k))) (List.range 5) λk hk=>⟨_,rfl,rfl,?_⟩).trans rfl;have hk:=List.mem_range.mp hk;have e:aj aT 2 7 [.int b,.int (10+(0+(k:Int)))]=.ok (.str (n (10+k))):=by
  have:=hn (10+k) ‹0›
  rw[show((10+k:Nat):Int)=10+(0+(k:Int))by omega]at this;exact this
 simp! only[e]
noncomputable abbrev En(ns ff sp:D)(t:Str)(x6:Option S):ao:=[‹ns›,none,none,‹ff›,‹sp›,‹.str t›,x6,none,none,none]
theorem turn(B:Bs n K R)(N:Inj n)(ns:List Int)(j:Nat)(hj:j<=20)(k':Ks):CT k' (En (.lst (ns.map .int)) (fm K R) (SP n) t (‹.int (j:Int)›))=k'.nx (En (.lst (ns.map .int)) (fm K R) (SP n) t none):=by
 obtain⟨x,x0,x1,ex⟩:=vQ ns j ‹0›;obtain⟨s0,s1,e1,h1⟩:=tW (t:=t) B N (x/5) ‹0›;obtain⟨f2',a0,a1,e2,h2⟩:=xc (t:=t) B N x;obtain⟨f3',b0,b1,e3,h3⟩:=yJ (t:=t) B N x;obtain⟨f4',c0,c1,e4,h4⟩:=yj (t:=t) B N x;unfold St at h1 h2 h3 h4;have d5:=gd 5;have gt:∀(a b:D)(ρ:ao),(gT 2 (sC [8,9])) (.tup [a,b]) ρ=some ((ρ.set 8 (‹a›)).set 9 (‹b›)):=λa b ρ=>rfl;unfold CT;generalize fm K R=ff at *;generalize SP n=sp at *;simp! only[ex,d5,e1,h1,e2,e3,e4,Jk,DR,DU,gt,h2,h3,h4]
theorem math(ns:List Int)(hl:ns.length<=63):aj nB 1 10 [.lst (ns.map .int)]=.ok (.bl true):=by
 obtain⟨c0,e0⟩:=TD.Jh ns 1 (by decide);obtain⟨x,x0,x1,ex⟩:=vQ ns 0 (by decide);have ex:aj cN 2 3 [.lst (ns.map .int),.int 0]=.ok (.int x):=ex;have m48:=jH (i:=c0) (j:=48271) (by decide) (by decide);have gb:=gm 2147483647;have g3:=gm 3;have d8:=gd 8;obtain⟨b,hb⟩:∃b,b=c0*48271%2147483647:=⟨_,rfl⟩
 have b0:0<=b:=by rw[hb];exact Qt _ (by decide)
 obtain⟨n,N,hn⟩:=zZ b b0;obtain⟨y,y0,y1,en⟩:=ot x x0 ‹0›;obtain⟨K,lK,fK,eK⟩:=pY b hn y y0 ‹0› 0 (2+(x%3).toNat) (by decide) ‹0›;obtain⟨R,lR,fR',eR⟩:=pY b hn (y+1) ‹0› ‹0› 5 (2+(x/8%3).toNat) (by decide) ‹0›;rw[show((2+(x%3).toNat:Nat):Int)=2+x%3 by omega]at eK;rw[show((2+(x/8%3).toNat:Nat):Int)=2+x/8%3 by omega]at eR;have eK:aj bG 4 6 [.int y,.int b,.int 0,.int (2+x%3)]=.ok (.tup (K.map fld)):=eK;have eR:aj bG 4 6 [.int (y+1),.int b,.int 5,.int (2+x/8%3)]=.ok (.tup (R.map fld)):=eR;have B:Bs n K R:=⟨by omega,by omega,by omega,by omega,λi p h=>by have:=fK i p h;rwa [P5]at this,fR'⟩
 have sl:=λx0 ρ=>zf b hn x0 ρ;have e20:aj aT 2 7 [.int b,.int 20]=.ok (.str (n 20)):=hn 20 (by decide);obtain⟨q,hq,h20⟩:∃q:Nat,(if(17:Int)<(if(4:Int)>(ns.length:Int)then 4 else(ns.length:Int))then 17 else(if(4:Int)>(ns.length:Int)then 4 else(ns.length:Int)))=((2+q:Nat):Int)/\q<=15:=by
  by_cases z:(4:Int)>(ns.length:Int)
  ·rw[if_pos z,if_neg (by decide)];exact⟨2,rfl,by decide⟩
  ·rw[if_neg z];by_cases y:(17:Int)<(ns.length:Int)
   ·rw[if_pos y];exact⟨15,rfl,by decide⟩
   ·rw[if_neg y];exact⟨ns.length-2,by omega,by omega⟩
 have r2:lF [.int 2,.int ((2+q:Nat):Int)]=some (d7 2 q):=by
  have e:lF [.int 2,.int ((2+q:Nat):Int)]=if okR 2&&okR ((2+q:Nat):Int)then some (d7 2 ((((2+q:Nat):Int)-2).toNat))else none:=rfl
  have o1:okR 2=true:=rfl;have o2:okR ((2+q:Nat):Int)=true:=by unfold okR;exact decide_eq_true ⟨by omega,by omega⟩
  rw[e,o1,o2,show(((2+q:Nat):Int)-2).toNat=q by omega];rfl
 have tr:=λj hj k'=>turn (t:=n 20) B N ns j hj k';have ef:D.tup [.tup (K.map fld),.tup (R.map fld)]=fm K R:=rfl;rw[cP,C6];generalize CT=LB at *;generalize SP n=sp at *;rw[hb]at eK eR sl e20;simp! only[e0,m48,gb,ex,en,g3,d8,eK,eR,tJ,sl,e20,OI,hq,r2,ef];generalize fm K R=ff at *;refine sr (Q:=λz=>z=.ok (.bl true)) (λ_ ρ=>ρ=En (.lst (ns.map .int)) ff sp (n 20) none) ?_ rfl ?_
 ·rintro j d ρ k' hd rfl;have hj:=j6 hd;rw[eY]at hj;have hdi:d=.int ((2+j:Nat):Int):=by
   rw[mI,OV,PH hj]at hd;cases hd;rfl
  subst hdi;exact⟨_,_,rfl,rfl,tr (2+j) ‹0› k'⟩
 ·rintro ρ rfl;simp! only[]
end
end Tk87
open PySem PySem.W PyProof.Rows
set_option maxRecDepth 100000 in
set_option maxHeartbeats 0 in
theorem PySem.Challenge.cw_twoglass_k87_two_that_stay_holds : PySem.Challenge.rw_twoglass_k87_two_that_stay.Holds := by
  refine hd87 ?_
  k_fill
  refine Tk87.walk (l := PySem.Challenge.rw_twoglass_k87_two_that_stay) rfl rfl (fun w h Y => PySem.W.kIn_of Y) ?F Tk87.math
  case F =>
    intro w mg fa h KX G hmg
    refine' Tk87.all_mk KX G hmg ?ac0 ?ac1 ?ac2 ?ac3 ?ac4 ?ac5 ?ac6 ?ac7 ?ac8 ?ac9 ?a0 ?i0 ?l0 ?c0 ?k0 ?a1 ?i1 ?l1 ?c1 ?k1 ?a2 ?i2 ?l2 ?c2 ?k2 ?a3 ?i3 ?l3 ?c3 ?k3 ?a4 ?i4 ?l4 ?c4 ?k4 ?a5 ?i5 ?l5 ?c5 ?k5 ?a6 ?i6 ?l6 ?c6 ?k6 ?a7 ?a7_2 ?a7_3 ?a7_4 ?i7 ?l7 ?c7 ?k7 ?a8 ?i8 ?l8 ?c8 ?k8 ?a9 ?i9 ?l9 ?c9 ?k9 ?a10 ?i10 ?l10 ?c10 ?k10 ?a11 ?i11 ?l11 ?c11 ?k11 ?a12 ?i12 ?l12 ?c12 ?k12 ?a13 ?i13 ?l13 ?c13 ?k13 ?a14 ?i14 ?l14 ?c14 ?k14 ?a15 ?i15 ?l15 ?c15 ?k15 ?a16 ?i16 ?l16 ?c16 ?k16 ?a17 ?i17 ?l17 ?c17 ?k17 ?a18 ?i18 ?l18 ?c18 ?k18 ?a19 ?i19 ?l19 ?c19 ?k19 ?a20 ?i20 ?l20 ?c20 ?k20 ?a21 ?i21 ?l21 ?c21 ?k21 ?a22 ?i22 ?l22 ?c22 ?k22 ?a23 ?i23 ?l23 ?c23 ?k23 ?a24 ?i24 ?l24 ?c24 ?k24 ?a25 ?i25 ?l25 ?c25 ?k25 ?a26 ?i26 ?l26 ?c26 ?k26 ?a27 ?l27 ?c27 ?k27 ?a28 ?i28 ?l28 ?c28 ?k28 ?a29 ?i29 ?l29 ?c29 ?k29 ?a30 ?i30 ?l30 ?c30 ?k30 ?a31 ?i31 ?l31 ?c31 ?k31 ?a32 ?i32 ?l32 ?c32 ?k32 ?a33 ?i33 ?l33 ?c33 ?k33 ?a34 ?i34 ?l34 ?c34 ?k34 ?a35 ?i35 ?l35 ?c35 ?k35 ?a36 ?i36 ?l36 ?c36 ?k36 ?a37 ?i37 ?l37 ?c37 ?k37 ?p0 ?q0 ?r0 ?s0 ?n0_0 ?n0_1 ?m0 ?kp0 ?p1 ?q1 ?r1 ?s1 ?n1_0 ?m1 ?kp1 ?p2 ?q2 ?r2 ?s2 ?n2_0 ?n2_1 ?n2_2 ?n2_3 ?m2 ?kp2 ?p3 ?q3 ?r3 ?s3 ?n3_0 ?n3_1 ?n3_2 ?n3_3 ?m3 ?kp3 ?p4 ?q4 ?r4 ?s4 ?n4_0 ?n4_1 ?m4 ?kp4 ?p5 ?q5 ?r5 ?s5 ?n5_0 ?n5_1 ?m5 ?kp5 ?p6 ?q6 ?r6 ?s6 ?n6_0 ?n6_1 ?m6 ?kp6 ?p7 ?q7 ?r7 ?s7 ?n7_0 ?n7_1 ?m7 ?kp7 ?p8 ?q8 ?r8 ?s8 ?n8_0 ?n8_1 ?n8_2 ?m8 ?kp8 ?p9 ?q9 ?r9 ?s9 ?n9_0 ?m9 ?kp9 ?vsg ?vtk ?vf0 ?vm0 ?vf1 ?vm1 ?vf2 ?vm2 ?vf3 ?vm3 ?vf4 ?vm4 ?vf5 ?vm5 ?vf6 ?vm6 ?vf7 ?vm7 ?vf8 ?vm8 ?vf9 ?vm9 ?vt7 ?vi7 ?yy7_7 ?vs7_9 ?vn7_9 ?vs7_8 ?vn7_8 ?vt8 ?vi8 ?yy8_8 ?vs8_9 ?vn8_9 ?vs8_7 ?vn8_7 ?vt4 ?vi4 ?yy4_4 ?vs4_0 ?vn4_0 ?vs4_1 ?vn4_1 ?vs4_2 ?vn4_2 ?vs4_3 ?vn4_3 ?vs4_5 ?vn4_5 ?vs4_6 ?vn4_6 ?vt5 ?vi5 ?yy5_5 ?vs5_0 ?vn5_0 ?vs5_1 ?vn5_1 ?vs5_2 ?vn5_2 ?vs5_3 ?vn5_3 ?vs5_4 ?vn5_4 ?vs5_6 ?vn5_6 ?vt2 ?vi2 ?yy2_2 ?vs2_0 ?vn2_0 ?vs2_1 ?vn2_1 ?vs2_3 ?vn2_3 ?vs2_4 ?vn2_4 ?vs2_5 ?vn2_5 ?vs2_6 ?vn2_6 ?vt3 ?vi3 ?yy3_3 ?vs3_0 ?vn3_0 ?vs3_1 ?vn3_1 ?vs3_2 ?vn3_2 ?vs3_4 ?vn3_4 ?vs3_5 ?vn3_5 ?vs3_6 ?vn3_6 ?vt0 ?vi0 ?yy0_0 ?vs0_1 ?vn0_1 ?vs0_2 ?vn0_2 ?vs0_3 ?vn0_3 ?vs0_4 ?vn0_4 ?vs0_5 ?vn0_5 ?vs0_6 ?vn0_6 ?vt1 ?vi1 ?yy1_1 ?vs1_0 ?vn1_0 ?vs1_2 ?vn1_2 ?vs1_3 ?vn1_3 ?vs1_4 ?vn1_4 ?vs1_5 ?vn1_5 ?vs1_6 ?vn1_6 ?vt9 ?vi9 ?yy9_9 ?vs9_7 ?vn9_7 ?vs9_8 ?vn9_8 ?dd0 ?dd1 ?zz ?ke0 ?ke1 ?ke2 ?ke3
    (case ac0 => k_is)
    (case ac1 => k_is)
    (case ac2 => k_is)
    (case ac3 => k_is)
    (case ac4 => k_is)
    (case ac5 => k_is)
    (case ac6 => k_is)
    (case ac7 => k_is)
    (case ac8 => k_is)
    (case ac9 => k_is)
    (case a0 => k_is)
    (case i0 => k_is)
    (case l0 => delta TX.Lk; k_is)
    (case c0 => k_is)
    (case k0 => k_is)
    (case a1 => k_is)
    (case i1 => k_is)
    (case l1 => delta TX.Lk; k_is)
    (case c1 => k_is)
    (case k1 => k_is)
    (case a2 => k_is)
    (case i2 => k_is)
    (case l2 => delta TX.Lk; k_is)
    (case c2 => k_is)
    (case k2 => k_is)
    (case a3 => k_is)
    (case i3 => k_is)
    (case l3 => delta TX.Lk; k_is)
    (case c3 => k_is)
    (case k3 => k_is)
    (case a4 => k_is)
    (case i4 => k_is)
    (case l4 => delta TX.Lk; k_is)
    (case c4 => k_is)
    (case k4 => k_is)
    (case a5 => k_is)
    (case i5 => k_is)
    (case l5 => delta TX.Lk; k_is)
    (case c5 => k_is)
    (case k5 => k_is)
    (case a6 => k_is)
    (case i6 => k_is)
    (case l6 => delta TX.Lk; k_is)
    (case c6 => k_is)
    (case k6 => k_is)
    (case a7 => k_is)
    (case a7_2 => k_is)
    (case a7_3 => k_is)
    (case a7_4 => k_is)
    (case i7 => k_is)
    (case l7 => delta TX.Lk; k_is)
    (case c7 => k_is)
    (case k7 => k_is)
    (case a8 => k_is)
    (case i8 => k_is)
    (case l8 => delta TX.Lk; k_is)
    (case c8 => k_is)
    (case k8 => k_is)
    (case a9 => k_is)
    (case i9 => k_is)
    (case l9 => delta TX.Lk; k_is)
    (case c9 => k_is)
    (case k9 => k_is)
    (case a10 => k_is)
    (case i10 => k_is)
    (case l10 => delta TX.Lk; k_is)
    (case c10 => k_is)
    (case k10 => k_is)
    (case a11 => k_is)
    (case i11 => k_is)
    (case l11 => delta TX.Lk; k_is)
    (case c11 => k_is)
    (case k11 => k_is)
    (case a12 => k_is)
    (case i12 => k_is)
    (case l12 => delta TX.Lk; k_is)
    (case c12 => k_is)
    (case k12 => k_is)
    (case a13 => k_is)
    (case i13 => k_is)
    (case l13 => delta TX.Lk; k_is)
    (case c13 => k_is)
    (case k13 => k_is)
    (case a14 => k_is)
    (case i14 => k_is)
    (case l14 => delta TX.Lk; k_is)
    (case c14 => k_is)
    (case k14 => k_is)
    (case a15 => k_is)
    (case i15 => k_is)
    (case l15 => delta TX.Lk; k_is)
    (case c15 => k_is)
    (case k15 => k_is)
    (case a16 => k_is)
    (case i16 => k_is)
    (case l16 => delta TX.Lk; k_is)
    (case c16 => k_is)
    (case k16 => k_is)
    (case a17 => k_is)
    (case i17 => k_is)
    (case l17 => delta TX.Lk; k_is)
    (case c17 => k_is)
    (case k17 => k_is)
    (case a18 => k_is)
    (case i18 => k_is)
    (case l18 => delta TX.Lk; k_is)
    (case c18 => k_is)
    (case k18 => k_is)
    (case a19 => k_is)
    (case i19 => k_is)
    (case l19 => delta TX.Lk; k_is)
    (case c19 => k_is)
    (case k19 => k_is)
    (case a20 => k_is)
    (case i20 => k_is)
    (case l20 => delta TX.Lk; k_is)
    (case c20 => k_is)
    (case k20 => k_is)
    (case a21 => k_is)
    (case i21 => k_is)
    (case l21 => delta TX.Lk; k_is)
    (case c21 => k_is)
    (case k21 => k_is)
    (case a22 => k_is)
    (case i22 => k_is)
    (case l22 => delta TX.Lk; k_is)
    (case c22 => k_is)
    (case k22 => k_is)
    (case a23 => k_is)
    (case i23 => k_is)
    (case l23 => delta TX.Lk; k_is)
    (case c23 => k_is)
    (case k23 => k_is)
    (case a24 => k_is)
    (case i24 => k_is)
    (case l24 => delta TX.Lk; k_is)
    (case c24 => k_is)
    (case k24 => k_is)
    (case a25 => k_is)
    (case i25 => k_is)
    (case l25 => delta TX.Lk; k_is)
    (case c25 => k_is)
    (case k25 => k_is)
    (case a26 => k_is)
    (case i26 => k_is)
    (case l26 => delta TX.Lk; k_is)
    (case c26 => k_is)
    (case k26 => k_is)
    (case a27 => k_is)
    (case l27 => delta TX.Lk; k_is)
    (case c27 => k_is)
    (case k27 => k_is)
    (case a28 => k_is)
    (case i28 => k_is)
    (case l28 => delta TX.Lk; k_is)
    (case c28 => k_is)
    (case k28 => k_is)
    (case a29 => k_is)
    (case i29 => k_is)
    (case l29 => delta TX.Lk; k_is)
    (case c29 => k_is)
    (case k29 => k_is)
    (case a30 => k_is)
    (case i30 => k_is)
    (case l30 => delta TX.Lk; k_is)
    (case c30 => k_is)
    (case k30 => k_is)
    (case a31 => k_is)
    (case i31 => k_is)
    (case l31 => delta TX.Lk; k_is)
    (case c31 => k_is)
    (case k31 => k_is)
    (case a32 => k_is)
    (case i32 => k_is)
    (case l32 => delta TX.Lk; k_is)
    (case c32 => k_is)
    (case k32 => k_is)
    (case a33 => k_is)
    (case i33 => k_is)
    (case l33 => delta TX.Lk; k_is)
    (case c33 => k_is)
    (case k33 => k_is)
    (case a34 => k_is)
    (case i34 => k_is)
    (case l34 => delta TX.Lk; k_is)
    (case c34 => k_is)
    (case k34 => k_is)
    (case a35 => k_is)
    (case i35 => k_is)
    (case l35 => delta TX.Lk; k_is)
    (case c35 => k_is)
    (case k35 => k_is)
    (case a36 => k_is)
    (case i36 => k_is)
    (case l36 => delta TX.Lk; k_is)
    (case c36 => k_is)
    (case k36 => k_is)
    (case a37 => k_is)
    (case i37 => k_is)
    (case l37 => delta TX.Lk; k_is)
    (case c37 => k_is)
    (case k37 => k_is)
    (case p0 => k_is)
    (case q0 => k_is)
    (case r0 => k_is)
    (case s0 => k_is)
    (case n0_0 => k_is)
    (case n0_1 => k_is)
    (case m0 => k_is)
    (case kp0 => k_is)
    (case p1 => k_is)
    (case q1 => k_is)
    (case r1 => k_is)
    (case s1 => k_is)
    (case n1_0 => k_is)
    (case m1 => k_is)
    (case kp1 => k_is)
    (case p2 => k_is)
    (case q2 => k_is)
    (case r2 => k_is)
    (case s2 => k_is)
    (case n2_0 => k_is)
    (case n2_1 => k_is)
    (case n2_2 => k_is)
    (case n2_3 => k_is)
    (case m2 => k_is)
    (case kp2 => k_is)
    (case p3 => k_is)
    (case q3 => k_is)
    (case r3 => k_is)
    (case s3 => k_is)
    (case n3_0 => k_is)
    (case n3_1 => k_is)
    (case n3_2 => k_is)
    (case n3_3 => k_is)
    (case m3 => k_is)
    (case kp3 => k_is)
    (case p4 => k_is)
    (case q4 => k_is)
    (case r4 => k_is)
    (case s4 => k_is)
    (case n4_0 => k_is)
    (case n4_1 => k_is)
    (case m4 => k_is)
    (case kp4 => k_is)
    (case p5 => k_is)
    (case q5 => k_is)
    (case r5 => k_is)
    (case s5 => k_is)
    (case n5_0 => k_is)
    (case n5_1 => k_is)
    (case m5 => k_is)
    (case kp5 => k_is)
    (case p6 => k_is)
    (case q6 => k_is)
    (case r6 => k_is)
    (case s6 => k_is)
    (case n6_0 => k_is)
    (case n6_1 => k_is)
    (case m6 => k_is)
    (case kp6 => k_is)
    (case p7 => k_is)
    (case q7 => k_is)
    (case r7 => k_is)
    (case s7 => k_is)
    (case n7_0 => k_is)
    (case n7_1 => k_is)
    (case m7 => k_is)
    (case kp7 => k_is)
    (case p8 => k_is)
    (case q8 => k_is)
    (case r8 => k_is)
    (case s8 => k_is)
    (case n8_0 => k_is)
    (case n8_1 => k_is)
    (case n8_2 => k_is)
    (case m8 => k_is)
    (case kp8 => k_is)
    (case p9 => k_is)
    (case q9 => k_is)
    (case r9 => k_is)
    (case s9 => k_is)
    (case n9_0 => k_is)
    (case m9 => k_is)
    (case kp9 => k_is)
    (case vsg => k_is)
    (case vtk => k_is)
    (case vf0 => k_is)
    (case vm0 => k_is)
    (case vf1 => k_is)
    (case vm1 => k_is)
    (case vf2 => k_is)
    (case vm2 => k_is)
    (case vf3 => k_is)
    (case vm3 => k_is)
    (case vf4 => k_is)
    (case vm4 => k_is)
    (case vf5 => k_is)
    (case vm5 => k_is)
    (case vf6 => k_is)
    (case vm6 => k_is)
    (case vf7 => k_is)
    (case vm7 => k_is)
    (case vf8 => k_is)
    (case vm8 => k_is)
    (case vf9 => k_is)
    (case vm9 => k_is)
    (case vt7 => k_is)
    (case vi7 => k_is)
    (case yy7_7 => k_is)
    (case vs7_9 => k_is)
    (case vn7_9 => decide)
    (case vs7_8 => k_is)
    (case vn7_8 => decide)
    (case vt8 => k_is)
    (case vi8 => k_is)
    (case yy8_8 => k_is)
    (case vs8_9 => k_is)
    (case vn8_9 => decide)
    (case vs8_7 => k_is)
    (case vn8_7 => decide)
    (case vt4 => k_is)
    (case vi4 => k_is)
    (case yy4_4 => k_is)
    (case vs4_0 => k_is)
    (case vn4_0 => decide)
    (case vs4_1 => k_is)
    (case vn4_1 => decide)
    (case vs4_2 => k_is)
    (case vn4_2 => decide)
    (case vs4_3 => k_is)
    (case vn4_3 => decide)
    (case vs4_5 => k_is)
    (case vn4_5 => decide)
    (case vs4_6 => k_is)
    (case vn4_6 => decide)
    (case vt5 => k_is)
    (case vi5 => k_is)
    (case yy5_5 => k_is)
    (case vs5_0 => k_is)
    (case vn5_0 => decide)
    (case vs5_1 => k_is)
    (case vn5_1 => decide)
    (case vs5_2 => k_is)
    (case vn5_2 => decide)
    (case vs5_3 => k_is)
    (case vn5_3 => decide)
    (case vs5_4 => k_is)
    (case vn5_4 => decide)
    (case vs5_6 => k_is)
    (case vn5_6 => decide)
    (case vt2 => k_is)
    (case vi2 => k_is)
    (case yy2_2 => k_is)
    (case vs2_0 => k_is)
    (case vn2_0 => decide)
    (case vs2_1 => k_is)
    (case vn2_1 => decide)
    (case vs2_3 => k_is)
    (case vn2_3 => decide)
    (case vs2_4 => k_is)
    (case vn2_4 => decide)
    (case vs2_5 => k_is)
    (case vn2_5 => decide)
    (case vs2_6 => k_is)
    (case vn2_6 => decide)
    (case vt3 => k_is)
    (case vi3 => k_is)
    (case yy3_3 => k_is)
    (case vs3_0 => k_is)
    (case vn3_0 => decide)
    (case vs3_1 => k_is)
    (case vn3_1 => decide)
    (case vs3_2 => k_is)
    (case vn3_2 => decide)
    (case vs3_4 => k_is)
    (case vn3_4 => decide)
    (case vs3_5 => k_is)
    (case vn3_5 => decide)
    (case vs3_6 => k_is)
    (case vn3_6 => decide)
    (case vt0 => k_is)
    (case vi0 => k_is)
    (case yy0_0 => k_is)
    (case vs0_1 => k_is)
    (case vn0_1 => decide)
    (case vs0_2 => k_is)
    (case vn0_2 => decide)
    (case vs0_3 => k_is)
    (case vn0_3 => decide)
    (case vs0_4 => k_is)
    (case vn0_4 => decide)
    (case vs0_5 => k_is)
    (case vn0_5 => decide)
    (case vs0_6 => k_is)
    (case vn0_6 => decide)
    (case vt1 => k_is)
    (case vi1 => k_is)
    (case yy1_1 => k_is)
    (case vs1_0 => k_is)
    (case vn1_0 => decide)
    (case vs1_2 => k_is)
    (case vn1_2 => decide)
    (case vs1_3 => k_is)
    (case vn1_3 => decide)
    (case vs1_4 => k_is)
    (case vn1_4 => decide)
    (case vs1_5 => k_is)
    (case vn1_5 => decide)
    (case vs1_6 => k_is)
    (case vn1_6 => decide)
    (case vt9 => k_is)
    (case vi9 => k_is)
    (case yy9_9 => k_is)
    (case vs9_7 => k_is)
    (case vn9_7 => decide)
    (case vs9_8 => k_is)
    (case vn9_8 => decide)
    (case ke0 => k_is)
    (case ke1 => k_is)
    (case ke2 => k_is)
    (case ke3 => k_is)
    case dd0|dd1 => (repeat (refine' TX.KDs.mk (TX.KD.mk ?a ?l ?c ?k) ?_;(case a|l|c|k => first|delta TX.Lk;k_is|k_is)));trivial
    case zz => (repeat (refine TX.KZs.mk (by k_is) ?_));trivial

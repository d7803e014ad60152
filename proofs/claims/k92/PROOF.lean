import PyProof.Rows.All
import KE.KDictList
import KE.KSortTup
import KE.KTreeD
import KE.KTryMore
import KE.KUnpack
import Wide.FinOn
import PySem.Challenge.RW_twoglass_k92_refused_as_it_is
set_option Elab.async false
set_option linter.all false
set_option maxRecDepth 100000
section
open PySem PySem.W PyProof.Rows
theorem PySem.W.Fast.tw1615587314735348189 : True := trivial
theorem PySem.W.Fast.tw8186872211304786554 : True := trivial
theorem PySem.W.Fast.tw8736804733605291400 : True := trivial
theorem PySem.W.Fast.tw14585774028069651587 : True := trivial
theorem PySem.W.Fast.tw8422882985115364660 : True := trivial
theorem PySem.W.Fast.tw6949602186110001729 : True := trivial
theorem PySem.W.Fast.tw13718283893856960670 : True := trivial
theorem PySem.W.Fast.tw6403267849456107588 : True := trivial
theorem PySem.W.Fast.tw89790583811411849 : True := trivial
theorem PySem.W.Fast.tw14852381399967564784 : True := trivial
theorem PySem.W.Fast.tw2848213705910845532 : True := trivial
theorem PySem.W.Fast.tw8186553439279218255 : True := trivial
theorem PySem.W.Fast.tw17580593979634593186 : True := trivial
theorem PySem.W.Fast.tw10895363060214132086 : True := trivial
theorem PySem.W.Fast.tw4714070483798459121 : True := trivial
theorem PySem.W.Fast.tw14648013443488708681 : True := trivial
theorem PySem.W.Fast.tw15996624920367901878 : True := trivial
theorem PySem.W.Fast.tw1260713675645247437 : True := trivial
theorem PySem.W.Fast.tw1726902069585694320 : True := trivial
theorem PySem.W.Fast.tw6448361924191145154 : True := trivial
theorem PySem.W.Fast.tw18099130446173896588 : True := trivial
theorem PySem.W.Fast.tw9170931794587405378 : True := trivial
theorem PySem.W.Fast.tw9888029536236267787 : True := trivial
theorem PySem.W.Fast.tw4426337887967228867 : True := trivial
theorem PySem.W.Fast.tw12169436517599673945 : True := trivial
theorem PySem.W.Fast.tw16255474511270310578 : True := trivial
theorem PySem.W.Fast.tw6820539730272210021 : True := trivial
theorem PySem.W.Fast.tw2342431521558365135 : True := trivial
theorem PySem.W.Fast.tw13221796802604308718 : True := trivial
theorem PySem.W.Fast.tw7911100054112220030 : True := trivial
theorem PySem.W.Fast.tw12126912004365213805 : True := trivial
theorem PySem.W.Fast.tw11600561486539752005 : True := trivial
theorem PySem.W.Fast.tw10124182791629159617 : True := trivial
theorem PySem.W.Fast.tw11604157956117230849 : True := trivial
theorem PySem.W.Fast.tw17651013094738238480 : True := trivial
theorem PySem.W.Fast.tw1679314903564390079 : True := trivial
theorem PySem.W.Fast.tw2263797100381079950 : True := trivial
theorem PySem.W.Fast.tw3676208766329377895 : True := trivial
theorem PySem.W.Fast.tw13725324881819274203 : True := trivial
theorem PySem.W.Fast.tw15761696206680353331 : True := trivial
theorem PySem.W.Fast.tw14725483591752363143 : True := trivial
theorem PySem.W.Fast.tw13486093846042740469 : True := trivial
theorem PySem.W.Fast.tw16304543337480615290 : True := trivial
theorem PySem.W.Fast.tw1036849815828979941 : True := trivial
theorem PySem.W.Fast.tw17024487872699364362 : True := trivial
theorem PySem.W.Fast.tw3779780208560038741 : True := trivial
theorem PySem.W.Fast.tw18062886977527191239 : True := trivial
theorem PySem.W.Fast.tw15278886390969785236 : True := trivial
theorem PySem.W.Fast.tw4617754789482217564 : True := trivial
theorem PySem.W.Fast.tw5628961610720501271 : True := trivial
theorem PySem.W.Fast.tw2140107399411176241 : True := trivial
theorem PySem.W.Fast.tw12777696794365261139 : True := trivial
theorem PySem.W.Fast.tw12259068314748914820 : True := trivial
theorem PySem.W.Fast.tw15179990641431375196 : True := trivial
theorem PySem.W.Fast.tw11339066656014413365 : True := trivial
theorem PySem.W.Fast.tw12966537946922017700 : True := trivial
theorem PySem.W.Fast.tw11742587567420609834 : True := trivial
theorem PySem.W.Fast.tw11902982219885309721 : True := trivial
theorem PySem.W.Fast.tw6294980135221689641 : True := trivial
theorem PySem.W.Fast.tw13085321707570973189 : True := trivial
theorem PySem.W.Fast.tw18372166001381179035 : True := trivial
theorem PySem.W.Fast.tw4213468936688032609 : True := trivial
theorem PySem.W.Fast.tw16060527103381794604 : True := trivial
theorem PySem.W.Fast.tw4377545426031998411 : True := trivial
theorem PySem.W.Fast.tw15471540117497814305 : True := trivial
theorem PySem.W.Fast.tw4988956238791287413 : True := trivial
theorem PySem.W.Fast.tw4840839369853305947 : True := trivial
theorem PySem.W.Fast.tw11226297275169978702 : True := trivial
theorem PySem.W.Fast.tw16958422796001722428 : True := trivial
theorem PySem.W.Fast.tw4926223333358734260 : True := trivial
theorem PySem.W.Fast.tw4786628064098443348 : True := trivial
theorem PySem.W.Fast.tw6516946761112185453 : True := trivial
theorem PySem.W.Fast.tw8125663855326433959 : True := trivial
theorem PySem.W.Fast.tw4191368790953370300 : True := trivial
theorem PySem.W.Fast.tw8239847622612475405 : True := trivial
theorem PySem.W.Fast.tw1726272935099185279 : True := trivial
theorem PySem.W.Fast.tw11815800425079712371 : True := trivial
theorem PySem.W.Fast.tw17410398455544171912 : True := trivial
theorem PySem.W.Fast.tw1717263131174574636 : True := trivial
theorem PySem.W.Fast.tw1263315990915435779 : True := trivial
theorem PySem.W.Fast.tw10289835248622749790 : True := trivial
theorem PySem.W.Fast.tw166661212931654931 : True := trivial
theorem PySem.W.Fast.tw4674663121752763575 : True := trivial
theorem PySem.W.Fast.tw15512718225566741219 : True := trivial
theorem PySem.W.Fast.tw5399346148907867626 : True := trivial
theorem PySem.W.Fast.tw15482512487081905710 : True := trivial
theorem PySem.W.Fast.tw1746500224194029463 : True := trivial
theorem PySem.W.Fast.tw5961499590202664736 : True := trivial
theorem PySem.W.Fast.tw13714400827295339441 : True := trivial
theorem PySem.W.Fast.tw3281003104139385272 : True := trivial
theorem PySem.W.Fast.tw7712756930665727698 : True := trivial
theorem PySem.W.Fast.tw5221944435863796447 : True := trivial
theorem PySem.W.Fast.tw5924321520671478733 : True := trivial
theorem PySem.W.Fast.tw9153245478591282767 : True := trivial
theorem PySem.W.Fast.tw17134741150458064756 : True := trivial
theorem PySem.W.Fast.tw17493985861544597500 : True := trivial
theorem PySem.W.Fast.tw17260631800272547007 : True := trivial
theorem PySem.W.Fast.tw17229355329871989874 : True := trivial
theorem PySem.W.Fast.tw11675102158129067050 : True := trivial
theorem PySem.W.Fast.tw241417260636052425 : True := trivial
theorem PySem.W.Fast.tw978786278412140201 : True := trivial
theorem PySem.W.Fast.tw5244659664319309386 : True := trivial
theorem PySem.W.Fast.tw11869511186607071358 : True := trivial
theorem PySem.W.Fast.tw9875885523185462022 : True := trivial
theorem PySem.W.Fast.tw16709857371050481069 : True := trivial
theorem PySem.W.Fast.tw18289857458284997269 : True := trivial
theorem PySem.W.Fast.tw3619500697572562085 : True := trivial
theorem PySem.W.Fast.tw5937549033043054353 : True := trivial
theorem PySem.W.Fast.tw1679232489882407493 : True := trivial
theorem PySem.W.Fast.tw17175722991943570100 : True := trivial
theorem PySem.W.Fast.tw2652254238843021888 : True := trivial
theorem PySem.W.Fast.tw5925767950371917165 : True := trivial
theorem PySem.W.Fast.tw12783086857521632134 : True := trivial
theorem PySem.W.Fast.tw10960279101469054706 : True := trivial
theorem PySem.W.Fast.tw14002031802043203907 : True := trivial
theorem PySem.W.Fast.tw2495459034424316226 : True := trivial
theorem PySem.W.Fast.tw15317807265548597039 : True := trivial
theorem PySem.W.Fast.tw9078135129204175478 : True := trivial
theorem PySem.W.Fast.tw6406907012015509239 : True := trivial
theorem PySem.W.Fast.tw9636137686426748167 : True := trivial
theorem PySem.W.Fast.tw941641644038200655 : True := trivial
theorem PySem.W.Fast.tw14737925008473511625 : True := trivial
theorem PySem.W.Fast.tw2943912906171870112 : True := trivial
theorem PySem.W.Fast.tw12276835594836643156 : True := trivial
theorem PySem.W.Fast.tw11739162693045243803 : True := trivial
theorem PySem.W.Fast.tw2354281089446659065 : True := trivial
theorem PySem.W.Fast.tw13983254398551515993 : True := trivial
theorem PySem.W.Fast.tw4915225166375067192 : True := trivial
theorem PySem.W.Fast.tw13099979285176755849 : True := trivial
theorem PySem.W.Fast.tw5058632410874408382 : True := trivial
theorem PySem.W.Fast.tw13534369397908271244 : True := trivial
theorem PySem.W.Fast.tw17829706180062627650 : True := trivial
theorem PySem.W.Fast.tw674090689839273820 : True := trivial
theorem PySem.W.Fast.tw3737078505294175239 : True := trivial
theorem PySem.W.Fast.tw11833716045196540613 : True := trivial
theorem PySem.W.Fast.tw14840998027395015109 : True := trivial
theorem PySem.W.Fast.tw16298672827185272891 : True := trivial
theorem PySem.W.Fast.tw17032855842683199319 : True := trivial
theorem PySem.W.Fast.tw4392769463978647992 : True := trivial
theorem PySem.W.Fast.tw15311041641301611744 : True := trivial
theorem PySem.W.Fast.tw4116894077602473435 : True := trivial
theorem PySem.W.Fast.tw3527211695487574685 : True := trivial
theorem PySem.W.Fast.tw4231608153106548650 : True := trivial
theorem PySem.W.Fast.tw6806613437141389823 : True := trivial
theorem PySem.W.Fast.tw3073180936846723570 : True := trivial
theorem PySem.W.Fast.tw12173605230355784714 : True := trivial
theorem PySem.W.Fast.tw254859163714789275 : True := trivial
theorem PySem.W.Fast.tw8945888096203308347 : True := trivial
theorem PySem.W.Fast.tw13279601827728277542 : True := trivial
theorem PySem.W.Fast.tw1601736999799474989 : True := trivial
theorem PySem.W.Fast.tw14417153477246558504 : True := trivial
theorem PySem.W.Fast.tw4390664680931653955 : True := trivial
theorem PySem.W.Fast.tw16298701048086758270 : True := trivial
theorem PySem.W.Fast.tw9004762431472041238 : True := trivial
theorem PySem.W.Fast.tw7145499208277575320 : True := trivial
theorem PySem.W.Fast.tw12357907271385704363 : True := trivial
theorem PySem.W.Fast.tw6253270944287844009 : True := trivial
theorem PySem.W.Fast.tw13226624738782565839 : True := trivial
theorem PySem.W.Fast.tw1569064500160457497 : True := trivial
theorem PySem.W.Fast.tw10838484525839172879 : True := trivial
theorem PySem.W.Fast.tw66425753836094626 : True := trivial
theorem PySem.W.Fast.tw16823847203237374496 : True := trivial
theorem PySem.W.Fast.tw1897439317193188508 : True := trivial
theorem PySem.W.Fast.tw3655345009070623184 : True := trivial
theorem PySem.W.Fast.tw504076748676242763 : True := trivial
theorem PySem.W.Fast.tw12227314246220705813 : True := trivial
theorem PySem.W.Fast.tw5791292872128417053 : True := trivial
theorem PySem.W.Fast.tw17153220013085966168 : True := trivial
theorem PySem.W.Fast.tw12395399431564448707 : True := trivial
theorem PySem.W.Fast.tw13014445208726272078 : True := trivial
theorem PySem.W.Fast.tw3135908525408888891 : True := trivial
theorem PySem.W.Fast.tw1972136716588728622 : True := trivial
theorem PySem.W.Fast.tw14268269429874055731 : True := trivial
theorem PySem.W.Fast.tw4028717688119808651 : True := trivial
theorem PySem.W.Fast.tw9527962445368317513 : True := trivial
theorem PySem.W.Fast.tw15085583993968846597 : True := trivial
theorem PySem.W.Fast.tw1617127482561922054 : True := trivial
theorem PySem.W.Fast.tw16025428255169312929 : True := trivial
theorem PySem.W.Fast.tw498021529018112015 : True := trivial
theorem PySem.W.Fast.tw1154714756909966482 : True := trivial
theorem PySem.W.Fast.tw6789822123612296426 : True := trivial
theorem PySem.W.Fast.tw11034973100640577546 : True := trivial
theorem PySem.W.Fast.tw4439368194681155884 : True := trivial
theorem PySem.W.Fast.tw303288391854240642 : True := trivial
theorem PySem.W.Fast.tw2966676841412566867 : True := trivial
theorem PySem.W.Fast.tw2175804292567096032 : True := trivial
theorem PySem.W.Fast.tw10673375716182319466 : True := trivial
theorem PySem.W.Fast.tw14572092102361552840 : True := trivial
theorem PySem.W.Fast.tw8911987190208695228 : True := trivial
theorem PySem.W.Fast.tw13324599308314178436 : True := trivial
theorem PySem.W.Fast.tw7971279573129966519 : True := trivial
theorem PySem.W.Fast.tw8017048879888559946 : True := trivial
theorem PySem.W.Fast.tw4299526092408903644 : True := trivial
theorem PySem.W.Fast.tw17108846243451378562 : True := trivial
theorem PySem.W.Fast.tw5891325566758125312 : True := trivial
theorem PySem.W.Fast.tw14332034976661572049 : True := trivial
theorem PySem.W.Fast.tw14446798102901175160 : True := trivial
theorem PySem.W.Fast.tw11040533504851683577 : True := trivial
theorem PySem.W.Fast.tw10572942324345643143 : True := trivial
theorem PySem.W.Fast.tw14719654161316262782 : True := trivial
theorem PySem.W.Fast.tw8689874536845046815 : True := trivial
theorem PySem.W.Fast.tw13195737989051085269 : True := trivial
theorem PySem.W.Fast.tw1543367147513263456 : True := trivial
theorem PySem.W.Fast.tw7284162379598461374 : True := trivial
theorem PySem.W.Fast.tw16727388788476493531 : True := trivial
theorem PySem.W.Fast.tw16985097475569108260 : True := trivial
theorem PySem.W.Fast.tw5716005139068449139 : True := trivial
theorem PySem.W.Fast.tw6812264603054469509 : True := trivial
theorem PySem.W.Fast.tw15069259384273798051 : True := trivial
theorem PySem.W.Fast.tw886391818681928497 : True := trivial
theorem PySem.W.Fast.tw8703859997639033103 : True := trivial
theorem PySem.W.Fast.tw3875739599569814730 : True := trivial
theorem PySem.W.Fast.tw16471601222587393459 : True := trivial
theorem PySem.W.Fast.tw1091142889385257365 : True := trivial
theorem PySem.W.Fast.tw15526681137957881611 : True := trivial
theorem PySem.W.Fast.tw16844917824800154809 : True := trivial
theorem PySem.W.Fast.tw10485952650760371108 : True := trivial
theorem PySem.W.Fast.tw14724745246676013169 : True := trivial
theorem PySem.W.Fast.tw41470261007448473 : True := trivial
theorem PySem.W.Fast.tw755026190959642560 : True := trivial
theorem PySem.W.Fast.tw8484704648200468825 : True := trivial
theorem PySem.W.Fast.tw17484794211311958850 : True := trivial
theorem PySem.W.Fast.tw17570055859629729536 : True := trivial
theorem PySem.W.Fast.tw8399543879260581086 : True := trivial
theorem PySem.W.Fast.tw11423632898970758358 : True := trivial
theorem PySem.W.Fast.tw5563487949228483299 : True := trivial
theorem PySem.W.Fast.tw5360951201736524997 : True := trivial
theorem PySem.W.Fast.tw18095481278028618176 : True := trivial
theorem PySem.W.Fast.tw2648994470281075718 : True := trivial
theorem PySem.W.Fast.tw5347398399100138919 : True := trivial
theorem PySem.W.Fast.tw6510802809548213562 : True := trivial
theorem PySem.W.Fast.tw4836464785351811254 : True := trivial
theorem PySem.W.Fast.tw18286289037875051294 : True := trivial
theorem PySem.W.Fast.tw16676455534270448259 : True := trivial
theorem PySem.W.Fast.tw828177708317088483 : True := trivial
theorem PySem.W.Fast.tw13630766517423777835 : True := trivial
theorem PySem.W.Fast.tw9803586823412958437 : True := trivial
theorem PySem.W.Fast.tw6547953007530624049 : True := trivial
theorem PySem.W.Fast.tw10424765886143398323 : True := trivial
theorem PySem.W.Fast.tw3438823034758361392 : True := trivial
theorem PySem.W.Fast.tw9040666762645920452 : True := trivial
theorem PySem.W.Fast.tw7542674017757399736 : True := trivial
theorem PySem.W.Fast.tw11315396439336684637 : True := trivial
theorem PySem.W.Fast.tw2394760993182867522 : True := trivial
theorem PySem.W.Fast.tw1445683182021820157 : True := trivial
theorem PySem.W.Fast.tw9048638129814573152 : True := trivial
theorem PySem.W.Fast.tw10360544111439949727 : True := trivial
theorem PySem.W.Fast.tw5613045847994410359 : True := trivial
theorem PySem.W.Fast.tw1875138472030538045 : True := trivial
theorem PySem.W.Fast.tw388296711094053575 : True := trivial
theorem PySem.W.Fast.tw3097020259453004896 : True := trivial
theorem PySem.W.Fast.tw16470879454177336397 : True := trivial
theorem PySem.W.Fast.tw2208220313476390554 : True := trivial
theorem PySem.W.Fast.tw15229254313543862454 : True := trivial
theorem PySem.W.Fast.tw1499253801466753493 : True := trivial
theorem PySem.W.Fast.tw9263527938175730818 : True := trivial
theorem PySem.W.Fast.tw9584035476071962698 : True := trivial
theorem PySem.W.Fast.tw14456284496312164366 : True := trivial
theorem PySem.W.Fast.tw11689337157985060189 : True := trivial
theorem PySem.W.Fast.tw17756414131213488773 : True := trivial
theorem PySem.W.Fast.tw14840699468106417562 : True := trivial
theorem PySem.W.Fast.tw7643239033040095653 : True := trivial
theorem PySem.W.Fast.tw555395278085798614 : True := trivial
theorem PySem.W.Fast.tw5391824423847669497 : True := trivial
theorem PySem.W.Fast.tw15241026833861344537 : True := trivial
theorem PySem.W.Fast.tw11275443231011080269 : True := trivial
theorem PySem.W.Fast.tw17953483395031560055 : True := trivial
theorem PySem.W.Fast.tw16084784665201236082 : True := trivial
theorem PySem.W.Fast.tw7221002803033435887 : True := trivial
theorem PySem.W.Fast.tw12988978969520627952 : True := trivial
theorem PySem.W.Fast.tw15602170467221599608 : True := trivial
theorem PySem.W.Fast.tw207391978838878068 : True := trivial
theorem PySem.W.Fast.tw3572709618844283403 : True := trivial
theorem PySem.W.Fast.tw17843190793561187078 : True := trivial
theorem PySem.W.Fast.tw6346944666253373259 : True := trivial
theorem PySem.W.Fast.tw3308511378780614331 : True := trivial
theorem PySem.W.Fast.tw5423681160864403644 : True := trivial
theorem PySem.W.Fast.tw15522209185888231386 : True := trivial
theorem PySem.W.Fast.tw3962958411654657607 : True := trivial
theorem PySem.W.Fast.tw3564407737720215533 : True := trivial
theorem PySem.W.Fast.tw12418592067895914695 : True := trivial
theorem PySem.W.Fast.tw16718619236409220818 : True := trivial
theorem PySem.W.Fast.tw6737297599778269730 : True := trivial
theorem PySem.W.Fast.tw1379878275763301436 : True := trivial
theorem PySem.W.Fast.tw894235441882603689 : True := trivial
theorem PySem.W.Fast.tw10188804307254477880 : True := trivial
theorem PySem.W.Fast.tw5092488689302170945 : True := trivial
theorem PySem.W.Fast.tw8343813839925025125 : True := trivial
theorem PySem.W.Fast.tw8767962510314029200 : True := trivial
theorem PySem.W.Fast.tw145149694637832639 : True := trivial
theorem PySem.W.Fast.tw11542894517249355797 : True := trivial
theorem PySem.W.Fast.tw2801158440164897781 : True := trivial
theorem PySem.W.Fast.tw11327536533010983498 : True := trivial
theorem PySem.W.Fast.tw27858390501564451 : True := trivial
theorem PySem.W.Fast.tw8420563678169896641 : True := trivial
theorem PySem.W.Fast.tw5156089138160157776 : True := trivial
theorem PySem.W.Fast.tw4100157060908695962 : True := trivial
theorem PySem.W.Fast.tw6317548670180090161 : True := trivial
theorem PySem.W.Fast.tw10716890724471252483 : True := trivial
theorem PySem.W.Fast.tw15662797419963263500 : True := trivial
theorem PySem.W.Fast.tw13762579881647734463 : True := trivial
theorem PySem.W.Fast.tw4949508915723718337 : True := trivial
theorem PySem.W.Fast.tw4699846821060559649 : True := trivial
theorem PySem.W.Fast.tw1889696807981653873 : True := trivial
theorem PySem.W.Fast.tw11339299360913853707 : True := trivial
theorem PySem.W.Fast.tw14157059457274192806 : True := trivial
theorem PySem.W.Fast.tw3425566460048842313 : True := trivial
theorem PySem.W.Fast.tw6968634622123849485 : True := trivial
theorem PySem.W.Fast.tw2368639427675365699 : True := trivial
theorem PySem.W.Fast.tw16937241371372261176 : True := trivial
theorem PySem.W.Fast.tw9609804913224132866 : True := trivial
theorem PySem.W.Fast.tw9633301457312056493 : True := trivial
theorem PySem.W.Fast.tw5907801640064221605 : True := trivial
theorem PySem.W.Fast.tw9691544993056911187 : True := trivial
theorem PySem.W.Fast.tw2451982729190077771 : True := trivial
theorem PySem.W.Fast.tw15904111435870135975 : True := trivial
theorem PySem.W.Fast.tw5936198245575715668 : True := trivial
theorem PySem.W.Fast.tw9020913026559242752 : True := trivial
theorem PySem.W.Fast.tw1531830194443391262 : True := trivial
theorem PySem.W.Fast.tw12154010737029799226 : True := trivial
theorem PySem.W.Fast.tw3767157738661795790 : True := trivial
theorem PySem.W.Fast.tw1943951187196850599 : True := trivial
theorem PySem.W.Fast.tw2440389516146739138 : True := trivial
theorem PySem.W.Fast.tw2951938294667353933 : True := trivial
theorem PySem.W.Fast.tw5689468584645088470 : True := trivial
theorem PySem.W.Fast.tw10547631291577980017 : True := trivial
theorem PySem.W.Fast.tw9209243141755001807 : True := trivial
theorem PySem.W.Fast.tw2186291139406123711 : True := trivial
theorem PySem.W.Fast.tw15197871939171117739 : True := trivial
theorem PySem.W.Fast.tw14448426735593049354 : True := trivial
theorem PySem.W.Fast.tw12543568954573835379 : True := trivial
theorem PySem.W.Fast.tw836045783349109228 : True := trivial
theorem PySem.W.Fast.tw18392182723081834861 : True := trivial
theorem PySem.W.Fast.tw6929018737638915163 : True := trivial
theorem PySem.W.Fast.tw9241867012960297111 : True := trivial
theorem PySem.W.Fast.tw9979903992096281543 : True := trivial
theorem PySem.W.Fast.tw1003000300433353932 : True := trivial
theorem PySem.W.Fast.tw7503989185465342616 : True := trivial
theorem PySem.W.Fast.tw5032282250617726276 : True := trivial
theorem PySem.W.Fast.tw3193306110202385591 : True := trivial
theorem PySem.W.Fast.tw12021324921639128645 : True := trivial
theorem PySem.W.Fast.tw9355519021306907287 : True := trivial
theorem PySem.W.Fast.tw13540370560500847963 : True := trivial
theorem PySem.W.Fast.tw16023071071057063056 : True := trivial
theorem PySem.W.Fast.tw10443698755802045857 : True := trivial
theorem PySem.W.Fast.tw11005054528257661995 : True := trivial
theorem PySem.W.Fast.tw2236150575497359170 : True := trivial
theorem PySem.W.Fast.tw9706047722672013876 : True := trivial
theorem PySem.W.Fast.tw8156267384980334211 : True := trivial
theorem PySem.W.Fast.tw16482960919171332341 : True := trivial
theorem PySem.W.Fast.tw12790644303030164148 : True := trivial
theorem PySem.W.Fast.tw16503785801015299401 : True := trivial
theorem PySem.W.Fast.tw6521046836766980517 : True := trivial
theorem PySem.W.Fast.tw9769966283458952757 : True := trivial
theorem PySem.W.Fast.tw13119056938495412274 : True := trivial
theorem PySem.W.Fast.tw15818709597442447195 : True := trivial
theorem PySem.W.Fast.tw1680199466536727663 : True := trivial
theorem PySem.W.Fast.tw7372142273279607934 : True := trivial
theorem PySem.W.Fast.tw17665239736244840629 : True := trivial
theorem PySem.W.Fast.tw5000812283308270619 : True := trivial
theorem PySem.W.Fast.tw4372723572662096418 : True := trivial
theorem PySem.W.Fast.tw3016257600216780551 : True := trivial
theorem PySem.W.Fast.tw1226025642503830832 : True := trivial
theorem PySem.W.Fast.tw11136474436867295676 : True := trivial
theorem PySem.W.Fast.tw16736222444108096196 : True := trivial
theorem PySem.W.Fast.tw10795528679236637831 : True := trivial
theorem PySem.W.Fast.tw15732676041189737140 : True := trivial
theorem PySem.W.Fast.tw17135756804049989066 : True := trivial
theorem PySem.W.Fast.tw10541329653459041554 : True := trivial
theorem PySem.W.Fast.tw4028093664359870768 : True := trivial
theorem PySem.W.Fast.tw6808641749094442756 : True := trivial
theorem PySem.W.Fast.tw5464373754527792371 : True := trivial
theorem PySem.W.Fast.tw12417487817350108908 : True := trivial
theorem PySem.W.Fast.tw1737971610514051124 : True := trivial
theorem PySem.W.Fast.tw5760807373371444665 : True := trivial
theorem PySem.W.Fast.tw1991751508530211437 : True := trivial
theorem PySem.W.Fast.tw6981190265269957528 : True := trivial
theorem PySem.W.Fast.tw7477015827057224627 : True := trivial
theorem PySem.W.Fast.tw11672384619852812829 : True := trivial
theorem PySem.W.Fast.tw2637526784028345829 : True := trivial
theorem PySem.W.Fast.tw7229655363268620218 : True := trivial
theorem PySem.W.Fast.tw6546597550373667265 : True := trivial
theorem PySem.W.Fast.tw7346934097023242118 : True := trivial
theorem PySem.W.Fast.tw6231043806231823445 : True := trivial
theorem PySem.W.Fast.tw15753019178310665486 : True := trivial
theorem PySem.W.Fast.tw4030287899507067279 : True := trivial
theorem PySem.W.Fast.tw16755492789777019941 : True := trivial
theorem PySem.W.Fast.tw17722420845145212485 : True := trivial
theorem PySem.W.Fast.tw4427337616441163663 : True := trivial
theorem PySem.W.Fast.tw4325896423045124429 : True := trivial
theorem PySem.W.Fast.tw18346631526432347601 : True := trivial
theorem PySem.W.Fast.tw8679416540812674391 : True := trivial
theorem PySem.W.Fast.tw13405695968972257895 : True := trivial
theorem PySem.W.Fast.tw8149225129433069594 : True := trivial
theorem PySem.W.Fast.tw15714620652702798973 : True := trivial
theorem PySem.W.Fast.tw14316143359252712373 : True := trivial
theorem PySem.W.Fast.tw4887886583627438945 : True := trivial
theorem PySem.W.Fast.tw200490723690283771 : True := trivial
theorem PySem.W.Fast.tw11073329434237875120 : True := trivial
theorem PySem.W.Fast.tw865620259344672072 : True := trivial
theorem PySem.W.Fast.tw17659505606016108997 : True := trivial
theorem PySem.W.Fast.tw1759605056441340739 : True := trivial
theorem PySem.W.Fast.tw15707601948735089130 : True := trivial
theorem PySem.W.Fast.tw11502667936715081132 : True := trivial
theorem PySem.W.Fast.tw14781297433688267700 : True := trivial
theorem PySem.W.Fast.tw4078421998675172054 : True := trivial
theorem PySem.W.Fast.tw4984672463313574910 : True := trivial
theorem PySem.W.Fast.tw15904620962295665988 : True := trivial
theorem PySem.W.Fast.tw17131381164426545570 : True := trivial
theorem PySem.W.Fast.tw10077526145336848388 : True := trivial
theorem PySem.W.Fast.tw12167022947259912422 : True := trivial
theorem PySem.W.Fast.tw1423187426507276431 : True := trivial
theorem PySem.W.Fast.tw15369262030186740960 : True := trivial
theorem PySem.W.Fast.tw377761831688806382 : True := trivial
theorem PySem.W.Fast.tw11255460511596019957 : True := trivial
theorem PySem.W.Fast.tw2688741134515742245 : True := trivial
theorem PySem.W.Fast.tw15898018646910028181 : True := trivial
theorem PySem.W.Fast.tw13521824726714733556 : True := trivial
theorem PySem.W.Fast.tw16503786709314844593 : True := trivial
theorem PySem.W.Fast.tw12208094121105045023 : True := trivial
theorem PySem.W.Fast.tw16814255763096564364 : True := trivial
theorem PySem.W.Fast.tw12078477875183848333 : True := trivial
theorem PySem.W.Fast.tw5584751218764483107 : True := trivial
theorem PySem.W.Fast.tw7866801361689540487 : True := trivial
theorem PySem.W.Fast.tw5044947979752554147 : True := trivial
theorem PySem.W.Fast.tw10236176672641681574 : True := trivial
theorem PySem.W.Fast.tw4579880996985992677 : True := trivial
theorem PySem.W.Fast.tw3930151821983734398 : True := trivial
theorem PySem.W.Fast.tw5461805460192168814 : True := trivial
theorem PySem.W.Fast.tw9545205825984336096 : True := trivial
theorem PySem.W.Fast.tw13378669307337243826 : True := trivial
theorem PySem.W.Fast.tw13811806803133017934 : True := trivial
theorem PySem.W.Fast.tw5413572252616240934 : True := trivial
theorem PySem.W.Fast.tw10880921468587850658 : True := trivial
theorem PySem.W.Fast.tw10833872739516303026 : True := trivial
theorem PySem.W.Fast.tw4298089262635774483 : True := trivial
theorem PySem.W.Fast.tw6814081774717546823 : True := trivial
theorem PySem.W.Fast.tw7062296570130502258 : True := trivial
theorem PySem.W.Fast.tw3359876896904969026 : True := trivial
theorem PySem.W.Fast.tw11359594206053817971 : True := trivial
theorem PySem.W.Fast.tw15116271815530685796 : True := trivial
theorem PySem.W.Fast.tw1922832143145086614 : True := trivial
theorem PySem.W.Fast.tw7223309694221845354 : True := trivial
theorem PySem.W.Fast.tw12794874848266795750 : True := trivial
theorem PySem.W.Fast.tw14986017839208180308 : True := trivial
theorem PySem.W.Fast.tw16629746881343021141 : True := trivial
theorem PySem.W.Fast.tw5361498052921658817 : True := trivial
theorem PySem.W.Fast.tw1238770400726761249 : True := trivial
theorem PySem.W.Fast.tw5854141937045508410 : True := trivial
theorem PySem.W.Fast.tw3055952579984027616 : True := trivial
theorem PySem.W.Fast.tw2670824618230434931 : True := trivial
theorem PySem.W.Fast.tw9757861834475734998 : True := trivial
theorem PySem.W.Fast.tw11292619682591897732 : True := trivial
theorem PySem.W.Fast.tw4248768180539075577 : True := trivial
theorem PySem.W.Fast.tw4533594154436664038 : True := trivial
theorem PySem.W.Fast.tw3534143815569931861 : True := trivial
theorem PySem.W.Fast.tw3916043242243652678 : True := trivial
theorem PySem.W.Fast.tw4886564365454370869 : True := trivial
theorem PySem.W.Fast.tw5892242155927449772 : True := trivial
theorem PySem.W.Fast.tw9340724312377604315 : True := trivial
theorem PySem.W.Fast.tw7661385840604505459 : True := trivial
theorem PySem.W.Fast.tw7527094030818476559 : True := trivial
theorem PySem.W.Fast.tw15605899019199421646 : True := trivial
theorem PySem.W.Fast.tw9150734931824901748 : True := trivial
theorem PySem.W.Fast.tw6699297185793591886 : True := trivial
theorem PySem.W.Fast.tw12865934695789792493 : True := trivial
theorem PySem.W.Fast.tw682141522899738102 : True := trivial
theorem PySem.W.Fast.tw5251533367133922694 : True := trivial
theorem PySem.W.Fast.tw45059687854650024 : True := trivial
theorem PySem.W.Fast.tw18397018455123807800 : True := trivial
theorem PySem.W.Fast.tw7108554206041766836 : True := trivial
theorem PySem.W.Fast.tw6451441686549074945 : True := trivial
theorem PySem.W.Fast.tw13927770002720408729 : True := trivial
theorem PySem.W.Fast.tw16419598499028503744 : True := trivial
theorem PySem.W.Fast.tw17216876611530683036 : True := trivial
theorem PySem.W.Fast.tw18399921725277606278 : True := trivial
theorem PySem.W.Fast.tw14830026942519956266 : True := trivial
theorem PySem.W.Fast.tw14174622368130079908 : True := trivial
theorem PySem.W.Fast.tw14142927517810540121 : True := trivial
theorem PySem.W.Fast.tw14348002224462149707 : True := trivial
theorem PySem.W.Fast.tw15435886088025709714 : True := trivial
theorem PySem.W.Fast.tw16714968284725155746 : True := trivial
theorem PySem.W.Fast.tw14545296439412335093 : True := trivial
theorem PySem.W.Fast.tw6875315805104164409 : True := trivial
theorem PySem.W.Fast.tw5154731474183955017 : True := trivial
theorem PySem.W.Fast.tw8820363658223733598 : True := trivial
theorem PySem.W.Fast.tw11093123534025309193 : True := trivial
theorem PySem.W.Fast.tw7839521117782292056 : True := trivial
theorem PySem.W.Fast.tw4743964453294076960 : True := trivial
theorem PySem.W.Fast.tw8646979892630497937 : True := trivial
theorem PySem.W.Fast.tw16453497624537648735 : True := trivial
theorem PySem.W.Fast.tw2604926207532870831 : True := trivial
theorem PySem.W.Fast.tw3603289203842905391 : True := trivial
theorem PySem.W.Fast.tw9923954121457601475 : True := trivial
theorem PySem.W.Fast.tw1693685122751835082 : True := trivial
theorem PySem.W.Fast.tw13526222400964790394 : True := trivial
theorem PySem.W.Fast.tw6729380197920989269 : True := trivial
theorem PySem.W.Fast.tw5500685804513953131 : True := trivial
theorem PySem.W.Fast.tw13317360840405019326 : True := trivial
theorem PySem.W.Fast.tw1028232019302658709 : True := trivial
theorem PySem.W.Fast.tw17623581103674560556 : True := trivial
theorem PySem.W.Fast.tw10849902601666110783 : True := trivial
theorem PySem.W.Fast.tw7556559275579280439 : True := trivial
theorem PySem.W.Fast.tw2315150772342257746 : True := trivial
theorem PySem.W.Fast.tw14799400127115720603 : True := trivial
theorem PySem.W.Fast.tw7734504740355684951 : True := trivial
theorem PySem.W.Fast.tw12358644835679750691 : True := trivial
theorem PySem.W.Fast.tw12976883865661912478 : True := trivial
theorem PySem.W.Fast.tw7654235727392330777 : True := trivial
theorem PySem.W.Fast.tw4997990882479645124 : True := trivial
theorem PySem.W.Fast.tw7333415723218295008 : True := trivial
theorem PySem.W.Fast.tw11303492917705631276 : True := trivial
theorem PySem.W.Fast.tw8703836736859000067 : True := trivial
theorem PySem.W.Fast.tw3132064442942995090 : True := trivial
theorem PySem.W.Fast.tw4731798108965556707 : True := trivial
theorem PySem.W.Fast.tw13683831010395534470 : True := trivial
theorem PySem.W.Fast.tw8874496933268638090 : True := trivial
theorem PySem.W.Fast.tw3374119826273935420 : True := trivial
theorem PySem.W.Fast.tw2254109175345668230 : True := trivial
theorem PySem.W.Fast.tw1412355161110456684 : True := trivial
theorem PySem.W.Fast.tw7651157065482029782 : True := trivial
theorem PySem.W.Fast.tw14369848828871083478 : True := trivial
theorem PySem.W.Fast.tw1230437314857462256 : True := trivial
theorem PySem.W.Fast.tw5068399267511463687 : True := trivial
theorem PySem.W.Fast.tw5323716636880319971 : True := trivial
theorem PySem.W.Fast.tw8703850792805278273 : True := trivial
theorem PySem.W.Fast.tw4818169272991092841 : True := trivial
theorem PySem.W.Fast.tw10499251266509106179 : True := trivial
theorem PySem.W.Fast.tw4246762233911467749 : True := trivial
theorem PySem.W.Fast.tw8220242958435004783 : True := trivial
theorem PySem.W.Fast.tw2586071643452250704 : True := trivial
theorem PySem.W.Fast.tw18188072200538774871 : True := trivial
theorem PySem.W.Fast.tw17261846832177623803 : True := trivial
theorem PySem.W.Fast.tw15437734906869888753 : True := trivial
theorem PySem.W.Fast.tw2925528953953788039 : True := trivial
theorem PySem.W.Fast.tw14574439557159526886 : True := trivial
theorem PySem.W.Fast.tw10242912869714422228 : True := trivial
theorem PySem.W.Fast.tw6359986314080546054 : True := trivial
theorem PySem.W.Fast.tw13472835118105723737 : True := trivial
theorem PySem.W.Fast.tw15656867281388116068 : True := trivial
theorem PySem.W.Fast.tw13435057442037222802 : True := trivial
theorem PySem.W.Fast.tw3469933931301179487 : True := trivial
theorem PySem.W.Fast.tw18123098204952203704 : True := trivial
theorem PySem.W.Fast.tw1613059624886309513 : True := trivial
theorem PySem.W.Fast.tw971583965237547967 : True := trivial
theorem PySem.W.Fast.tw5271836617431432526 : True := trivial
theorem PySem.W.Fast.tw5250014962306519482 : True := trivial
theorem PySem.W.Fast.tw5244060024145111840 : True := trivial
theorem PySem.W.Fast.tw13460355563887725791 : True := trivial
theorem PySem.W.Fast.tw10041432238622422230 : True := trivial
theorem PySem.W.Fast.tw9420595790775587545 : True := trivial
theorem PySem.W.Fast.tw4270577402253863133 : True := trivial
theorem PySem.W.Fast.tw11226351714649802270 : True := trivial
theorem PySem.W.Fast.tw2691116450040068218 : True := trivial
theorem PySem.W.Fast.tw12568233328891860000 : True := trivial
theorem PySem.W.Fast.tw5304521627055244476 : True := trivial
theorem PySem.W.Fast.tw4108797245444489192 : True := trivial
theorem PySem.W.Fast.tw15676216010918534617 : True := trivial
theorem PySem.W.Fast.tw12670138642952953329 : True := trivial
theorem PySem.W.Fast.tw16404400724540812998 : True := trivial
theorem PySem.W.Fast.tw2030722409901433177 : True := trivial
theorem PySem.W.Fast.tw2130986484812650454 : True := trivial
theorem PySem.W.Fast.tw18071676516619978650 : True := trivial
theorem PySem.W.Fast.tw7509529281963822084 : True := trivial
theorem PySem.W.Fast.tw2283696519792207663 : True := trivial
theorem PySem.W.Fast.tw12752100539920639099 : True := trivial
theorem PySem.W.Fast.tw2381131471172672684 : True := trivial
theorem PySem.W.Fast.tw2920683262084246429 : True := trivial
theorem PySem.W.Fast.tw4720466177954565940 : True := trivial
theorem PySem.W.Fast.tw17483009166893066776 : True := trivial
theorem PySem.W.Fast.tw11177663601724722292 : True := trivial
theorem PySem.W.Fast.tw2992656925484290546 : True := trivial
theorem PySem.W.Fast.tw4515332603769208242 : True := trivial
theorem PySem.W.Fast.tw11146692140855976999 : True := trivial
theorem PySem.W.Fast.tw10566556665992508955 : True := trivial
theorem PySem.W.Fast.tw13755867820047444086 : True := trivial
theorem PySem.W.Fast.tw11499615504669647856 : True := trivial
theorem PySem.W.Fast.tw526395949293704733 : True := trivial
theorem PySem.W.Fast.tw15971975633163112316 : True := trivial
theorem PySem.W.Fast.tw12504028675684146027 : True := trivial
theorem PySem.W.Fast.tw10411598957701233992 : True := trivial
theorem PySem.W.Fast.tw1951632297714895975 : True := trivial
theorem PySem.W.Fast.tw16803524039877345692 : True := trivial
theorem PySem.W.Fast.tw1733303049301923820 : True := trivial
theorem PySem.W.Fast.tw9086876721534525602 : True := trivial
theorem PySem.W.Fast.tw6777024952339500987 : True := trivial
theorem PySem.W.Fast.tw6889034673015011394 : True := trivial
theorem PySem.W.Fast.tw11042824281140492860 : True := trivial
theorem PySem.W.Fast.tw15772568665844042586 : True := trivial
theorem PySem.W.Fast.tw16235931247422454957 : True := trivial
theorem PySem.W.Fast.tw3132286034310397463 : True := trivial
theorem PySem.W.Fast.tw3684026691588410772 : True := trivial
theorem PySem.W.Fast.tw8737137264804363725 : True := trivial
theorem PySem.W.Fast.tw12905745145423461539 : True := trivial
theorem PySem.W.Fast.tw16449635479838144327 : True := trivial
theorem PySem.W.Fast.tw16973765511260705605 : True := trivial
theorem PySem.W.Fast.tw2395875799295035320 : True := trivial
theorem PySem.W.Fast.tw4368420992554833235 : True := trivial
theorem PySem.W.Fast.tw1816721973630440249 : True := trivial
theorem PySem.W.Fast.tw15707991966932617657 : True := trivial
theorem PySem.W.Fast.tw14807757234686244185 : True := trivial
theorem PySem.W.Fast.tw3686333418692611451 : True := trivial
theorem PySem.W.Fast.tw2499202817022666077 : True := trivial
theorem PySem.W.Fast.tw14083796099216580601 : True := trivial
theorem PySem.W.Fast.tw6776120082310329482 : True := trivial
theorem PySem.W.Fast.tw12543147470956631540 : True := trivial
theorem PySem.W.Fast.tw13684235104916131966 : True := trivial
theorem PySem.W.Fast.tw14149586094007134058 : True := trivial
theorem PySem.W.Fast.tw609202194999491646 : True := trivial
theorem PySem.W.Fast.tw6964717219847136581 : True := trivial
theorem PySem.W.Fast.tw13216137683554124742 : True := trivial
theorem PySem.W.Fast.tw578504645814909164 : True := trivial
theorem PySem.W.Fast.tw10940526909698541140 : True := trivial
theorem PySem.W.Fast.tw13240299340781904891 : True := trivial
theorem PySem.W.Fast.tw8259402855395826523 : True := trivial
theorem PySem.W.Fast.tw4880763456329200022 : True := trivial
theorem PySem.W.Fast.tw14228120009557572394 : True := trivial
theorem PySem.W.Fast.tw5136260971626445256 : True := trivial
theorem PySem.W.Fast.tw10221512302841831011 : True := trivial
theorem PySem.W.Fast.tw10870794419638028523 : True := trivial
theorem PySem.W.Fast.tw10787859844498426821 : True := trivial
theorem PySem.W.Fast.tw6522782066532429244 : True := trivial
theorem PySem.W.Fast.tw16069356970652834200 : True := trivial
theorem PySem.W.Fast.tw10823355878399393258 : True := trivial
theorem PySem.W.Fast.tw10716322650860757708 : True := trivial
theorem PySem.W.Fast.tw258289062489392046 : True := trivial
theorem PySem.W.Fast.tw6800825666494096089 : True := trivial
theorem PySem.W.Fast.tw6611976983938749332 : True := trivial
theorem PySem.W.Fast.tw1303234055012097194 : True := trivial
theorem PySem.W.Fast.tw15677965491806538531 : True := trivial
theorem PySem.W.Fast.tw7075719044997206994 : True := trivial
theorem PySem.W.Fast.tw7913728361201717218 : True := trivial
theorem PySem.W.Fast.tw14478166262535510992 : True := trivial
theorem PySem.W.Fast.tw7934186530496178907 : True := trivial
set_option maxHeartbeats 0 in
open_top hd92 for PySem.Challenge.rw_twoglass_k92_refused_as_it_is
end
local macro_rules|`(tactic|omega)=>`(tactic|first|lia|omega (config:={}))
open List renaming filterMap_cons→Qj,mem_cons_self→Qk,mem_cons_of_mem→Ql,mem_append_left→Qm,getElem?_set_self→Qn,getElem?_set_ne→Qo,mem_append_right→Qr,size_toArray→Qs,any_eq_false→Qt,length_cons→Qv,map_cons→Qw,length_map→Qx,append_nil→QB,of_mem_zip→QD,length_take→QE,getElem?_append_right→QF,getElem?_replicate→QG,getElem?_append_left→QH,getElem?_map→QI,mem_of_getElem?→QJ,length_append→QK,length_drop→QM,length_singleton→QQ,map_nil→QR,find?_cons→QS,length_nil→QT,any_cons→QU,lookup_cons→QW,forIn_cons→QX,cons_append→QZ,take_zero→Ra,take_succ_cons→Rb,drop_zero→Rc,drop_succ_cons→Rf,all_cons→Rg,range_succ_eq_map→Rh,getElem?_eq_getElem→Ri,getElem_of_mem→Rn,nil_append→Ro,map_congr_left→Rp,map_append→Rq,length_range→Rr,take_length→Rt,getElem?_range→Rv,drop_eq_getElem_cons→Rw,append_assoc→Rx,mem_cons→Rz,not_mem_nil→RB,getElem?_cons_zero→RC,getElem?_cons_succ→RD,zip_cons_cons→RJ,contains_cons→RK,nodup_append→RM,replicate_zero→RO,any_map→RP,zip_nil_right→RQ,replicate_succ→RT,foldl_cons→RU,mem_nil_iff→RY,map_map→RZ,getElem?_eq_none→R0,filter_cons_of_pos→R1,filter_cons_of_neg→R3,getD_eq_getElem?_getD→R4,take_of_length_le→R5,set_cons_zero→R6,set_cons_succ→R7,any_nil→R9,foldl_nil→Sd,getElem_map→Se,mem_map_of_mem→Sf
open Int renaming toNat_natCast→QL,emod_nonneg→Sa,emod_lt_of_pos→Sb,eq_ofNat_of_zero_le→Si
open Nat renaming lt_of_lt_of_le→Qe,lt_irrefl→Qf,ne_of_lt→Qg,le_trans→Qh,le_of_lt→Qi,ne_of_gt→Qp,le_refl→Qq,le_of_eq→Qy,lt_succ_self→Qz,zero_le→QA,le_succ→QC,lt_trans→QV,min_self→Rj,sub_zero→Ru,le_add_right→RE,add_lt_add_left→RF,lt_add_of_pos_right→RG,zero_add→RH,sub_self→RN
open Bool renaming false_ne_true→Qu,and_eq_true→QN,or_false→QO,false_eq_true→QY,and_true→Rk,and_false→Rl,or_eq_true→Rm,or_eq_false_iff→RL,not_true→RV,or_true→RW,not_eq_true'→RX,not_false→R8,and_self→Sg,or_self→Sh
open Option renaming getD_none→QP,getD_some→Ry
open PySem renaming Value→T5,NameKind→T6,Addr→T7,Expr→T8,Stmt→T9,Shared→Ua,World→Ub,Program→Uc,Paired→Ud,Heap→Ue,sizeLine→Ug,mainGlobals→Uh,bootBuiltins→Ui,Around→Uj,Scope→Uk,Model→Ul,wpAny→Um,starEach→Uo,wpAny_mono→Up,CmpOp→Uq,compareOp→Ur,behindInMarks→Us,wpAny_truthy_bool→Ut,wpAny_execs_nil→Uu,wpAny_pure→Uv,wpAny_bind→Uw,wpAny_pyIter_list→Ux,PassesOwn→Uy,foldedSetIterable→Uz,wpAny_passesOwn→UA,binaryOp→UB,sizeLine_eq→UC,wpAny_loadPart→UD,wpAny_lookBehind→UE,pastItsLine_dict→UG,Result→UH,codeAny→UI,attributeBase→UJ,plainObj_wpAny_Assign_Attribute→UK,callWith→UL,keywordEach→UM,recursionLimit→UN,cLine→UO,FuncData→UP,BindsTo→UQ,wpAny_call→UR,codeAny_mono→UT,wpAny_Call_Name_kw→UU,Keyword→UV,wpAny_standAt→UW,wpAny_newFunctionEnv_cells→UX,concat_meets→UY,noFill_tuple_add→UZ,seq_tuple_add→U0,IsPart→U1,wpAny_field→U2,wpAny_holding→U3,wpAny_callSpecial?_slot→U4,wpAny_call_entry→U5,wpAny_typeOf→U6,wpAny_newObj_type→U7,wpAny_comprehension_free→U8,wpAny_rule→U9,wpAny_getItem_str_slice→Va,post_val_or_str→Vb,wpAny_seqItems→Vc,IsZip→Vd,IsPair→Ve,wpAny_setField_rec→Vf,wpAny_onRaise→Vg,wpAny_updateSeq_pair→Vh,wpAny_letGo→Vi,wpAny_attempt→Vj,codeAny_call_builtin→Vk,codeAny_builtin→Vn,wpAny_tryCatch→Vp,wpAny_updateSeq→Vq,plainId_quiet→Vr,ExcBaseFacts→Vs,wpAny_loadPart_at→Vt
open PySem.W renaming instObj→Sj,methodObj→Sl,Frag→Sn,lookIn→Sq,plainGet→Sr,hasDictIn→Ss,findIn→Su,handedIn→Sv,plainGet_of→Sw,isFn→Sx,plainOver→Sy,takerIn→Sz,any_some→SA,makesIn→SD,typeIn→SE,InitBack→SG,emptyDict→SH,make_core→SJ,makes_of→SK,looks_findIn→SL,Looks→SM,keepIn→SN,callWith_K→SR,cellsFrom_some→SU,fnOf→SV,codeIn→SW,codeRec_of→SY,OpenLaw→SZ,nsIn→S0,notCls→S3,kitOne→S4,kia_one→S5,clsIn→S6,instIn→S8,subIn→S9,specialIn→Tb,takesIn→Tc,mroIn→Td,isIn→Te,excIn→Tf,isNs_of_in→Tg,tail_of_in→Th,exmOne→Ti,kitCls→Tj,callWith_K0→Tl,mg_of→Tn,any_some→Vl,looks_findIn→Vm,Looks→Vo
open PySem.Heap renaming lt_size→To,get?_none_of_le→Tp,SameBut→Tq,get?_push_of_some→Tr,get?_push_size→Ts,size_push→Tt,get?_update_other→Tu,FlyingW→Tv,get?_update_self→Tw,get?_update_ne→Tx,get?_push_at→Tz,MadeExcOf→TB
open PyProof.Rows renaming callWith_type1→TC,slot_tuple_getitem→TF,envOfC→TH,IsTup→TJ,Call_→TK,boot_str→TN,boot_tuple→TQ
open PySem.F renaming slot_tuple_add→TR,entry_tuple_add→TU,args_tuple_add_2→TV,slot_list_index→TY,slot_list_count→TZ,excBase_ValueError→T2,plainAttrs_list→T3
set_option maxHeartbeats 1000000
local macro_rules | `(‹2›)=>`(⟨rfl, rfl, rfl, by decide +kernel, rfl, by decide +kernel, by decide +kernel⟩)
local macro_rules | `(‹0›)=>`(by omega)
namespace L2
open PySem PySem.Spec PyProof.Rows
noncomputable abbrev fZ:=List (Option Nat)
noncomputable abbrev bU:=Str->Option T5
noncomputable abbrev pR:=List (Str×T6)
noncomputable abbrev iq:=Option T7
noncomputable abbrev aU:=List (T7×Obj)
noncomputable abbrev mV:=List (Str×T7)
noncomputable abbrev bi:=List T8
noncomputable abbrev dE:=List T9
noncomputable abbrev aS:=List T5
noncomputable abbrev aH:=List T7
noncomputable abbrev dr:=Option Int
noncomputable abbrev bL:=T5->Ua->Prop
noncomputable abbrev gZ:=Ua->Prop
noncomputable abbrev ax:=List Str
noncomputable abbrev Key:=Sum Int Str
noncomputable def su:Key->T5->Bool
 |.inl k,v=>Value.isInt k v
 |.inr x,v=>Value.isStrOf x v
noncomputable def K3(w:Ub):Key->Int
 |.inl k=>hashInt k
 |.inr x=>hashStr w x
theorem cE:∀{k:Key}{v:T5},su k v=true->(∃i t,k=Sum.inl i/\v=Value.int i t)\/(∃x t,k=Sum.inr x/\v=Value.str x t)
 |.inl i,v,h=>by
  obtain⟨t,e⟩:=Value.isInt_shape (k:=i) (v:=v) h;exact .inl ⟨i,t,rfl,e⟩
 |.inr x,v,h=>by
  obtain⟨t,e⟩:=Value.isStrOf_shape (x:=x) (v:=v) h;exact .inr ⟨x,t,rfl,e⟩
theorem zu(i:Int)(t:Tok):su (.inl i) (.int i t)=true:=by simp[su,Value.isInt]
theorem zr(x:Str)(t:Tok):su (.inr x) (.str x t)=true:=by simp[su,Value.isStrOf]
theorem G8(a b:Int):decide ((Sum.inl a:Key)=Sum.inl b)=(a==b):=by
 by_cases e:a=b
 ·subst e;simp
 ·have h:¬(Sum.inl a:Key)=Sum.inl b:=λq=>e (Sum.inl.inj q);rw[decide_eq_false h];exact(beq_eq_false_iff_ne.mpr e).symm
theorem Im(a b:Str):decide ((Sum.inr a:Key)=Sum.inr b)=decide (a=b):=by
 by_cases e:a=b
 ·subst e;simp
 ·have h:¬(Sum.inr a:Key)=Sum.inr b:=λq=>e (Sum.inr.inj q);rw[decide_eq_false h,decide_eq_false e]
theorem G7(a:Int)(b:Str):decide ((Sum.inl a:Key)=Sum.inr b)=false:=decide_eq_false (λq=>nomatch q)
theorem Ip(a:Str)(b:Int):decide ((Sum.inr a:Key)=Sum.inl b)=false:=decide_eq_false (λq=>nomatch q)
noncomputable def cU(prog:Uc)(w:Ub):PySem.KeyKind prog w Key where
 is:=su
 hash:=K3 w
 inj:=λv a b ha hb=>by
  rcases cE ha with⟨i,t,rfl,rfl⟩|⟨x,t,rfl,rfl⟩
  ·rcases cE hb with⟨j,u,rfl,e⟩|⟨y,u,rfl,e⟩
   ·injection e with e1 _;rw[e1]
   ·exact nomatch e
  ·rcases cE hb with⟨j,u,rfl,e⟩|⟨y,u,rfl,e⟩
   ·exact nomatch e
   ·injection e with e1 _;rw[e1]
 byValue:=λk v h=>by
  rcases cE h with⟨i,t,rfl,rfl⟩|⟨x,t,rfl,rfl⟩<;>rfl
 pyHash:=λhv h=>by
  rcases cE hv with⟨i,t,rfl,rfl⟩|⟨x,t,rfl,rfl⟩
  ·exact wpAny_pyHash_int h
  ·exact wpAny_pyHash_str h
 eqBool:=λhu hv h=>by
  rcases cE hu with⟨i,t,rfl,rfl⟩|⟨x,t,rfl,rfl⟩
  ·rcases cE hv with⟨j,u,rfl,rfl⟩|⟨y,u,rfl,rfl⟩
   ·rw[G8]at h;exact wpAny_eqBool_int h
   ·rw[G7]at h;exact SeqAt.EqAt.int_str i t y u _ _ _ _ h
  ·rcases cE hv with⟨j,u,rfl,rfl⟩|⟨y,u,rfl,rfl⟩
   ·rw[Ip]at h;exact SeqAt.EqAt.str_int x t j u _ _ _ _ h
   ·rw[Im]at h;exact wpAny_eqBool_str h
 «strs»:=λk x t v h=>by
  rcases cE h with⟨i,u,rfl,e⟩|⟨y,u,rfl,e⟩
  ·exact nomatch e
  ·injection e with e1 _;subst e1;cases v<;>rfl
theorem uC(prog:Uc)(w:Ub)(i:Int)(t:Tok):(cU prog w).is (.inl i) (.int i t)=true:=zu i t
theorem uM(prog:Uc)(w:Ub)(x:Str)(t:Tok):(cU prog w).is (.inr x) (.str x t)=true:=zr x t
inductive V where
 |non|bl (b:Bool)|int (i:Int)|str (x:Str)|byt (b:Array UInt8)|flt (b:UInt64)|ref (a:T7)|ty (n:String)
 deriving DecidableEq
noncomputable abbrev aI:=List V
noncomputable def RelV:V->T5->Prop
 |.non,u=>u=Value.none
 |.bl b,u=>u=Value.bool b
 |.int i,u=>∃t,u=Value.int i t
 |.str x,u=>∃t,u=Value.str x t
 |.byt b,u=>∃t,u=Value.bytes b t
 |.flt b,u=>∃t,u=Value.float b t
 |.ref a,u=>u=Value.ref a
 |.ty n,u=>u=Value.type n
noncomputable abbrev Vals:aI->aS->Prop:=Ud RelV
theorem Vals.length{xs:aI}{us:aS}(r:Vals xs us):xs.length=us.length:=Paired.length r
theorem Vals.get:∀{xs:aI}{us:aS}{i:Nat}{x:V},Vals xs us->xs[i]?=some x->∃u,us[i]?=some u/\RelV x u
 |_,_,_,_,.nil,e=>by simp at e
 |_,_,0,_,.cons r _,e=>by simp at e;subst e;exact⟨_,rfl,r⟩
 |_,_,i+1,x,.cons _ t,e=>by
  obtain⟨u,h1,h2⟩:=Vals.get (i:=i) (x:=x) t (by simpa using e);exact⟨u,by simpa using h1,h2⟩
theorem Vals.append:∀{xs ys:aI}{us ws:aS},Vals xs us->Vals ys ws->Vals (xs++ys) (us++ws)
 |_,_,_,_,.nil,s=>s
 |_,_,_,_,.cons r t,s=>.cons r (Vals.append t s)
theorem Vals.take:∀{xs:aI}{us:aS}(n:Nat),Vals xs us->Vals (xs.take n) (us.take n)
 |_,_,0,_=>.nil
 |_,_,_+1,.nil=>.nil
 |_,_,n+1,.cons r t=>.cons r (Vals.take n t)
theorem Vals.drop:∀{xs:aI}{us:aS}(n:Nat),Vals xs us->Vals (xs.drop n) (us.drop n)
 |_,_,0,r=>r
 |_,_,_+1,.nil=>.nil
 |_,_,n+1,.cons _ t=>Vals.drop n t
noncomputable def pW:Option V->Option T5->Prop
 |some v,some u=>RelV v u
 |none,none=>True
 |_,_=>False
noncomputable def KV{κ:Type}:List (κ×V)->List (κ×T5)->Prop:=Ud λ(p:κ×V)(q:κ×T5)=>p.1=q.1/\RelV p.2 q.2
noncomputable def kV:Key->V
 |.inl i=>.int i
 |.inr x=>.str x
inductive HO where
  |lst (xs:aI)
  |tup (xs:aI)
  |dK (kvs:List (Key×V))|dT (kvs:List (List Key×V))
  |set (S:Int->Bool) (n:Nat)
  |ins (C dx:T7) (fs:List (Str×V))
  |own (x:T7)
  |xd (fs:List (Str×V))
  |met (f x:T7)
  |rng (lo hi:Int)
  |frz (o:Obj) (u:HO)
  |tbl (ps:Array T5)
  |ext (φ:(T7->Prop)->Ue->Prop)
noncomputable abbrev Hp:=T7->Option HO
noncomputable def upd(H:Hp)(a:T7)(o:HO):Hp:=λb=>if b=a then some o else H b
theorem aA{H:Hp}{a:T7}{o:HO}:upd H a o a=some o:=by unfold upd;rw[if_pos rfl]
theorem aw{H:Hp}{a b:T7}{o:HO}(h:b≠a):upd H a o b=H b:=by unfold upd;rw[if_neg h]
theorem lS{H:Hp}{a:T7}{o u:HO}:upd (upd H a o) a u=upd H a u:=by
 funext b;unfold upd;split<;>rfl
theorem aP{H:Hp}{a b:T7}{o:HO}(h:H a=some o)(h':H b=none):a≠b:=by
 intro e;subst e;rw[h]at h';cases h'
section
variable(P:Uc)(w:Ub)
noncomputable def cq(H:Hp)(h:Ue)(a:T7):HO->Prop
 |.lst xs=>xs.length<=Ug/\∃(its:aS)(n:Nat),Vals xs its/\h.get? a=some {cls:=.type "list",data:=.seq its.toArray n}
 |.tup xs=>xs.length<=Ug/\∃its:aS,Vals xs its/\IsTup h a its.toArray
 |.dK kvs=>kvs.length<=Ug/\(a==sysModules)=false/\∃vs,KV kvs vs/\h.DictOf (cU P w) a vs
 |.dT kvs=>kvs.length<=Ug/\(a==sysModules)=false/\∃xs:List (List Key×T7×T5),
   Ud (λ(p:List Key×V)(q:List Key×T7×T5)=>p.1=q.1/\H q.2.1=some (.tup (p.1.map kV))/\RelV p.2 q.2.2) kvs xs/\
   ∃o es ep,h.get? a=some o/\o.ExactDict/\o.data=.dict es ep/\es.toList=xs.map (entryOfKey (tupleKind (cU P w)))/\(xs.map (·.1)).Nodup
 |.set S n=>h.SetOf (intKind P w) a S n
 |.ins C dx fs=>H dx=some (.own a)/\fs.length<=1000/\dx≠a/\h.get? a=some (Sj C dx)/\
   ∃mA,h.Ns1 dx mA/\(∀f,pW (fs.lookup f) (mA f))/\PySem.Within mA (fs.map (·.1))
 |.own _=>∃o,h.get? a=some o
 |.xd fs=>∃mA,h.Ns1 a mA/\∀f,pW (fs.lookup f) (mA f)
 |.rng lo hi=>∃t u v,h.get? a=some {cls:=.type "range",data:=.fields #[.int lo t,.int hi u,.int 1 v]}
 |.frz o u=>h.get? a=some o/\cq H h a u
 |.tbl ps=>h.get? a=some {cls:=.none,data:=.fields ps}
 |.met f x=>h.get? a=some (Sl (.ref f) (.ref x))
 |.ext φ=>φ (λb=>H b=some (.own a)) h/\(∃o,h.get? a=some o)/\∀(S1 S2:T7->Prop)(h1 h2:Ue),φ S1 h1->(∀b,S1 b->S2 b)->(∀b o,(b=a\/S1 b)->h1.get? b=some o->h2.get? b=some o)->φ S2 h2
noncomputable def oi(H:Hp)(h:Ue):Prop:=∀a o,H a=some o->cq P w H h a o
end
section
variable{P:Uc}{w:Ub}{H H':Hp}{h h':Ue}{a:T7}{o:HO}
theorem cq.lt(x:cq P w H h a o):a<h.objs.size:=by
 cases o with
 |lst xs=>obtain⟨_,_,_,_,e⟩:=x;exact To e
 |tup xs=>obtain⟨_,_,_,p⟩:=x;exact p.lt
 |dK kvs=>obtain⟨_,_,_,_,o,_,_,e,_⟩:=x;exact To e
 |dT kvs=>obtain⟨_,_,_,_,o,_,_,e,_⟩:=x;exact To e
 |set S n=>obtain⟨o,_,_,_,e,_⟩:=x;exact To e
 |ins C dx fs=>obtain⟨_,_,_,e,_⟩:=x;exact To e
 |own y=>obtain⟨_,e⟩:=x;exact To e
 |xd fs=>obtain⟨_,⟨_,_,_,e,_⟩,_⟩:=x;exact To e
 |rng lo hi=>obtain⟨_,_,_,e⟩:=x;exact To e
 |frz ob u=>obtain⟨e,_⟩:=x;exact To e
 |tbl ps=>exact To (show h.get? a=some _ from x)
 |met f y=>exact To (show h.get? a=some _ from x)
 |ext φ=>obtain⟨_,⟨_,e⟩,_⟩:=x;exact To e
theorem Paired.mapP{α β:Type}{F G:α->β->Prop}:∀{l₁:List α}{l₂:List β},Ud F l₁ l₂->(∀a b,F a b->G a b)->Ud G l₁ l₂
 |_,_,.nil,_=>.nil
 |_,_,.cons r t,f=>.cons (f _ _ r) (Paired.mapP t f)
theorem cq.stay(x:cq P w H h a o)(k:∀b u,(b=a\/H b=some (.own a))->h.get? b=some u->h'.get? b=some u)
  (ho:∀b,H b=some (.own a)->H' b=some (.own a)) (ht:∀b xs,H b=some (.tup xs)->H' b=some (.tup xs)):cq P w H' h' a o:=by
 induction o with
 |lst xs=>obtain⟨z,its,n,r,e⟩:=x;exact⟨z,its,n,r,k _ _ (.inl rfl) e⟩
 |tup xs=>obtain⟨z,its,r,ob,e,c⟩:=x;exact⟨z,its,r,ob,k _ _ (.inl rfl) e,c⟩
 |dK kvs=>obtain⟨z,y,vs,r,ob,es,ep,e,c⟩:=x;exact⟨z,y,vs,r,ob,es,ep,k _ _ (.inl rfl) e,c⟩
 |dT kvs=>
  obtain⟨z,y,xs,r,ob,es,ep,e,c⟩:=x;exact⟨z,y,xs,Paired.mapP r λp q z=>⟨z.1,ht _ _ z.2.1,z.2.2⟩,ob,es,ep,k _ _ (.inl rfl) e,c⟩
 |set S n=>obtain⟨ob,es,ep,t,e,c⟩:=x;exact⟨ob,es,ep,t,k _ _ (.inl rfl) e,c⟩
 |ins C dx fs=>
  obtain⟨d,z,ne,e,mA,⟨od,es,ep,e2,c⟩,r⟩:=x;exact⟨ho _ d,z,ne,k _ _ (.inl rfl) e,mA,⟨od,es,ep,k _ _ (.inr d) e2,c⟩,r⟩
 |own y=>obtain⟨ob,e⟩:=x;exact⟨ob,k _ _ (.inl rfl) e⟩
 |xd fs=>obtain⟨mA,⟨od,es,ep,e,c⟩,r⟩:=x;exact⟨mA,⟨od,es,ep,k _ _ (.inl rfl) e,c⟩,r⟩
 |rng lo hi=>obtain⟨t,u,v,e⟩:=x;exact⟨t,u,v,k _ _ (.inl rfl) e⟩
 |frz ob u ih=>obtain⟨e,q⟩:=x;exact⟨k _ _ (.inl rfl) e,ih q⟩
 |tbl ps=>
  have e:h.get? a=some {cls:=.none,data:=.fields ps}:=x;show h'.get? a=some {cls:=.none,data:=.fields ps};exact k a _ (.inl rfl) e
 |met f y=>
  have e:h.get? a=some (Sl (.ref f) (.ref y)):=x;show h'.get? a=some (Sl (.ref f) (.ref y));exact k a _ (.inl rfl) e
 |ext φ=>obtain⟨p,⟨o,e⟩,st⟩:=x;exact⟨st _ _ _ _ p ho k,⟨o,k _ _ (.inl rfl) e⟩,st⟩
theorem oi.lt(x:oi P w H h)(e:H a=some o):a<h.objs.size:=(x a o e).lt
theorem oi.fresh(x:oi P w H h)(e:h.objs.size<=a):H a=none:=by
 cases q:H a with
 |none=>rfl
 |some u=>exact absurd (Qe (x.lt q) e) (Qf _)
theorem oi.kept(x:oi P w H h)(k:∀b u,h.get? b=some u->h'.get? b=some u):oi P w H h':=λa o e=>
 (x a o e).stay (λb u _ q=>k b u q) (λ_ q=>q) λ_ _ q=>q
theorem oi.laid(x:oi P w H h)(k:∀b u,h.get? b=some u->h'.get? b=some u)(hp:h.objs.size<=a)(new:cq P w (upd H a o) h' a o):oi P w (upd H a o) h':=λb u e=>by
 have hn:=x.fresh hp;by_cases hb:b=a
 ·subst hb;rw[aA]at e;cases e;exact new
 ·rw[aw hb]at e;exact(x b u e).stay (λc v _ q=>k c v q) (λc q=>by rw[aw (aP q hn)];exact q) λc xs q=>by rw[aw (aP q hn)];exact q
end
noncomputable def Rd(H:Hp)(a:T7)(u:HO):Prop:=H a=some u\/∃o,H a=some (.frz o u)
theorem Rd.ok{P:Uc}{w:Ub}{H:Hp}{h:Ue}{a:T7}{u:HO}(r:Rd H a u)(x:oi P w H h):cq P w H h a u:=by
 rcases r with r|⟨o,r⟩
 ·exact x a u r
 ·obtain⟨_,q⟩:=x a _ r;exact q
noncomputable def Jc:Option HO->Prop
 |some (.lst _)=>True
 |some (.dK _)=>True
 |some (.dT _)=>True
 |some (.set _ _)=>True
 |some (.ins _ _ _)=>True
 |some (.ext _)=>True
 |_=>False
section
variable{P:Uc}{w:Ub}{H:Hp}{h h':Ue}{x e:T7}{o':HO}
theorem oi.write(ok:oi P w H h)(mu:Jc (H x))(he:e=x\/H e=some (.own x))(k:∀b u,b≠e->h.get? b=some u->h'.get? b=some u)(heo:∃u,h'.get? e=some u)
  (new:cq P w (upd H x o') h' x o'):oi P w (upd H x o') h':=λb u q=>by
 have nown:∀c y,H c=some (.own y)->c≠x:=λc y r z=>by subst z;rw[r]at mu;exact mu
 have ntup:∀c xs,H c=some (.tup xs)->c≠x:=λc xs r z=>by subst z;rw[r]at mu;exact mu
 by_cases hb:b=x
 ·subst hb;rw[aA]at q;cases q;exact new
 ·rw[aw hb]at q;by_cases hbe:b=e
  ·have q':H b=some (.own x):=by
    rcases he with z|z
    ·exact absurd (hbe.trans z) hb
    ·rw[hbe];exact z
   rw[q]at q';cases q';obtain⟨v,hv⟩:=heo;exact⟨v,by rw[hbe];exact hv⟩
  ·refine(ok b u q).stay (λc v hc r=>k c v ?_ r) (λc r=>by rw[aw (nown c b r)];exact r) λc xs r=>by rw[aw (ntup c xs r)];exact r
   rcases hc with rfl|hc
   ·exact hbe
   ·rintro rfl;rcases he with z|z
    ·exact nown c b hc z
    ·rw[hc]at z;cases z;exact hb rfl
end
structure Un(fs ex:aH)(H H':Hp)(h h':Ue):Prop where
 keep:∀b o,h.get? b=some o->H b=none->b∉fs->b∉ex->h'.get? b=some o
 slot:∀b o,h.get? b=some o->H b=none->b∈fs->b∉ex->∃sl,h'.get? b=some {o with slots:=sl}
 free:∀b o,h.get? b=some o->H b=none->b∉ex->H' b=none
 there:∀b o,h.get? b=some o->b∉ex->∃o',h'.get? b=some o'
 tups:∀b xs,H b=some (.tup xs)->H' b=some (.tup xs)
 frzs:∀b o u,H b=some (.frz o u)->H' b=some (.frz o u)
 tbls:∀b ps,H b=some (.tbl ps)->∃more,H' b=some (.tbl (ps++more))
section
variable{fs fs' ex ex':aH}{H H1 H2:Hp}{h h1 h2 h':Ue}{a x e:T7}{o:HO}
theorem Un.any(u:Un fs ex H H1 h h1){b:T7}{ob:Obj}(q:h.get? b=some ob)(n:H b=none)(hx:b∉ex):∃sl,h1.get? b=some {ob with slots:=sl}:=by
 by_cases hb:b∈fs
 ·exact u.slot b ob q n hb hx
 ·exact⟨ob.slots,u.keep b ob q n hb hx⟩
theorem Un.kept(k:∀b u,h.get? b=some u->h'.get? b=some u):Un fs ex H H h h':=
 ⟨λb ob q _ _ _=>k b ob q,λb ob q _ _ _=>⟨ob.slots,k b ob q⟩,λ_ _ _ n _=>n,λb ob q _=>⟨ob,k b ob q⟩,λ_ _ q=>q,λ_ _ _ q=>q,λ_ ps q=>⟨#[],by rw[q];simp⟩⟩
theorem Un.refl:Un fs ex H H h h:=Un.kept λ_ _ q=>q
theorem Un.laid(k:∀b u,h.get? b=some u->h'.get? b=some u)(hp:h.objs.size<=a)(hn:H a=none):Un fs ex H (upd H a o) h h' where
 keep:=λb u q _ _ _=>k b u q
 slot:=λb u q _ _ _=>⟨u.slots,k b u q⟩
 free:=λb u q n _=>by rw[aw (Qg (Qe (To q) hp))];exact n
 there:=λb u q _=>⟨u,k b u q⟩
 tups:=λb xs q=>by rw[aw (aP q hn)];exact q
 frzs:=λb u xs q=>by rw[aw (aP q hn)];exact q
 tbls:=λb ps q=>⟨#[],by rw[aw (aP q hn),q];simp⟩
theorem Un.write(mu:Jc (H x))(he:e=x\/H e=some (.own x))(k:∀b u,b≠e->h.get? b=some u->h'.get? b=some u)(heo:∃u,h'.get? e=some u):Un fs ex H (upd H x o) h h':=by
 have hx:∀b,H b=none->b≠x:=λb n z=>by subst z;rw[n]at mu;exact mu
 have hb:∀b,H b=none->b≠e:=λb n z=>by
  subst z;rcases he with r|r
  ·exact hx b n r
  ·rw[n]at r;cases r
 have hm:∀b u,H b=some u->¬Jc (some u)->b≠x:=λb u q nm z=>by subst z;rw[q]at mu;exact nm mu
 refine⟨λb u q n _ _=>k b u (hb b n) q,λb u q n _ _=>⟨u.slots,k b u (hb b n) q⟩,λb u q n _=>by rw[aw (hx b n)];exact n,λb u q _=>?_,
  λb xs q=>by rw[aw (hm b _ q λz=>z)];exact q,λb u xs q=>by rw[aw (hm b _ q λz=>z)];exact q,λb ps q=>⟨#[],by rw[aw (hm b _ q λz=>z),q];simp⟩⟩
 by_cases hbe:b=e
 ·subst hbe;exact heo
 ·exact⟨u,k b u hbe q⟩
end
noncomputable def KL(h:Ue)(H:Hp):aH:=(List.range h.objs.size).filter λa=>(H a).isSome
noncomputable def kY(h:Ue)(H:Hp):Ue:=PySem.W.hideAll h (KL h H)
theorem zc(h:Ue)(H:Hp):(kY h H).objs.size=h.objs.size:=PySem.W.hideAll_size _ _
theorem qo{h:Ue}{H:Hp}{b:T7}{o:Obj}(e:h.get? b=some o)(n:H b=none):(kY h H).get? b=some o:=
 PySem.W.hideAll_get _ e λhm=>by
  have q:(H b).isSome=true:=(List.mem_filter.mp hm).2;rw[n]at q;simp at q
theorem mq{h:Ue}{H:Hp}{b:T7}{o:Obj}(e:(kY h H).get? b=some o):h.get? b=some o/\H b=none:=by
 have e':h.get? b=some o:=PySem.W.of_hideAll (KL h H) e;refine⟨e',?_⟩;cases q:H b with
 |none=>rfl
 |some x=>
  have hm:b∈KL h H:=List.mem_filter.mpr ⟨List.mem_range.mpr (To e'),by simp[q]⟩;have z:(kY h H).get? b=none:=PySem.W.hideAll_none (KL h H) hm;rw[z]at e;cases e
noncomputable def E7(g h:Ue)(L:T7):aU:=(List.range h.objs.size).filterMap λa=>if a=L\/(g.get? a).isSome=true then none else(h.get? a).map λo=>(a,o)
noncomputable def rest(g h:Ue)(L d:T7):aU:=(E7 g h L).filter λp=>decide (p.1≠d)
structure Mod(K:Sn)(mg:bU)(base:Ue):Prop where
 kin:K.In base
 glob:base.Ns Uh mg
 blt:∃mb,base.Ns builtinsNs mb/\∀x:Str,x≠"__name__"->mb x=Ui x
 nolimit:base.NoLimit
structure Cx where
 prog:Uc
 w:Ub
 K:Sn
 mg:bU
 base:Ue
 A:Uj
 N:ax
 s₀:Ua
 H₀:Hp
 env:Env
 outer:List Env
 stack:List Env
 ex:aH
 fn:Str->Bool
 calm:Bool
 pn:aU
 xe:bL
noncomputable def frs(l:List Env):aH:=l.filterMap (·.frame)
noncomputable abbrev Cx.fs(X:Cx):aH:=frs X.outer
noncomputable def HM(sc:Uk)(x:Str):Prop:=sc.names.lookup x=some .local\/sc.names.lookup x=some .cell\/sc.names.lookup x=some .free
noncomputable def Loc(sc:Uk)(x:Str):Prop:=sc.names.lookup x=some .local\/sc.names.lookup x=some .cell
noncomputable def Look(env:Env)(h:Ue)(m:bU)(x:Str)(u:T5):Prop:=
 (env.kindOf x=some .local/\m x=some u)\/((env.kindOf x=some .cell\/env.kindOf x=some .free)/\∃c,env.cells.lookup x=some c/\h.IsCell c (some u))
structure Cx.Ok(X:Cx):Prop where
 mod:Mod X.K X.mg X.base
 kind:X.env.scope.kind=.function
 glob:X.env.globals=Uh
 blt:X.env.builtins=builtinsNs
 above:X.s₀.heap.objs.size<=X.env.locals
 inj:∀x y c,X.env.cells.lookup x=some c->X.env.cells.lookup y=some c->x=y
 has:∀x,(X.env.kindOf x=some .cell\/X.env.kindOf x=some .free)->∃c,X.env.cells.lookup x=some c
 cab:∀x c,X.fn x=true->X.env.cells.lookup x=some c->X.s₀.heap.objs.size<=c
 hd:X.calm=true->X.A.handled=none
 frames:X.A.frames=some X.stack
 stk:X.stack=X.outer\/(X.stack=X.env::X.outer/\X.env.frame=some X.env.locals)
 exf:∀b∈X.ex,b≠X.env.locals/\∀x c,X.env.cells.lookup x=some c->c≠b
 bs:∀b o,X.base.get? b=some o->X.s₀.heap.get? b=some o/\X.H₀ b=none
 bsz:X.base.objs.size<=X.s₀.heap.objs.size
 noex:∀b o,X.base.get? b=some o->b∉X.ex
 exfs:∀b∈X.ex,b∉X.fs
 funs:X.s₀.heap.FunFrames X.base X.outer
 frf:∀b∈X.fs,X.H₀ b=none
structure Inv(X:Cx)(pins:aU)(σ:List (Option V))(H:Hp)(s:Ua):Prop where
 ok:X.Ok
 os:s.os=X.s₀.os
 bare:AllBare s.gens
 base:Un X.fs X.ex X.H₀ H X.s₀.heap s.heap
 loc:∃m,s.heap.Ns X.env.locals m/\∀(i:Nat)(x:Str)(v:V),X.N[i]?=some x->σ[i]?=some (some v)->HM X.env.scope x->∃u,RelV v u/\Look X.env s.heap m x u
 cell:∀x c,X.env.cells.lookup x=some c->∃v,s.heap.IsCell c v
 free:H X.env.locals=none
 freeC:∀x c,X.env.cells.lookup x=some c->H c=none
 pin:∀p∈X.pn++pins,s.heap.get? p.1=some p.2/\H p.1=none/\p.1≠X.env.locals/\p.1∉X.fs/\∀v,p.2.data≠.cell v
 hok:oi X.prog X.w H s.heap
 len:σ.length=X.N.length
section
variable{X:Cx}{pins:aU}{σ:List (Option V)}{H H':Hp}{s:Ua}{h':Ue}
theorem Cx.Ok.nofr(ok:X.Ok){b:T7}{o:Obj}(e:X.base.get? b=some o):b∉X.fs:=λhb=>by
 have:=(ok.funs.mem hb).1
 rw[e]at this;cases this
theorem Inv.bs(I:Inv X pins σ H s):∀b o,X.base.get? b=some o->s.heap.get? b=some o/\H b=none:=λb o e=>
 ⟨I.base.keep b o (I.ok.bs b o e).1 (I.ok.bs b o e).2 (I.ok.nofr e) (I.ok.noex b o e),I.base.free b o (I.ok.bs b o e).1 (I.ok.bs b o e).2 (I.ok.noex b o e)⟩
theorem Inv.bk(I:Inv X pins σ H s):∀b o,X.base.get? b=some o->s.heap.get? b=some o:=λb o e=>(I.bs b o e).1
theorem Inv.mod(I:Inv X pins σ H s):Mod X.K X.mg X.base:=I.ok.mod
theorem Inv.kIn(I:Inv X pins σ H s):X.K.In s.heap:=I.ok.mod.kin.keeps I.bk
theorem Inv.lt(I:Inv X pins σ H s):X.env.locals<s.heap.objs.size:=let ⟨_,hn,_⟩:=I.loc;hn.lt
theorem Inv.sz(I:Inv X pins σ H s):X.s₀.heap.objs.size<=s.heap.objs.size:=Qh I.ok.above (Qi I.lt)
theorem Inv.nofs(I:Inv X pins σ H s){a:T7}(h:s.heap.objs.size<=a):a∉X.fs:=λhb=>by
 obtain⟨_,o,ho,_⟩:=I.ok.funs.mem hb;exact absurd (Qe (To ho) (Qh I.sz h)) (Qf _)
theorem Inv.cne(I:Inv X pins σ H s):∀x c,X.env.cells.lookup x=some c->c≠X.env.locals:=λx c e z=>by
 obtain⟨v,o,ho,hd⟩:=I.cell x c e;obtain⟨m,⟨o',es,ep,ho',hd',_⟩,_⟩:=I.loc;rw[z,ho']at ho;cases ho;rw[hd']at hd;cases hd
theorem Inv.funs(I:Inv X pins σ H s):s.heap.FunFrames X.base X.outer:=by
 have all:∀(l:List Env),(∀b∈frs l,b∈X.fs)->X.s₀.heap.FunFrames X.base l->s.heap.FunFrames X.base l:=by
  intro l
  induction l with
  |nil=>intro _ _;trivial
  |cons env r ih=>
   intro hs hl;obtain⟨hk,⟨L,o,hf,hn,ho,hd⟩,hr⟩:=hl;have hL:L∈X.fs:=hs L (by unfold frs;rw[Qj,hf];exact Qk);obtain⟨sl,e⟩:=I.base.slot L o ho (I.ok.frf L hL) hL λz=>I.ok.exfs L z hL;exact⟨hk,⟨L,_,hf,hn,e,hd⟩,ih (λb hb=>hs b (by unfold frs;rw[Qj,hf];exact Ql _ hb)) hr⟩
 exact all X.outer (λ_ hb=>hb) I.ok.funs
theorem Inv.stack(I:Inv X pins σ H s):s.heap.FunFrames X.base X.stack:=by
 rcases I.ok.stk with e|⟨e,hf⟩
 ·rw[e];exact I.funs
 ·rw[e];obtain⟨m,hn,_⟩:=I.loc;refine .cons (by rw[I.ok.kind];decide) hf hn ?_ I.funs;exact Tp (Qh I.ok.bsz I.ok.above)
theorem Inv.stkSub(I:Inv X pins σ H s):∀b∈frs X.stack,b∈X.env.locals::X.fs:=λb hb=>by
 rcases I.ok.stk with e|⟨e,hf⟩
 ·rw[e]at hb;exact Ql _ hb
 ·rw[e]at hb;unfold frs at hb;rw[Qj,hf]at hb;exact hb
theorem Inv.stkFree(I:Inv X pins σ H s):∀b∈frs X.stack,H b=none:=λb hb=>by
 rcases List.mem_cons.mp (I.stkSub b hb)with e|hb
 ·rw[e];exact I.free
 ·obtain⟨_,o,ho,_⟩:=I.ok.funs.mem hb;exact I.base.free b o ho (I.ok.frf b hb) λz=>I.ok.exfs b z hb
theorem Inv.step{g':Array GenState}{t':Nat}{d':Drawn}{ch:aH}(I:Inv X pins σ H s)
  (hch:∀b∈ch,(b∈X.ex\/X.s₀.heap.objs.size<=b)/\b≠X.env.locals/\(∀x c,X.env.cells.lookup x=some c->c≠b)/\∀p∈X.pn++pins,p.1≠b)
  (keep:∀b o,b≠X.env.locals->b∉X.fs->b∉ch->s.heap.get? b=some o->H b=none->h'.get? b=some o)
  (slot:∀b o,b≠X.env.locals->b∈X.fs->b∉ch->s.heap.get? b=some o->H b=none->∃sl,h'.get? b=some {o with slots:=sl}) (free:∀b o,b∉ch->s.heap.get? b=some o->H b=none->H' b=none)
  (there:∀b o,b∉ch->s.heap.get? b=some o->∃o',h'.get? b=some o')
  (tups:∀b xs,H b=some (.tup xs)->H' b=some (.tup xs)) (frzs:∀b o u,H b=some (.frz o u)->H' b=some (.frz o u)) (tbls:∀b ps,H b=some (.tbl ps)->∃more,H' b=some (.tbl (ps++more)))
  (ns:∀m,s.heap.Ns X.env.locals m->h'.Ns X.env.locals m) (hok:oi X.prog X.w H' h') (hg:AllBare g'):
  Inv X pins σ H' {s with heap:=h',gens:=g',drawn:=d',toks:=t'}:=by
 have neL:∀b o,X.s₀.heap.get? b=some o->b≠X.env.locals:=λb o e=>Qg (Qe (To e) I.ok.above);have neC:∀b o,X.s₀.heap.get? b=some o->b∉X.ex->b∉ch:=λb o e hx hb=>by
  rcases(hch b hb).1 with z|z
  ·exact hx z
  ·exact absurd (Qe (To e) z) (Qf _)
 have cellK:∀x c,X.env.cells.lookup x=some c->∀v,s.heap.IsCell c v->h'.IsCell c v:=λx c e v ⟨o,ho,hd⟩=>by
  have nch:c∉ch:=λz=>(hch c z).2.2.1 x c e rfl;by_cases hc:c∈X.fs
  ·obtain⟨sl,q⟩:=slot c o (I.cne x c e) hc nch ho (I.freeC x c e);exact⟨_,q,hd⟩
  ·exact⟨o,keep c o (I.cne x c e) hc nch ho (I.freeC x c e),hd⟩
 refine⟨I.ok,I.os,hg,⟨λb o e n hb hx=>?_,λb o e n hb hx=>?_,λb o e n hx=>?_,λb o e hx=>?_,λb xs e=>tups b xs (I.base.tups b xs e),λb o xs e=>frzs b o xs (I.base.frzs b o xs e),λb ps e=>?_⟩,?_,λx c e=>?_,?_,λx c e=>?_,λp hp=>?_,hok,I.len⟩
 ·exact keep b o (neL b o e) hb (neC b o e hx) (I.base.keep b o e n hb hx) (I.base.free b o e n hx)
 ·obtain⟨sl,e1⟩:=I.base.slot b o e n hb hx;obtain⟨sl',e2⟩:=slot b _ (neL b o e) hb (neC b o e hx) e1 (I.base.free b o e n hx);exact⟨sl',e2⟩
 ·obtain⟨o',e1⟩:=I.base.there b o e hx;exact free b o' (neC b o e hx) e1 (I.base.free b o e n hx)
 ·obtain⟨o',e1⟩:=I.base.there b o e hx;exact there b o' (neC b o e hx) e1
 ·obtain⟨m1,e1⟩:=I.base.tbls b ps e;obtain⟨m2,e2⟩:=tbls b _ e1;exact⟨m1++m2,by rw[e2,Array.append_assoc]⟩
 ·obtain⟨m,hn,hl⟩:=I.loc;refine⟨m,ns m hn,λi x v e1 e2 e3=>?_⟩;obtain⟨u,r,l⟩:=hl i x v e1 e2 e3;refine⟨u,r,?_⟩;rcases l with l|⟨k,c,e,z⟩
  ·exact .inl l
  ·exact .inr ⟨k,c,e,cellK x c e _ z⟩
 ·obtain⟨v,z⟩:=I.cell x c e;exact⟨v,cellK x c e v z⟩
 ·obtain⟨m,⟨o,_,_,ho,_⟩,_⟩:=I.loc;exact free _ o (λz=>(hch _ z).2.1 rfl) ho I.free
 ·obtain⟨v,o,ho,hd⟩:=I.cell x c e;exact free c o (λz=>(hch c z).2.2.1 x c e rfl) ho (I.freeC x c e)
 ·obtain⟨e,n,ne,nf,d⟩:=I.pin p hp;have nch:p.1∉ch:=λz=>(hch p.1 z).2.2.2 p hp rfl;exact⟨keep p.1 p.2 ne nf nch e n,free p.1 p.2 nch e n,ne,nf,d⟩
theorem Inv.un{t':Nat}(I:Inv X pins σ H s)(u:Un X.fs [] H H' s.heap h')(hok:oi X.prog X.w H' h'):Inv X pins σ H' {s with heap:=h',toks:=t'}:=by
 obtain⟨m,⟨o,es,ep,ho,r⟩,_⟩:=id I.loc;obtain⟨sl,hL⟩:=u.any ho I.free (by simp);exact I.step (g':=s.gens) (d':=s.drawn) (ch:=[]) (λ_ z=>nomatch z) (λb o _ hb _ e n=>u.keep b o e n hb (by simp)) (λb o _ hb _ e n=>u.slot b o e n hb (by simp)) (λb o _ e n=>u.free b o e n (by simp)) (λb o _ e=>u.there b o e (by simp)) u.tups u.frzs u.tbls (λm' hm=>by
  obtain⟨o',es',ep',ho',r'⟩:=hm;rw[ho]at ho';cases ho';exact⟨_,es',ep',hL,r'⟩) hok I.bare
theorem Inv.call{g':Array GenState}{t':Nat}{d':Drawn}{ch:aH}(I:Inv X pins σ H s)(u:Un (frs X.stack) ch H H' s.heap h')(hok:oi X.prog X.w H' h')(hg:AllBare g')
  (hch:∀b∈ch,(b∈X.ex\/X.s₀.heap.objs.size<=b)/\b≠X.env.locals/\(∀x c,X.env.cells.lookup x=some c->c≠b)/\∀p∈X.pn++pins,p.1≠b):
  Inv X pins σ H' {s with heap:=h',gens:=g',drawn:=d',toks:=t'}:=by
 obtain⟨m,⟨o,es,ep,ho,r⟩,_⟩:=id I.loc;obtain⟨sl,hL⟩:=u.any ho I.free λz=>(hch _ z).2.1 rfl;exact I.step (ch:=ch) hch (λb o hL hb hc e n=>u.keep b o e n (λz=>(List.mem_cons.mp (I.stkSub b z)).elim hL hb) hc) (λb o _ _ hc e n=>u.any e n hc) (λb o hc e n=>u.free b o e n hc) (λb o hc e=>u.there b o e hc) u.tups u.frzs u.tbls (λm' hm=>by
  obtain⟨o',es',ep',ho',r'⟩:=hm;rw[ho]at ho';cases ho';exact⟨_,es',ep',hL,r'⟩) hok hg
theorem Inv.turned{t':Nat}{it:T7}(I:Inv X pins σ H s)(k:∀b o,b≠it->s.heap.get? b=some o->h'.get? b=some o)(hn:H it=none)(hL:it≠X.env.locals)
  (h1:it∈X.ex\/X.s₀.heap.objs.size<=it) (h2:∀x c,X.env.cells.lookup x=some c->c≠it) (h3:∀p∈X.pn++pins,p.1≠it):Inv X pins σ H {s with heap:=h',toks:=t'}:=by
 have nit:∀b u,H b=some u->b≠it:=λb u e z=>by rw[z,hn]at e;cases e
 refine I.step (g':=s.gens) (d':=s.drawn) (ch:=[it]) (λb hb=>?_) (λb o _ _ hc e _=>k b o (λz=>hc (by simp[z])) e) (λb o _ _ hc e _=>⟨o.slots,k b o (λz=>hc (by simp[z])) e⟩) (λ_ _ _ _ n=>n)
  (λb o hc e=>⟨o,k b o (λz=>hc (by simp[z])) e⟩) (λ_ _ e=>e) (λ_ _ _ e=>e) (λb ps e=>⟨#[],by rw[e];simp⟩) (λm hm=>?_) (λb u e=>?_) I.bare
 ·have e:b=it:=by simpa using hb
  subst e;exact⟨h1,hL,h2,h3⟩
 ·obtain⟨o,es,ep,ho,r⟩:=hm;exact⟨o,es,ep,k _ o (Ne.symm hL) ho,r⟩
 ·refine(I.hok b u e).stay (λc v hc q=>k c v ?_ q) (λ_ q=>q) λ_ _ q=>q;rcases hc with z|z
  ·rw[z];exact nit b u e
  ·exact nit c _ z
theorem Inv.tok(I:Inv X pins σ H s)(t:Nat):Inv X pins σ H {s with toks:=t}:=I.un (h':=s.heap) (t':=t) Un.refl I.hok
theorem Inv.kept{t':Nat}(I:Inv X pins σ H s)(k:∀b u,s.heap.get? b=some u->h'.get? b=some u):Inv X pins σ H {s with heap:=h',toks:=t'}:=I.un (Un.kept k) (I.hok.kept k)
theorem Inv.laid{a:T7}{o:HO}{t':Nat}(I:Inv X pins σ H s)(k:∀b u,s.heap.get? b=some u->h'.get? b=some u)(hp:s.heap.objs.size<=a)(new:cq X.prog X.w (upd H a o) h' a o):
  Inv X pins σ (upd H a o) {s with heap:=h',toks:=t'}:=I.un (Un.laid k hp (I.hok.fresh hp)) (I.hok.laid k hp new)
theorem Inv.write{x e:T7}{o:HO}{t':Nat}(I:Inv X pins σ H s)(mu:Jc (H x))(he:e=x\/H e=some (.own x))(k:∀b u,b≠e->s.heap.get? b=some u->h'.get? b=some u)(heo:∃u,h'.get? e=some u)
  (new:cq X.prog X.w (upd H x o) h' x o):Inv X pins σ (upd H x o) {s with heap:=h',toks:=t'}:=I.un (Un.write mu he k heo) (I.hok.write mu he k heo new)
theorem Inv.pins_of{pins':aU}(I:Inv X pins σ H s)(h:∀p∈pins',s.heap.get? p.1=some p.2/\H p.1=none/\p.1≠X.env.locals/\p.1∉X.fs/\∀v,p.2.data≠.cell v):Inv X pins' σ H s:=
 ⟨I.ok,I.os,I.bare,I.base,I.loc,I.cell,I.free,I.freeC,λp hp=>(List.mem_append.mp hp).elim (λz=>I.pin p (Qm _ z)) (h p),I.hok,I.len⟩
theorem u5{N:ax}(hN:N.Nodup){i j:Nat}{x:Str}(a:N[i]?=some x)(b:N[j]?=some x):i=j:=by
 obtain⟨h1,e1⟩:=List.getElem?_eq_some_iff.mp a;obtain⟨h2,e2⟩:=List.getElem?_eq_some_iff.mp b;exact(List.getElem_inj hN).mp (e1.trans e2.symm)
theorem ra{M:Ul}{A:Uj}{E:bL}{i:Nat}{x:Str}{v:V}{u:T5}{Q:Unit->gZ}(I:Inv X pins σ H s)(hN:X.N.Nodup)(hi:X.N[i]?=some x)(hx:Loc X.env.scope x)(r:RelV v u)
  (h:∀s',Inv X pins (σ.set i (some v)) H s'->(∃a,Tq a s.heap s'.heap/\(a=X.env.locals\/X.env.cells.lookup x=some a))->Q () s') (hf:X.fn x=true\/X.env.scope.names.lookup x=some .local:=by first|exact .inl rfl|exact .inr rfl|assumption):Um M A (storeName X.env x u) Q E s:=by
 obtain⟨m,hn,hl⟩:=id I.loc;have hcls:(X.env.scope.kind==.class||(X.env.scope.kind==.module&&X.env.locals !=X.env.globals))=false:=by rw[I.ok.kind];rfl
 have hiσ:i<σ.length:=by rw[I.len];exact(List.getElem?_eq_some_iff.mp hi).1
 have cne:=I.cne;have tracked:∀{a:T7}{h':Ue},(∃o,s.heap.get? a=some o/\H a=none)->Tq a s.heap h'->oi X.prog X.w H h':=λ{a h'} ha hs b ob e=>by
  obtain⟨_,_,hfree⟩:=ha;refine(I.hok b ob e).stay (λc w' hc q=>(hs.2 c ?_).trans q) (λ_ q=>q) λ_ _ q=>q;rintro rfl;rcases hc with rfl|hc
  ·rw[hfree]at e;cases e
  ·rw[hfree]at hc;cases hc
 rcases hx with hk|hk
 ·refine wpAny_storeName_local hk hn (λh' hn' hs=>?_) hcls;obtain⟨oL,_,_,hoL,_⟩:=id hn;refine h _ ⟨I.ok,I.os,I.bare,⟨λb o e n hb hx=>?_,λb o e n hb hx=>?_,I.base.free,λb o e hx=>?_,I.base.tups,I.base.frzs,I.base.tbls⟩,⟨_,hn',λj y v' e1 e2 e3=>?_⟩,λy c e=>?_,I.free,I.freeC,λp hp=>?_,tracked ⟨oL,hoL,I.free⟩ hs,by simpa using I.len⟩ ⟨_,hs,.inl rfl⟩
  ·exact(hs.2 b (Qg (Qe (To e) I.ok.above))).trans (I.base.keep b o e n hb hx)
  ·obtain⟨sl,e1⟩:=I.base.slot b o e n hb hx;exact⟨sl,(hs.2 b (Qg (Qe (To e) I.ok.above))).trans e1⟩
  ·obtain⟨o',e1⟩:=I.base.there b o e hx;exact⟨o',(hs.2 b (Qg (Qe (To e) I.ok.above))).trans e1⟩
  ·by_cases hj:j=i
   ·subst hj;rw[hi]at e1;cases e1;rw[Qn hiσ]at e2;cases e2;exact⟨u,r,.inl ⟨hk,by simp⟩⟩
   ·rw[Qo (Ne.symm hj)]at e2;obtain⟨u',r',q⟩:=hl j y v' e1 e2 e3;refine⟨u',r',?_⟩;rcases q with⟨k,e⟩|⟨k,c,e,z⟩
    ·refine .inl ⟨k,?_⟩
     have:y≠x:=λe=>hj (u5 hN e1 (e ▸ hi))
     simp[this,e]
    ·exact .inr ⟨k,c,e,z.sameBut hs (cne y c e)⟩
  ·obtain⟨w',z⟩:=I.cell y c e;exact⟨w',z.sameBut hs (cne y c e)⟩
  ·obtain⟨e,n,ne,nf,d⟩:=I.pin p hp;exact⟨(hs.2 p.1 ne).trans e,n,ne,nf,d⟩
 ·have hfn:X.fn x=true:=by
   rcases hf with z|z
   ·exact z
   ·rw[z]at hk;cases hk
  obtain⟨c,hc⟩:=I.ok.has x (.inl hk);obtain⟨w',z⟩:=I.cell x c hc;refine wpAny_storeName_cell I.ok.kind hk hc z (λh' hc' hs=>?_);obtain⟨oc,hoc,hocd⟩:=id z;refine h {s with heap:=h'} ⟨I.ok,I.os,I.bare,⟨λb o e n hb hx=>?_,λb o e n hb hx=>?_,I.base.free,λb o e hx=>?_,I.base.tups,I.base.frzs,I.base.tbls⟩,⟨m,hn.sameBut hs (Ne.symm (cne x c hc)),λj y v' e1 e2 e3=>?_⟩,λy c' e=>?_,I.free,I.freeC,λp hp=>?_,tracked ⟨oc,hoc,I.freeC x c hc⟩ hs,by simpa using I.len⟩ ⟨c,hs,.inr hc⟩
  ·exact(hs.2 b (Qg (Qe (To e) (I.ok.cab x c hfn hc)))).trans (I.base.keep b o e n hb hx)
  ·obtain⟨sl,e1⟩:=I.base.slot b o e n hb hx;exact⟨sl,(hs.2 b (Qg (Qe (To e) (I.ok.cab x c hfn hc)))).trans e1⟩
  ·obtain⟨o',e1⟩:=I.base.there b o e hx;exact⟨o',(hs.2 b (Qg (Qe (To e) (I.ok.cab x c hfn hc)))).trans e1⟩
  ·by_cases hj:j=i
   ·subst hj;rw[hi]at e1;cases e1;rw[Qn hiσ]at e2;cases e2;exact⟨u,r,.inr ⟨.inl hk,c,hc,hc'⟩⟩
   ·rw[Qo (Ne.symm hj)]at e2;obtain⟨u',r',q⟩:=hl j y v' e1 e2 e3;refine⟨u',r',?_⟩;rcases q with q|⟨k,c',e,z'⟩
    ·exact .inl q
    ·refine .inr ⟨k,c',e,z'.sameBut hs ?_⟩;rintro rfl;exact hj (u5 hN e1 (I.ok.inj _ _ _ e hc ▸ hi))
  ·by_cases hcc:c'=c
   ·subst hcc;exact⟨_,hc'⟩
   ·obtain⟨w2,z2⟩:=I.cell y c' e;exact⟨w2,z2.sameBut hs hcc⟩
  ·obtain⟨e,n,ne,nf,d⟩:=I.pin p hp;refine⟨(hs.2 p.1 ?_).trans e,n,ne,nf,d⟩;intro q;rw[q,hoc]at e;have q':oc=p.2:=Option.some.inj e;exact d w' (by rw[<-q'];exact hocd)
theorem pV{M:Ul}{A:Uj}{E:bL}{i:Nat}{x:Str}{v:V}{u:T5}{Q:Unit->gZ}(I:Inv X pins σ H s)(hN:X.N.Nodup)(hi:X.N[i]?=some x)(hx:Loc X.env.scope x)(r:RelV v u)
  (h:∀s',Inv X pins (σ.set i (some v)) H s'->Q () s') (hf:X.fn x=true\/X.env.scope.names.lookup x=some .local:=by first|exact .inl rfl|exact .inr rfl|assumption):Um M A (storeName X.env x u) Q E s:=
 ra I hN hi hx r (λs' I' _=>h s' I') hf
theorem Inv.call'{s':Ua}{ch:aH}(I:Inv X pins σ H s)(ho:s'.os=s.os)(u:Un (frs X.stack) ch H H' s.heap s'.heap)(hok:oi X.prog X.w H' s'.heap)(hg:AllBare s'.gens)
  (hch:∀b∈ch,(b∈X.ex\/X.s₀.heap.objs.size<=b)/\b≠X.env.locals/\(∀x c,X.env.cells.lookup x=some c->c≠b)/\∀p∈X.pn++pins,p.1≠b):Inv X pins σ H' s':=by
 obtain⟨h',g',d',t',o'⟩:=s';have e:o'=s.os:=ho;subst e;exact I.call (g':=g') (t':=t') (d':=d') u hok hg hch
end
noncomputable abbrev XK:=T5->iq->Hp->Prop
noncomputable abbrev St:=List (Option V)
noncomputable abbrev VK:=V->Hp->Prop
noncomputable abbrev TE:=St->Hp->VK->Prop
noncomputable abbrev TT:=St->Hp->(Bool->Hp->Prop)->Prop
noncomputable abbrev TA:=St->Hp->(aI->Hp->Prop)->Prop
structure Ends where
 nx:St->Hp->Prop
 rt:VK
 bk:St->Hp->Prop:=λ_ _=>False
 ct:St->Hp->Prop:=λ_ _=>False
noncomputable abbrev TS:=Ends->St->Hp->Prop
noncomputable def EP(X:Cx)(pins:aU)(σ:St)(Q:VK)(u:T5)(s':Ua):Prop:=∃v H',Inv X pins σ H' s'/\RelV v u/\Q v H'
noncomputable def TP(X:Cx)(pins:aU)(σ:St)(Q:Bool->Hp->Prop)(b:Bool)(s':Ua):Prop:=∃H',Inv X pins σ H' s'/\Q b H'
noncomputable def AP(X:Cx)(pins:aU)(σ:St)(Q:aI->Hp->Prop)(us:aS)(s':Ua):Prop:=∃vs H',Inv X pins σ H' s'/\Vals vs us/\Q vs H'
noncomputable def SP(X:Cx)(pins:aU)(D:Ends)(f:Flow)(s':Ua):Prop:=
 match f with
 |.next=>∃σ' H',Inv X pins σ' H' s'/\D.nx σ' H'
 |.brk=>∃σ' H',Inv X pins σ' H' s'/\D.bk σ' H'
 |.cont=>∃σ' H',Inv X pins σ' H' s'/\D.ct σ' H'
 |.ret u=>∃v σ' H',Inv X pins σ' H' s'/\RelV v u/\D.rt v H'
noncomputable def PE(X:Cx)(e:T8)(t:TE):Prop:=
 ∀(pins:aU)(s:Ua)(σ:St)(H:Hp)(Q:VK),Inv X pins σ H s->t σ H Q->Um (model X.prog X.w) X.A (eval e X.env) (EP X pins σ Q) X.xe s
noncomputable def PT(X:Cx)(e:T8)(t:TT):Prop:=
 ∀(pins:aU)(s:Ua)(σ:St)(H:Hp)(Q:Bool->Hp->Prop),Inv X pins σ H s->t σ H Q->Um (model X.prog X.w) X.A (isTrue e X.env (eval e X.env)) (TP X pins σ Q) X.xe s
noncomputable def PW(X:Cx)(e:T8)(t:TT):Prop:=
 ∀(whole:Sem T5)(pins:aU)(s:Ua)(σ:St)(H:Hp)(Q:Bool->Hp->Prop),Inv X pins σ H s->t σ H Q->Um (model X.prog X.w) X.A (isTrue e X.env whole) (TP X pins σ Q) X.xe s
theorem PW.pt{X:Cx}{e:T8}{t:TT}(h:PW X e t):PT X e t:=h _
noncomputable def PA(X:Cx)(es:bi)(t:TA):Prop:=
 ∀(pos:Pos)(pins:aU)(s:Ua)(σ:St)(H:Hp)(Q:aI->Hp->Prop),Inv X pins σ H s->t σ H Q->Um (model X.prog X.w) X.A (spliced (backTo pos (Uo es X.env))) (AP X pins σ Q) X.xe s
noncomputable def PS(X:Cx)(st:T9)(t:TS):Prop:=
 ∀(pins:aU)(s:Ua)(σ:St)(H:Hp)(D:Ends),Inv X pins σ H s->t D σ H->Um (model X.prog X.w) X.A (exec st X.env) (SP X pins D) X.xe s
noncomputable def uf(X:Cx)(st:dE)(t:TS):Prop:=
 ∀(pins:aU)(s:Ua)(σ:St)(H:Hp)(D:Ends),Inv X pins σ H s->t D σ H->Um (model X.prog X.w) X.A (execs st X.env) (SP X pins D) X.xe s
theorem cu{α:Type}{t:Sem α}{Q Q':α->gZ}{M:Ul}{A:Uj}{E:bL}{s:Ua}(h:Um M A t Q E s)(hQ:∀a s,Q a s->Q' a s):Um M A t Q' E s:=Up h hQ λ_ _ x=>x
section
variable{X:Cx}
noncomputable def pF(i:Nat):TE:=λσ H Q=>∃v,σ[i]?=some (some v)/\Q v H
noncomputable def tC(v:V):TE:=λ_ H Q=>Q v H
theorem Hc{i:Nat}{x:Str}{pos:Pos}(hN:X.N[i]?=some x)(hv:HM X.env.scope x)(hd:(x==("__debug__":Str))=false:=by decide)(hcd:(x==("__classdict__":Str))=false:=by decide):PE X (.Name x pos) (pF i):=by
 intro pins s σ H Q I h;obtain⟨v,e,h⟩:=h;obtain⟨m,hn,hl⟩:=I.loc;obtain⟨u,r,l⟩:=hl i x v hN e hv;have fin:EP X pins σ Q u s:=⟨v,H,I,r,h⟩
 rcases l with⟨hk,hm⟩|⟨hk,c,hc,hcell⟩
 ·exact wpAny_Name (wpAny_loadName_local I.ok.kind hk hn hm fin) hd
 ·rcases hk with hk|hk
  ·exact wpAny_Name (wpAny_loadName_cell I.ok.kind hk hc hcell fin) hd
  ·exact wpAny_Name (wpAny_loadName_free I.ok.kind hk hc hcell fin hcd) hd
theorem Cv{i j pos}:PE X (.Constant (.int i) j pos) (tC (.int i)):=λ_ _ _ H _ I h=>wpAny_Constant_int ⟨.int i,H,I.tok _,⟨_,rfl⟩,h⟩
theorem Ja{b j pos}:PE X (.Constant (.bool b) j pos) (tC (.bl b)):=λ_ _ _ H _ I h=>Constant_bool ⟨.bl b,H,I,rfl,h⟩
theorem II{j pos}:PE X (.Constant .none j pos) (tC .non):=λ_ _ _ H _ I h=>Constant_none ⟨.non,H,I,rfl,h⟩
theorem Gx{x j pos}:PE X (.Constant (.str x) j pos) (tC (.str x)):=λ_ _ _ H _ I h=>Calls.Constant_str ⟨.str x,H,I.tok _,⟨_,rfl⟩,h⟩
noncomputable def Gl(X:Cx)(x:Str):Prop:=X.env.kindOf x=some .globalImplicit
theorem hW{E:bL}{pins:aU}{s:Ua}{σ:St}{H:Hp}{x:Str}{u:T5}{pos:Pos}{Q:bL}(I:Inv X pins σ H s)(hg:Gl X x)(hm:X.mg x=some u)(h:Q u s)
  (hd:(x==("__debug__":Str))=false:=by decide):Um (model X.prog X.w) X.A (eval (.Name x pos) X.env) Q E s:=
 Calls.Name_function_global I.ok.kind hg (Calls.loadGlobal_global (by rw[I.ok.glob];exact I.mod.glob.keeps I.bk) hm h) hd
theorem jY{E:bL}{pins:aU}{s:Ua}{σ:St}{H:Hp}{x:Str}{u:T5}{pos:Pos}{Q:bL}(I:Inv X pins σ H s)(hg:Gl X x)(hm:X.mg x=none)(hv:Ui x=some u)(h:Q u s)
  (hn:x≠"__name__":=by decide) (hd:(x==("__debug__":Str))=false:=by decide):Um (model X.prog X.w) X.A (eval (.Name x pos) X.env) Q E s:=by
 obtain⟨mb,h1,h2⟩:=I.mod.blt;exact Calls.Name_function_global I.ok.kind hg (Calls.loadGlobal_builtin (by rw[I.ok.glob];exact I.mod.glob.keeps I.bk) hm (by rw[I.ok.blt];exact h1.keeps I.bk) ((h2 x hn).trans hv) h) hd
theorem tH{x:Str}{v:V}{u:T5}{pos:Pos}(hg:Gl X x)(hm:X.mg x=some u)(r:RelV v u)(hd:(x==("__debug__":Str))=false:=by decide):PE X (.Name x pos) (tC v):=
 λ_ _ _ H _ I h=>hW I hg hm ⟨v,H,I,r,h⟩ hd
theorem xA{x:Str}{v:V}{u:T5}{pos:Pos}(hg:Gl X x)(hm:X.mg x=none)(hv:Ui x=some u)(r:RelV v u)(hn:x≠"__name__":=by decide)(hd:(x==("__debug__":Str))=false:=by decide):PE X (.Name x pos) (tC v):=
 λ_ _ _ H _ I h=>jY I hg hm hv ⟨v,H,I,r,h⟩ hn hd
variable{a b:T8}{ta tb:TE}{pos:Pos}
noncomputable def PC(X:Cx)(op:Uq)(a b:T8)(t:TE):Prop:=
 ∀(pins:aU)(s:Ua)(σ:St)(H:Hp)(Q:VK),Inv X pins σ H s->t σ H Q->
  Um (model X.prog X.w) X.A (eval a X.env) (λv s₁=>Um (model X.prog X.w) X.A (eval b X.env) (λu s₂=>Um (model X.prog X.w) X.A (Ur op v u) (EP X pins σ Q) X.xe s₂) X.xe s₁) X.xe s
theorem uA(b:T8){op:Uq}(h:op≠.In)(h2:op≠.NotIn):Us op b=false:=by
 have e1:(op==CmpOp.In)=false:=by cases op<;>first|rfl|exact absurd rfl h
 have e2:(op==CmpOp.NotIn)=false:=by cases op<;>first|rfl|exact absurd rfl h2
 cases b<;>simp[Us,e1,e2]
noncomputable def MS(ta:TE):TE:=λσ H Q=>ta σ H λx H1=>Q (.bl (decide (x=.non))) H1
theorem RelV.none_iff{x:V}{v:T5}(r:RelV x v):(v==Value.none)=decide (x=.non):=by
 cases x with
 |non=>cases r;rfl
 |bl _=>cases r;rfl
 |int _=>obtain⟨t,rfl⟩:=r;rfl
 |str _=>obtain⟨t,rfl⟩:=r;rfl
 |byt _=>obtain⟨t,rfl⟩:=r;rfl
 |flt _=>obtain⟨t,rfl⟩:=r;rfl
 |ref _=>cases r;rfl
 |ty _=>cases r;rfl
theorem BD{j pos'}(ha:PE X a ta):PC X .Is a (.Constant .none j pos') (MS ta):=by
 intro pins s σ H Q I h;refine cu (ha pins s σ H _ I h) λv s1 ⟨x,H1,I1,r1,q1⟩=>?_;exact Constant_none (is_none_gen ⟨.bl _,H1,I1,by rw[r1.none_iff];rfl,q1⟩)
noncomputable def tB(t:TE):TT:=λσ H Q=>t σ H λx H1=>∃c,x=.bl c/\Q c H1
theorem Gy{op:Uq}{t:TE}(h:PC X op a b t)(h1:Us op b=false:=by first|exact uA _ (by decide) (by decide)|rfl):PE X (.Compare a [op] [b] pos) t:=λpins s σ H Q I hw=>wpAny_Compare1 (h pins s σ H Q I hw) h1
theorem Ia{op:Uq}{t:TE}(h:PC X op a b t)(h1:Us op b=false:=by first|exact uA _ (by decide) (by decide)|rfl):PT X (.Compare a [op] [b] pos) (tB t):=by
 intro pins s σ H Q I hw;refine wpAny_isTrue_Compare1 (cu (h pins s σ H _ I hw) λv s1 h1=>cu h1 λu s2 h2=>cu h2 λc s3 ⟨x,H1,I1,r1,q1⟩=>?_) h1;obtain⟨d,rfl,q⟩:=q1;cases r1;exact Ut ⟨H1,I1,q⟩
variable{tA tB':TT}{rest:bi}
noncomputable def LD(t u:TT):TT:=λσ H Q=>t σ H λc H1=>if c=true then u σ H1 Q else Q false H1
noncomputable def PX(t u:TT):TT:=λσ H Q=>t σ H λc H1=>if c=true then Q true H1 else u σ H1 Q
noncomputable def Mu(t:TT):TT:=λσ H Q=>t σ H λc H1=>Q (!c) H1
theorem EH(ha:PT X a tA):PW X (.BoolOp .And [a] pos) tA:=by
 intro wh pins s σ H Q I h;refine isTrue_and (cu (ha pins s σ H Q I h) λc s1 e=>?_);cases c with
 |true=>exact isTrue_and_nil e
 |false=>exact e
theorem Hx(ha:PT X a tA):PW X (.BoolOp .Or [a] pos) tA:=by
 intro wh pins s σ H Q I h;refine isTrue_or (cu (ha pins s σ H Q I h) λc s1 e=>?_);cases c with
 |false=>exact isTrue_or_nil e
 |true=>exact e
theorem IG(ha:PT X a tA)(hb:PW X (.BoolOp .And (b::rest) pos) tB'):PW X (.BoolOp .And (a::b::rest) pos) (LD tA tB'):=by
 intro wh pins s σ H Q I h;refine isTrue_and (cu (ha pins s σ H _ I h) λc s1 ⟨H1,I1,q1⟩=>?_);cases c with
 |true=>exact hb wh pins s1 σ H1 Q I1 q1
 |false=>exact⟨H1,I1,q1⟩
theorem Jm(ha:PT X a tA)(hb:PW X (.BoolOp .Or (b::rest) pos) tB'):PW X (.BoolOp .Or (a::b::rest) pos) (PX tA tB'):=by
 intro wh pins s σ H Q I h;refine isTrue_or (cu (ha pins s σ H _ I h) λc s1 ⟨H1,I1,q1⟩=>?_);cases c with
 |true=>exact⟨H1,I1,q1⟩
 |false=>exact hb wh pins s1 σ H1 Q I1 q1
theorem HC(ha:PT X a tA):PT X (.UnaryOp .Not a pos) (Mu tA):=by
 intro pins s σ H Q I h;exact isTrue_not (ha pins s σ H (λc H1=>Q (!c) H1) I h)
noncomputable def Js(ta tb:TE):TE:=λσ H Q=>ta σ H λx H1=>∃c,x=.bl c/\if c=true then tb σ H1 Q else Q (.bl false) H1
noncomputable def Mp(ta tb:TE):TE:=λσ H Q=>ta σ H λx H1=>∃c,x=.bl c/\if c=true then Q (.bl true) H1 else tb σ H1 Q
noncomputable def JW(ta:TE):TE:=λσ H Q=>ta σ H λx H1=>∃c,x=.bl c/\Q (.bl (!c)) H1
theorem GD{op}{t:TE}(h:PE X a t):PE X (.BoolOp op [a] pos) t:=λpins s σ H Q I hw=>BoolOp_one (h pins s σ H Q I hw)
theorem Gk(ha:PE X a ta)(hb:PE X (.BoolOp .And (b::rest) pos) tb):PE X (.BoolOp .And (a::b::rest) pos) (Js ta tb):=by
 intro pins s σ H Q I h;refine BoolOp_and (cu (ha pins s σ H _ I h) λv s1 ⟨x,H1,I1,r1,q1⟩=>?_);obtain⟨c,rfl,q1⟩:=q1;cases r1;refine Ut ?_;cases c with
 |true=>exact hb pins s1 σ H1 Q I1 q1
 |false=>exact⟨.bl false,H1,I1,rfl,q1⟩
theorem Jp(ha:PE X a ta)(hb:PE X (.BoolOp .Or (b::rest) pos) tb):PE X (.BoolOp .Or (a::b::rest) pos) (Mp ta tb):=by
 intro pins s σ H Q I h;refine BoolOp_or (cu (ha pins s σ H _ I h) λv s1 ⟨x,H1,I1,r1,q1⟩=>?_);obtain⟨c,rfl,q1⟩:=q1;cases r1;refine Ut ?_;cases c with
 |false=>exact hb pins s1 σ H1 Q I1 q1
 |true=>exact⟨.bl true,H1,I1,rfl,q1⟩
theorem Gn(ha:PE X a ta):PE X (.UnaryOp .Not a pos) (JW ta):=by
 intro pins s σ H Q I h;refine UnaryOp_ (cu (ha pins s σ H _ I h) λv s1 ⟨x,H1,I1,r1,q1⟩=>?_);obtain⟨c,rfl,q1⟩:=q1;cases r1;exact not_of (Ut ⟨.bl (!c),H1,I1,rfl,q1⟩)
noncomputable def Pr(t:TT)(ta tb:TE):TE:=λσ H Q=>t σ H λc H1=>if c=true then ta σ H1 Q else tb σ H1 Q
theorem Bp{c:T8}(hc:PT X c tA)(ha:PE X a ta)(hb:PE X b tb):PE X (.IfExp c a b pos) (Pr tA ta tb):=by
 intro pins s σ H Q I h;refine wpAny_IfExp (cu (hc pins s σ H _ I h) λd s1 ⟨H1,I1,q1⟩=>?_);cases d with
 |true=>exact ha pins s1 σ H1 Q I1 q1
 |false=>exact hb pins s1 σ H1 Q I1 q1
end
noncomputable def lI(K:Sn)(H:Hp)(a:T7)(xs:aI):Prop:=
 Rd H a (.lst xs) \/
  ∃(o:Obj)(its:Array T5)(n:Nat),K.lookup a=some o/\o.cls=.type "list"/\o.dict=none/\o.data=.seq its n/\its.size<=Ug/\Vals xs its.toList
noncomputable def n0(K:Sn)(H:Hp)(a:T7)(xs:aI):Prop:=
 Rd H a (.tup xs) \/
  ∃(o:Obj)(its:Array T5)(n:Nat),K.lookup a=some o/\o.cls=.type "tuple"/\o.data=.seq its n/\its.size<=Ug/\Vals xs its.toList
noncomputable def Nh:T5->Option V
 |.none=>some .non
 |.bool b=>some (.bl b)
 |.int i _=>some (.int i)
 |.str x _=>some (.str x)
 |.bytes b _=>some (.byt b)
 |.float b _=>some (.flt b)
 |.ref a=>some (.ref a)
 |.type n=>some (.ty n)
 |_=>none
theorem RelV.abs{x:V}{u:T5}(r:RelV x u):Nh u=some x:=by
 cases x with
 |non=>cases r;rfl
 |bl _=>cases r;rfl
 |int _=>obtain⟨t,rfl⟩:=r;rfl
 |str _=>obtain⟨t,rfl⟩:=r;rfl
 |byt _=>obtain⟨t,rfl⟩:=r;rfl
 |flt _=>obtain⟨t,rfl⟩:=r;rfl
 |ref _=>cases r;rfl
 |ty _=>cases r;rfl
theorem RelV.inj{x y:V}{u:T5}(r:RelV x u)(q:RelV y u):x=y:=Option.some.inj (r.abs.symm.trans q.abs)
theorem Vals.inj:∀{xs ys:aI}{us:aS},Vals xs us->Vals ys us->xs=ys
 |_,_,_,.nil,.nil=>rfl
 |_,_,_,.cons r t,.cons r' t'=>by rw[r.inj r',Vals.inj t t']
section
variable{X:Cx}{pins:aU}{σ:St}{H:Hp}{s:Ua}{a:T7}{xs ys:aI}
theorem lI.of{K:Sn}(h:H a=some (.lst xs)):lI K H a xs:=.inl (.inl h)
theorem n0.of{K:Sn}(h:H a=some (.tup xs)):n0 K H a xs:=.inl (.inl h)
theorem Inv.list(I:Inv X pins σ H s)(h:lI X.K H a xs):∃its:aS,Vals xs its/\PlainL s.heap a its.toArray/\xs.length<=Ug:=by
 rcases h with h|⟨o,its,n,hk,hc,hd,hs,hz,r⟩
 ·obtain⟨z,its,n,r,e⟩:=h.ok I.hok;exact⟨its,r,⟨_,n,e,rfl,rfl,rfl⟩,z⟩
 ·refine⟨its.toList,r,⟨o,n,I.kIn a o hk,hc,hd,by simpa using hs⟩,?_⟩;have e:=r.length;simp only[Array.length_toList]at e;omega
theorem Inv.tuple(I:Inv X pins σ H s)(h:n0 X.K H a xs):∃its:aS,Vals xs its/\IsTup s.heap a its.toArray/\xs.length<=Ug:=by
 rcases h with h|⟨o,its,n,hk,hc,hs,hz,r⟩
 ·obtain⟨z,its,r,p⟩:=h.ok I.hok;exact⟨its,r,p,z⟩
 ·refine⟨its.toList,r,⟨o,I.kIn a o hk,hc,n,by simpa using hs⟩,?_⟩;have e:=r.length;simp only[Array.length_toList]at e;omega
theorem Inv.list_inj(I:Inv X pins σ H s)(h:lI X.K H a xs)(h':lI X.K H a ys):xs=ys:=by
 obtain⟨its,r,⟨o,n,e,_,_,d⟩,_⟩:=I.list h;obtain⟨its',r',⟨o',n',e',_,_,d'⟩,_⟩:=I.list h';rw[e]at e';cases e';rw[d]at d';injection d' with d1 _
 have:its=its':=by simpa using congrArg Array.toList d1
 subst this;exact r.inj r'
theorem Inv.tuple_inj(I:Inv X pins σ H s)(h:n0 X.K H a xs)(h':n0 X.K H a ys):xs=ys:=by
 obtain⟨its,r,⟨o,e,_,n,d⟩,_⟩:=I.tuple h;obtain⟨its',r',⟨o',e',_,n',d'⟩,_⟩:=I.tuple h';rw[e]at e';cases e';rw[d]at d';injection d' with d1 _
 have:its=its':=by simpa using congrArg Array.toList d1
 subst this;exact r.inj r'
end
noncomputable abbrev Cx.wish(X:Cx)(E:bL):Cx:={X with xe:=E}
noncomputable abbrev Cx.nox(X:Cx):Cx:=X.wish λ_ _=>False
theorem Cx.Ok.wish{X:Cx}(ok:X.Ok)(E:bL):(X.wish E).Ok:=
 ⟨ok.mod,ok.kind,ok.glob,ok.blt,ok.above,ok.inj,ok.has,ok.cab,ok.hd,ok.frames,ok.stk,ok.exf,ok.bs,ok.bsz,ok.noex,ok.exfs,ok.funs,ok.frf⟩
theorem Cx.Ok.unwish{X:Cx}{E:bL}(ok:(X.wish E).Ok):X.Ok:=
 ⟨ok.mod,ok.kind,ok.glob,ok.blt,ok.above,ok.inj,ok.has,ok.cab,ok.hd,ok.frames,ok.stk,ok.exf,ok.bs,ok.bsz,ok.noex,ok.exfs,ok.funs,ok.frf⟩
section
variable{X:Cx}{pins:aU}{σ:St}{H:Hp}{s:Ua}{E:bL}
theorem Inv.wish(I:Inv X pins σ H s)(E:bL):Inv (X.wish E) pins σ H s:=⟨I.ok.wish E,I.os,I.bare,I.base,I.loc,I.cell,I.free,I.freeC,I.pin,I.hok,I.len⟩
theorem Inv.unwish(I:Inv (X.wish E) pins σ H s):Inv X pins σ H s:=⟨I.ok.unwish,I.os,I.bare,I.base,I.loc,I.cell,I.free,I.freeC,I.pin,I.hok,I.len⟩
theorem SP.unwish{D:Ends}{f:Flow}{s':Ua}(h:SP (X.wish E) pins D f s'):SP X pins D f s':=by
 cases f with
 |next=>obtain⟨σ',H',I,q⟩:=h;exact⟨σ',H',I.unwish,q⟩
 |brk=>obtain⟨σ',H',I,q⟩:=h;exact⟨σ',H',I.unwish,q⟩
 |cont=>obtain⟨σ',H',I,q⟩:=h;exact⟨σ',H',I.unwish,q⟩
 |ret u=>obtain⟨v,σ',H',I,r,q⟩:=h;exact⟨v,σ',H',I.unwish,r,q⟩
theorem uf.nox{st:dE}{t:TS}(h:uf X.nox st t):uf X st t:=λpins s σ H D I hw=>
 Up (h pins s σ H D (I.wish _) hw) (λ_ _ q=>q.unwish) λ_ _ z=>False.elim z
end
section
variable{X:Cx}{st:T9}{rest:dE}{t u:TS}{e:T8}{te:TE}{pos:Pos}
noncomputable def A3:TS:=λD σ H=>D.nx σ H
noncomputable def Nj(t u:TS):TS:=λD σ H=>t {D with nx:=u D} σ H
theorem xr:uf X [] A3:=λ_ _ σ H _ I h=>Uu ⟨σ,H,I,h⟩
theorem o6(h1:PS X st t)(h2:uf X rest u):uf X (st::rest) (Nj t u):=by
 intro pins s σ H D I h;refine wpAny_execs_cons (cu (h1 pins s σ H {D with nx:=u D} I h) λf s1 q=>?_);cases f with
 |next=>
  obtain⟨σ',H',I',q⟩:=q;exact h2 pins s1 σ' H' D I' q
 |ret v=>exact q
 |brk=>exact q
 |cont=>exact q
theorem sY(h1:PS X st t):uf X [st] t:=by
 intro pins s σ H D I h;refine wpAny_execs_cons (cu (h1 pins s σ H D I h) λf s1 q=>?_);cases f with
 |next=>exact Uu q
 |ret v=>exact q
 |brk=>exact q
 |cont=>exact q
theorem Fb:PS X (.Pass pos) A3:=λ_ _ σ H _ I h=>wpAny_Pass ⟨σ,H,I,h⟩
theorem Inv.quiet{pins:aU}{σ:St}{H:Hp}{s:Ua}(I:Inv X pins σ H s):interactive X.env=false:=by simp[interactive,I.ok.kind]
theorem G4{x j pos pos'}:PS X (.Expr (.Constant (.str x) j pos) pos') A3:=λ_ s σ H _ I h=>wpAny_Expr (Calls.Constant_str (show SP X _ _ .next {s with toks:=s.toks+1}from⟨σ,H,I.tok _,h⟩)) I.quiet
noncomputable def JK(te:TE):TS:=λD σ H=>te σ H λ_ H1=>D.nx σ H1
theorem xC(he:PE X e te)(hs:swapsWith e none pos.line X.env=pure false:=by rfl):PS X (.Expr e pos) (JK te):=by
 intro pins s σ H D I h;exact wpAny_Expr_any (cu (he pins s σ H _ I h) λv s1 ⟨x,H1,I1,r1,q1⟩=>⟨σ,H1,I1,q1⟩) I.quiet hs
noncomputable def NC(te:TE):TS:=λD σ H=>te σ H D.rt
theorem Iw(he:PE X e te):PS X (.Return (some e) pos) (NC te):=by
 intro pins s σ H D I h;exact wpAny_Return_some (cu (he pins s σ H _ I h) λv s1 ⟨x,H1,I1,r1,q1⟩=>⟨x,σ,H1,I1,r1,q1⟩)
noncomputable def K1(c:TT)(t u:TS):TS:=λD σ H=>c σ H λb H1=>if b=true then t D σ H1 else u D σ H1
theorem Jd{c:T8}{a b:dE}{tc:TT}(hc:PT X c tc)(ha:uf X a t)(hb:uf X b u):PS X (.If c a b pos) (K1 tc t u):=by
 intro pins s σ H D I h;refine wpAny_If (cu (hc pins s σ H _ I h) λd s1 ⟨H1,I1,q1⟩=>?_);cases d with
 |true=>exact ha pins s1 σ H1 D I1 q1
 |false=>exact hb pins s1 σ H1 D I1 q1
end
noncomputable abbrev TG:=V->St->Hp->(St->Hp->Prop)->Prop
noncomputable abbrev Gb:=List V->St->Hp->(St->Hp->Prop)->Prop
noncomputable def PG(X:Cx)(target:T8)(t:TG):Prop:=
 ∀(pins:aU)(s:Ua)(σ:St)(H:Hp)(v:V)(u:T5)(Q:St->Hp->Prop),Inv X pins σ H s->RelV v u->t v σ H Q->
  Um (model X.prog X.w) X.A (assign target X.env u) (λ_ s'=>∃σ' H',Inv X pins σ' H' s'/\Q σ' H') X.xe s
noncomputable def Jq(X:Cx)(ts:bi)(t:Gb):Prop:=
 ∀(pins:aU)(s:Ua)(σ:St)(H:Hp)(vs:aI)(us:aS)(Q:St->Hp->Prop),Inv X pins σ H s->Vals vs us->t vs σ H Q->
  Um (model X.prog X.w) X.A (assignInOrder ((assignEach ts X.env).map (·.2)) us) (λ_ s'=>∃σ' H',Inv X pins σ' H' s'/\Q σ' H') X.xe s
section
variable{X:Cx}{pos:Pos}
noncomputable def rj(i:Nat):TG:=λv σ H Q=>Q (σ.set i (some v)) H
theorem CU{i:Nat}{x:Str}(hN:X.N.Nodup)(hi:X.N[i]?=some x)(hx:Loc X.env.scope x)(hf:X.fn x=true\/X.env.scope.names.lookup x=some .local:=by first|exact .inl rfl|exact .inr rfl|assumption):PG X (.Name x pos) (rj i):=by
 intro pins s σ H v u Q I r h;exact wpAny_assign_Name (pV I hN hi hx r (λs' I'=>⟨_,H,I',h⟩) hf)
noncomputable def LV:Gb:=λvs σ H Q=>vs=[]/\Q σ H
noncomputable def Je(t:TG)(u:Gb):Gb:=λvs σ H Q=>∃v r,vs=v::r/\t v σ H λσ' H'=>u r σ' H' Q
theorem DN:Jq X [] LV:=by
 intro pins s σ H vs us Q I r h;obtain⟨e,h⟩:=h;subst e;cases r;exact assignInOrder_nil ⟨σ,H,I,h⟩
theorem Ce{e:T8}{es:bi}{t:TG}{u:Gb}(h1:PG X e t)(h2:Jq X es u)
  (hs:(assignEach (e::es) X.env).map (·.2)=assign e X.env::(assignEach es X.env).map (·.2):=by rfl):Jq X (e::es) (Je t u):=by
 intro pins s σ H vs us Q I r h;obtain⟨v,vr,e1,h⟩:=h;subst e1;cases r with
 |cons r rr=>
  rw[hs];refine assignInOrder_cons (cu (h1 pins s σ H _ _ _ I r h) λ_ s1 ⟨σ1,H1,I1,q1⟩=>?_);exact h2 pins s1 σ1 H1 _ _ Q I1 rr q1
noncomputable def ND(K:Sn)(n:Nat)(t:Gb):TG:=λv σ H Q=>∃a xs,v=.ref a/\n0 K H a xs/\xs.length=n/\t xs σ H Q
theorem GQ{es:bi}{k:Nat}{t:Gb}{n:Nat}(hc:X.calm=true)(h:Jq X es t)
  (hn:(assignEach es X.env).length=n:=by rfl) (hst:(assignEach es X.env).findIdx? (·.1)=none:=by rfl):PG X (.Tuple es k pos) (ND X.K n t):=by
 intro pins s σ H v u Q I r hw;obtain⟨a,xs,e1,hq,hl,hw⟩:=hw;subst e1;cases r;obtain⟨its,rv,ht,hz⟩:=I.tuple hq;refine assign_Tuple_tuple (I.ok.hd hc) ht (by simp[hn,<-hl,rv.length]) hst λh' hx=>?_;have I1:Inv X pins σ H {s with heap:=h'}:=I.kept (t':=s.toks) λb o e=>hx b o (Qg (To e)) e;exact h pins _ σ H xs _ Q I1 (by simpa using rv) hw
noncomputable def Ag(te:TE)(g:TG):TS:=λD σ H=>te σ H λx H1=>g x σ H1 D.nx
theorem HQ{tg e:T8}{te:TE}{g:TG}(he:PE X e te)(hg:PG X tg g)(hs:swapsWithSole [tg] e pos.line X.env=pure false:=by rfl)(hw:swappedStores [tg] e X.env=pure none:=by rfl)
  (h1:(assignEach [tg] X.env).map (·.2)=[assign tg X.env]:=by rfl):PS X (.Assign [tg] e pos) (Ag te g):=by
 intro pins s σ H D I h;refine wpAny_Assign_stores (cu (he pins s σ H _ I h) λv s1 ⟨x,H1,I1,r1,q1⟩=>?_) hs hw;rw[h1];exact cu (hg pins s1 σ H1 x v _ I1 r1 q1) λ_ s2 q=>q
theorem A5{i:Nat}{x:Str}{e:T8}{te:TE}{pos':Pos}(hN:X.N.Nodup)(hi:X.N[i]?=some x)(hx:Loc X.env.scope x)(he:PE X e te)(hs:swapsWith e (some (.Name x pos')) pos.line X.env=pure false:=by rfl)(hf:X.fn x=true\/X.env.scope.names.lookup x=some .local:=by first|exact .inl rfl|exact .inr rfl|assumption):
  PS X (.Assign [.Name x pos'] e pos) (Ag te (rj i)):=by
 intro pins s σ H D I h;refine wpAny_Assign_Name (cu (he pins s σ H _ I h) λv s1 ⟨y,H1,I1,r1,q1⟩=>?_) hs;exact pV I1 hN hi hx r1 (λs2 I2=>⟨_,H1,I2,q1⟩) hf
end
structure It where
 go:Nat->Hp->Prop
 yld:Nat->Hp->V->Hp->Prop
 stop:Nat->Hp->Prop
noncomputable def qA(X:Cx)(pins:aU)(H:Hp)(b:T7):Prop:=
 H b=none/\b≠X.env.locals/\b∉X.fs/\(b∈X.ex\/X.s₀.heap.objs.size<=b)/\(∀x c,X.env.cells.lookup x=some c->c≠b)/\∀p∈X.pn++pins,p.1≠b
theorem Inv.fpOk{X:Cx}{pins:aU}{σ:St}{H H':Hp}{s:Ua}{b:T7}(I:Inv X pins σ H s)(hb:s.heap.objs.size<=b)(hn:H' b=none):qA X pins H' b:=by
 refine⟨hn,Qp (Qe I.lt hb),I.nofs hb,.inr (Qh I.sz hb),λx c e z=>?_,λp hp z=>?_⟩
 ·obtain⟨v,q⟩:=I.cell x c e;exact absurd (Qe q.lt (by rw[z];exact hb)) (Qf _)
 ·exact absurd (Qe (To (I.pin p hp).1) (by rw[z];exact hb)) (Qf _)
structure Turn(P:Uc)(w:Ub)(K:Sn)(tg:T8)(J:It)(fp:aH)(it:T7)(tn:Nat->Ue->Prop):Prop where
 mem:it∈fp
 obj:∀i h,tn i h->∀b∈fp,∃o,h.get? b=some o/\∀v,o.data≠.cell v
 keep:∀i h h',tn i h->(∀b∈fp,∀o,h.get? b=some o->h'.get? b=some o)->tn i h'
 item:∀(X:Cx),X.prog=P->X.w=w->X.K=K->X.calm=true->∀(i:Nat)(pins:aU)(s:Ua)(σ:St)(H:Hp)(E:bL),Inv X pins σ H s->(∀b∈fp,qA X pins H b)->tn i s.heap->J.go i H->
  Um (model P w) X.A (pyNext (.ref it)) (λr s1=>∃u,r=some u/\
   Um (model P w) X.A (letOwnedTupleGo tg (.ref it) u) (λ_ s2=>∃x H',Inv X pins σ H' s2/\RelV x u/\J.yld i H x H'/\tn (i+1) s2.heap/\∀b∈fp,H' b=none) E s1) E s
 done:∀(X:Cx),X.prog=P->X.w=w->X.K=K->X.calm=true->∀(i:Nat)(pins:aU)(s:Ua)(σ:St)(H:Hp)(E:bL),Inv X pins σ H s->(∀b∈fp,qA X pins H b)->tn i s.heap->J.stop i H->
  Um (model P w) X.A (pyNext (.ref it)) (λr s1=>r=none/\Inv X pins σ H s1) E s
 self:∀(A:Uj)(i:Nat)(s:Ua)(Q:bL)(E:bL),tn i s.heap->Q (.ref it) s->Um (model P w) A (pyIter (.ref it)) Q E s
noncomputable abbrev TI:=St->Hp->(It->Hp->Prop)->Prop
noncomputable def PIE(X:Cx)(pins:aU)(σ:St)(tg:T8)(R:It->Hp->Prop)(itv:T5)(s2:Ua):Prop:=
 ∃(it:T7)(fp:aH)(tn:Nat->Ue->Prop)(J:It)(H':Hp),itv=.ref it/\Inv X pins σ H' s2/\Turn X.prog X.w X.K tg J fp it tn/\tn 0 s2.heap/\(∀b∈fp,qA X pins H' b)/\R J H'
noncomputable def PI(X:Cx)(tg iter:T8)(wi:TI):Prop:=
 ∀(pins:aU)(s:Ua)(σ:St)(H:Hp)(R:It->Hp->Prop),Inv X pins σ H s->wi σ H R->
  Um (model X.prog X.w) X.A (eval iter X.env) (λv s1=>Um (model X.prog X.w) X.A (pyIter v) (PIE X pins σ tg R) X.xe s1) X.xe s
theorem Be{M:Ul}{A:Uj}{E:bL}{s:Ua}{tg:T8}{it:T7}{u:T5}{o:Obj}{n:String}{vs:Array T5}{Q:Unit->gZ}(ho:s.heap.get? it=some o)(hc:o.cls=.type n)(hd:o.data=.fields vs)
    (hn:["enumerate","zip","dict_itemiterator","dict_reverseitemiterator","odict_iterator","itertools.zip_longest","itertools.pairwise"].contains n=false) (hQ:Q () s):Um M A (letOwnedTupleGo tg (.ref it) u) Q E s:=by
  unfold letOwnedTupleGo;cases tg<;>first
    |exact Uv hQ
    | (cases u <;> first
        |exact Uv hQ
        | (refine Uw (wpAny_load ho ?_)
           rw[hc,hd];show Um M A (if(["enumerate","zip","dict_itemiterator","dict_reverseitemiterator","odict_iterator","itertools.zip_longest","itertools.pairwise"].contains n&&vs[0]?==some (rawInt _))=true then _ else _) Q E s;rw[if_neg (by intro h;rw[hn,Bool.false_and]at h;cases h)];exact Uv hQ))
noncomputable def MH(K:Sn)(a:T7):It:=
 ⟨λi H=>∃xs x,lI K H a xs/\xs[i]?=some x,λi H x H'=>H'=H/\∀xs,lI K H a xs->xs[i]?=some x,λi H=>∃xs,lI K H a xs/\xs.length<=i⟩
noncomputable def LR(K:Sn)(a:T7):It:=
 ⟨λi H=>∃xs x,n0 K H a xs/\xs[i]?=some x,λi H x H'=>H'=H/\∀xs,n0 K H a xs->xs[i]?=some x,λi H=>∃xs,n0 K H a xs/\xs.length<=i⟩
noncomputable def JQ(lo:Int)(n:Nat):It:=⟨λi _=>i<n,λi H x H'=>H'=H/\x=.int (lo+i),λi _=>n<=i⟩
theorem yZ{P:Uc}{w:Ub}{K:Sn}{tg:T8}(a it:T7):Turn P w K tg (MH K a) [it] it (λi h=>h.IsListIter it a i)where
 mem:=by simp
 obj:=λi h st b hb=>by
  have e:b=it:=by simpa using hb
  subst e;obtain⟨o,e,c,d⟩:=st;exact⟨o,e,λv z=>by rw[d]at z;cases z⟩
 keep:=λi h h' st k=>st.at λo e=>k it (by simp) o e
 item:=by
  intro X hP hw hK hc i pins s σ H E I hf st hg;subst hP hw hK;obtain⟨xs,x,hq,hx⟩:=hg;obtain⟨its,rv,p,hz⟩:=I.list hq;obtain⟨u,hu,ru⟩:=rv.get hx;obtain⟨f0,f1,f2,f3,f4,f5⟩:=hf it (by simp);refine wpAny_pyNext_list_item st p.isList (x:=u) (by simpa using hu) λh' st' sb=>?_;have I1:Inv X pins σ H {s with heap:=h'}:=I.turned (t':=s.toks) (λb o hb e=>(sb.2 b hb).trans e) f0 f1 f3 f4 f5;obtain⟨o,e,c,d⟩:=id st';exact⟨u,rfl,Be (s:={s with heap:=h'}) e c d (by decide) ⟨x,H,I1,ru,⟨rfl,λys hy=>by rw[I.list_inj hy hq];exact hx⟩,st',λb hb=>(hf b hb).1⟩⟩
 done:=by
  intro X hP hw hK hc i pins s σ H E I hf st hg;subst hP hw hK;obtain⟨xs,hq,hx⟩:=hg;obtain⟨its,rv,p,hz⟩:=I.list hq;obtain⟨f0,f1,f2,f3,f4,f5⟩:=hf it (by simp);have hl:=rv.length;exact wpAny_pyNext_list_end (I.ok.hd hc) st p.isList (by simp;omega) λh' eb=>⟨rfl,I.turned (t':=s.toks) (λb o hb e=>eb b o hb e) f0 f1 f3 f4 f5⟩
 self:=λ_ _ _ _ _ st h=>wpAny_pyIter_listiter st h
theorem wF{P:Uc}{w:Ub}{K:Sn}{tg:T8}(a it:T7):Turn P w K tg (LR K a) [it] it (λi h=>h.IsTupleIter it a i)where
 mem:=by simp
 obj:=λi h st b hb=>by
  have e:b=it:=by simpa using hb
  subst e;obtain⟨o,e,c,d⟩:=st;exact⟨o,e,λv z=>by rw[d]at z;cases z⟩
 keep:=λi h h' st k=>st.at λo e=>k it (by simp) o e
 item:=by
  intro X hP hw hK hc i pins s σ H E I hf st hg;subst hP hw hK;obtain⟨xs,x,hq,hx⟩:=hg;obtain⟨its,rv,p,hz⟩:=I.tuple hq;obtain⟨u,hu,ru⟩:=rv.get hx;obtain⟨f0,f1,f2,f3,f4,f5⟩:=hf it (by simp);refine wpAny_pyNext_tuple_item st (show s.heap.IsTuple a its.toArray from p) (x:=u) (by simpa using hu) λh' st' sb=>?_;have I1:Inv X pins σ H {s with heap:=h'}:=I.turned (t':=s.toks) (λb o hb e=>(sb.2 b hb).trans e) f0 f1 f3 f4 f5;obtain⟨o,e,c,d⟩:=id st';exact⟨u,rfl,Be (s:={s with heap:=h'}) e c d (by decide) ⟨x,H,I1,ru,⟨rfl,λys hy=>by rw[I.tuple_inj hy hq];exact hx⟩,st',λb hb=>(hf b hb).1⟩⟩
 done:=by
  intro X hP hw hK hc i pins s σ H E I hf st hg;subst hP hw hK;obtain⟨xs,hq,hx⟩:=hg;obtain⟨its,rv,p,hz⟩:=I.tuple hq;obtain⟨f0,f1,f2,f3,f4,f5⟩:=hf it (by simp);have hl:=rv.length;exact wpAny_pyNext_tuple_end (I.ok.hd hc) st (show s.heap.IsTuple a its.toArray from p) (by simp;omega) λh' eb=>⟨rfl,I.turned (t':=s.toks) (λb o hb e=>eb b o hb e) f0 f1 f3 f4 f5⟩
 self:=λ_ _ _ _ _ st h=>wpAny_pyIter_tupleiter st h
theorem vJ{P:Uc}{w:Ub}{K:Sn}{tg:T8}(it:T7)(lo:Int)(n:Nat):Turn P w K tg (JQ lo n) [it] it (λi h=>IsRangeIter h it (lo+(i:Nat)*1) ((n:Int)-(i:Nat)) 1)where
 mem:=by simp
 obj:=λi h st b hb=>by
  have e:b=it:=by simpa using hb
  subst e;exact⟨_,st,λv z=>by
   have z':Data.fields _=Data.cell v:=z;cases z'⟩
 keep:=λi h h' st k=>k it (by simp) _ st
 item:=by
  intro X hP hw hK hc i pins s σ H E I hf st hg;subst hP hw hK;obtain⟨f0,f1,f2,f3,f4,f5⟩:=hf it (by simp);have W:=Walks.range (prog:=X.prog) (w:=X.w) (I.ok.hd hc) it lo 1 n;refine W.item i s _ _ hg st λv h' tk hv st' kk=>?_;obtain⟨t,rfl⟩:=hv;have I1:Inv X pins σ H {s with heap:=h',toks:=tk}:=I.turned (λb o hb e=>kk b o (by simpa using hb) e) f0 f1 f3 f4 f5;refine⟨_,rfl,Be (s:={s with heap:=h',toks:=tk}) (n:="range_iterator") st' rfl rfl (by decide) ⟨.int (lo+i),H,I1,⟨t,?_⟩,⟨rfl,rfl⟩,st',λb hb=>(hf b hb).1⟩⟩;rw[Int.mul_one]
 done:=by
  intro X hP hw hK hc i pins s σ H E I hf st hg;subst hP hw hK;obtain⟨f0,f1,f2,f3,f4,f5⟩:=hf it (by simp);exact wpAny_pyNext_range_end (I.ok.hd hc) st (by have:n<=i:=hg;omega) λh' eb=>⟨rfl,I.turned (t':=s.toks) (λb o hb e=>eb b o hb e) f0 f1 f3 f4 f5⟩
 self:=λ_ _ _ _ _ st h=>wpAny_pyIter_rangeiter st h
section
variable{X:Cx}{tg:T8}
noncomputable def J9(K:Sn)(tl:TE):TI:=λσ H R=>tl σ H λx H1=>∃a,x=.ref a/\(∃xs,lI K H1 a xs)/\R (MH K a) H1
noncomputable def MO(K:Sn)(tl:TE):TI:=λσ H R=>tl σ H λx H1=>∃a,x=.ref a/\(∃xs,n0 K H1 a xs)/\R (LR K a) H1
theorem xV{l:T8}{tl:TE}(hl:PE X l tl):PI X tg l (J9 X.K tl):=by
 intro pins s σ H R I h;refine cu (hl pins s σ H _ I h) λv s1 ⟨x,H1,I1,r1,q1⟩=>?_;obtain⟨a,e,⟨xs,hq⟩,q⟩:=q1;subst e;cases r1;obtain⟨its,rv,p,hz⟩:=I1.list hq;refine Ux p.isList ?_;refine⟨s1.heap.objs.size,[s1.heap.objs.size],_,_,H1,rfl,I1.kept (t':=s1.toks) λb o e=>Tr _ e,yZ a _,⟨_,Ts _ rfl,rfl,rfl⟩,λb hb=>?_,q⟩;have e:b=s1.heap.objs.size:=by simpa using hb
 subst e;exact I1.fpOk (Qq _) (I1.hok.fresh (Qq _))
theorem HA{l:T8}{tl:TE}(hl:PE X l tl):PI X tg l (MO X.K tl):=by
 intro pins s σ H R I h;refine cu (hl pins s σ H _ I h) λv s1 ⟨x,H1,I1,r1,q1⟩=>?_;obtain⟨a,e,⟨xs,hq⟩,q⟩:=q1;subst e;cases r1;obtain⟨its,rv,p,hz⟩:=I1.tuple hq;refine wpAny_pyIter_tuple (show s1.heap.IsTuple a its.toArray from p) ?_;refine⟨s1.heap.objs.size,[s1.heap.objs.size],_,_,H1,rfl,I1.kept (t':=s1.toks) λb o e=>Tr _ e,wF a _,⟨_,Ts _ rfl,rfl,rfl⟩,λb hb=>?_,q⟩;have e:b=s1.heap.objs.size:=by simpa using hb
 subst e;exact I1.fpOk (Qq _) (I1.hok.fresh (Qq _))
theorem vq{pins:aU}{σ:St}{H:Hp}{s:Ua}{R:It->Hp->Prop}{E:bL}{lo hi:Int}{t u v:Tok}{tk:Nat}(I:Inv X pins σ H s)(h1:-(2^62)<=lo)(h2:lo<2^62)(h3:-(2^62)<=hi)(h4:hi<2^62)
  (q:R (JQ lo (hi-lo).toNat) H):Um (model X.prog X.w) X.A (pyIter (.ref s.heap.objs.size)) (PIE X pins σ tg R) E {s with heap:=s.heap.push {cls:=.type "range",data:=.fields #[.int lo t,.int hi u,.int 1 v]},toks:=tk}:=by
 refine wpAny_pyIter_range (IsRange.new ..) (small_one h1 h2 h3 h4) ?_;have I1:Inv X pins σ H {s with heap:=s.heap.push {cls:=.type "range",data:=.fields #[.int lo t,.int hi u,.int 1 v]},toks:=tk}:=I.kept λb o e=>Tr _ e;refine⟨(s.heap.push {cls:=.type "range",data:=.fields #[.int lo t,.int hi u,.int 1 v]}).objs.size,[(s.heap.push {cls:=.type "range",data:=.fields #[.int lo t,.int hi u,.int 1 v]}).objs.size],_,_,H,rfl,
  I1.kept (t':=tk) λb o e=>Tr _ e,vJ _ lo (hi-lo).toNat,?_,λb hb=>?_,q⟩
 ·have e1:lo+((0:Nat):Int)*1=lo:=by simp
  have e2:(((hi-lo).toNat:Nat):Int)-((0:Nat):Int)=Builtin.Range.rangeSize lo hi 1:=by rw[rangeSize_one];split<;>omega
  show IsRangeIter _ _ (lo+((0:Nat):Int)*1) ((((hi-lo).toNat:Nat):Int)-((0:Nat):Int)) 1;rw[e1,e2];exact Ts _ rfl
 ·have e:b=(s.heap.push {cls:=.type "range",data:=.fields #[.int lo t,.int hi u,.int 1 v]}).objs.size:=by simpa using hb
  subst e;exact I1.fpOk (Qq _) (I1.hok.fresh (Qq _))
noncomputable def Jk(ta:TA):TI:=λσ H R=>ta σ H λvs H1=>∃j:Int,vs=[.int j]/\-(2^62)<=j/\j<2^62/\R (JQ 0 j.toNat) H1
noncomputable def JS(ta:TA):TI:=λσ H R=>ta σ H λvs H1=>∃i j:Int,vs=[.int i,.int j]/\(-(2^62)<=i/\i<2^62/\-(2^62)<=j/\j<2^62)/\R (JQ i (j-i).toNat) H1
theorem zx{a:T8}{ta:TA}{p pos:Pos}(hg:Gl X "range")(hm:X.mg "range"=none)(ha:PA X [a] ta)(hs:Uo [a] X.env=[(false,eval a X.env)]:=by rfl):PI X tg (.Call (.Name "range" p) [a] [] pos) (Jk ta):=by
 intro pins s σ H R I h;refine Call_ (jY I hg hm boot_range (TC (cu (ha pos pins s σ H _ I h) λus s1 ⟨vs,H1,I1,r1,q1⟩=>?_) hs rfl));obtain⟨j,e,q1,q2,q⟩:=q1;subst e;cases r1 with
 |cons r rr=>
  cases rr;obtain⟨t,rfl⟩:=r;exact call_range_1 (vq I1 ‹0› ‹0› q1 q2 (by simpa using q))
theorem yW{a b:T8}{ta:TA}{p pos:Pos}(hg:Gl X "range")(hm:X.mg "range"=none)(ha:PA X [a,b] ta)(hs:Uo [a,b] X.env=[(false,eval a X.env),(false,eval b X.env)]:=by rfl)(hs2:Uo [b] X.env=[(false,eval b X.env)]:=by rfl):
  PI X tg (.Call (.Name "range" p) [a,b] [] pos) (JS ta):=by
 intro pins s σ H R I h;refine Call_ (jY I hg hm boot_range (TC (cu (ha pos pins s σ H _ I h) λus s1 ⟨vs,H1,I1,r1,q1⟩=>?_) (by rw[hs,hs2]) (by rw[hs2];rfl)));obtain⟨i,j,e,⟨q1,q2,q3,q4⟩,q⟩:=q1;subst e;cases r1 with
 |cons r rr=>
  cases rr with
  |cons r' rr=>
   cases rr;obtain⟨t,rfl⟩:=r;obtain⟨t',rfl⟩:=r';exact call_range_2 (vq I1 q1 q2 q3 q4 q)
noncomputable def NP(wi:TI)(g:TG)(tb:TS):TS:=λD σ H=>wi σ H λJ H1=>∃W:Nat->Nat->St->Hp->Prop,(∃m,W 0 m σ H1)/\∀i m σ H,W i m σ H->
 (J.stop i H/\D.nx σ H)\/(J.go i H/\∃N:St->Hp->Prop,(∀σ' H',N σ' H'->∃m',m'<m/\W (i+1) m' σ' H')/\∀x H',J.yld i H x H'->g x σ H' λσ2 H2=>tb {D with nx:=N,ct:=N,bk:=D.nx} σ2 H2)
noncomputable def qq(fp:aH)(h:Ue):aU:=fp.filterMap λb=>(h.get? b).map λo=>(b,o)
theorem jt{fp:aH}{h:Ue}{b:T7}{o:Obj}(hb:b∈fp)(e:h.get? b=some o):(b,o)∈qq fp h:=List.mem_filterMap.mpr ⟨b,hb,by rw[e];rfl⟩
theorem zZ{fp:aH}{h:Ue}{p:T7×Obj}(hp:p∈qq fp h):p.1∈fp/\h.get? p.1=some p.2:=by
 obtain⟨b,hb,e⟩:=List.mem_filterMap.mp hp;cases q:h.get? b with
 |none=>rw[q]at e;cases e
 |some o=>
  rw[q]at e;have e':(b,o)=p:=Option.some.inj e;subst e';exact⟨hb,q⟩
theorem Inv.pinned{pins:aU}{σ:St}{H:Hp}{s:Ua}{fp:aH}(I:Inv X pins σ H s)(hf:∀b∈fp,qA X pins H b)(ho:∀b∈fp,∃o,s.heap.get? b=some o/\∀v,o.data≠.cell v):Inv X (pins++qq fp s.heap) σ H s:=
 I.pins_of λp hp=>(List.mem_append.mp hp).elim (λz=>I.pin p (Qr _ z)) λz=>by
  obtain⟨hb,e⟩:=zZ z;obtain⟨f0,f1,f2,_⟩:=hf p.1 hb;obtain⟨o,e',d⟩:=ho p.1 hb;rw[e]at e';cases e';exact⟨e,f0,f1,f2,d⟩
theorem Inv.unpinned{pins pl:aU}{σ:St}{H:Hp}{s:Ua}(I:Inv X (pins++pl) σ H s):Inv X pins σ H s:=I.pins_of λp hp=>I.pin p (Qr _ (Qm _ hp))
theorem Ir{iter:T8}{body:dE}{wi:TI}{g:TG}{tb:TS}{pos:Pos}(hp:Uy (model X.prog X.w) X.A X.env X.xe)(hc:X.calm=true)(hi:PI X tg iter wi)(hg:PG X tg g)(hb:uf X body tb)
  (hs:∀x,Uz iter X.env x=pure x:=by intro _;rfl):PS X (.For tg iter body [] pos) (NP wi g tb):=by
 intro pins s σ H D I h;refine wpAny_For (cu (hi pins s σ H _ I h) λv s1 h1=>cu h1 λitv s2 h2=>?_) hs;obtain⟨it,fp,tn,J,H2,e,I2,T,st2,f2,W,⟨m0,w0⟩,turn⟩:=h2;subst e;have stat:∀{H':Hp},(∀b∈fp,H' b=none)->∀b∈fp,qA X pins H' b:=λhn b hb=>⟨hn b hb,(f2 b hb).2⟩
 refine codeAny_forLoop_any (λn s'=>∃i σ' H',Inv X pins σ' H' s'/\tn i s'.heap/\(∀b∈fp,H' b=none)/\W i n σ' H') ?_ m0 ⟨0,σ,H2,I2,st2,λb hb=>(f2 b hb).1,w0⟩;rintro n s3 ⟨i,σ3,H3,I3,st3,fr3,w3⟩;rcases turn i n σ3 H3 w3 with⟨stop,qn⟩|⟨go,N,hN,step⟩
 ·refine UA hp (cu (T.done X rfl rfl rfl hc i pins s3 σ3 H3 X.xe I3 (stat fr3) st3 stop) λr s4 ⟨hr,I4⟩=>?_);subst hr;exact Uu ⟨σ3,H3,I4,qn⟩
 ·refine UA hp (cu (T.item X rfl rfl rfl hc i pins s3 σ3 H3 X.xe I3 (stat fr3) st3 go) λr s4 ⟨u,hr,h4⟩=>?_);subst hr;refine UA hp (cu h4 λ_ s5 ⟨x,H5,I5,r5,y5,st5,fr5⟩=>?_);have I5':=I5.pinned (stat fr5) (T.obj _ _ st5);refine UA hp (cu (hg _ s5 σ3 H5 x u _ I5' r5 (step x H5 y5)) λ_ s6 ⟨σ6,H6,I6,q6⟩=>?_);refine UA hp (cu (hb _ s6 σ6 H6 _ I6 q6) λf s7 q7=>?_);have again:∀{σ7:St}{H7:Hp},Inv X (pins++qq fp s5.heap) σ7 H7 s7->N σ7 H7->∃m,m<n/\∃i σ' H',Inv X pins σ' H' s7/\tn i s7.heap/\(∀b∈fp,H' b=none)/\W i m σ' H':=λ{σ7 H7} I7 n7=>by
   obtain⟨m',hm,w7⟩:=hN σ7 H7 n7;refine⟨m',hm,i+1,σ7,H7,I7.unpinned,T.keep _ _ _ st5 λb hb o e=>(I7.pin (b,o) (Qr _ (Qr _ (jt hb e)))).1,λb hb=>?_,w7⟩;obtain⟨o,e,d⟩:=T.obj _ _ st5 b hb;exact(I7.pin (b,o) (Qr _ (Qr _ (jt hb e)))).2.1
  cases f with
  |next=>obtain⟨σ7,H7,I7,n7⟩:=q7;exact again I7 n7
  |cont=>obtain⟨σ7,H7,I7,n7⟩:=q7;exact again I7 n7
  |brk=>obtain⟨σ7,H7,I7,q7⟩:=q7;exact⟨σ7,H7,I7.unpinned,q7⟩
  |ret v=>obtain⟨x7,σ7,H7,I7,r7,q7⟩:=q7;exact⟨x7,σ7,H7,I7.unpinned,r7,q7⟩
end
noncomputable abbrev R2:=V->V->Hp->VK->Prop
noncomputable def iQ(X:Cx)(f:T5->T5->Sem T5)(r:R2):Prop:=
 ∀(pins:aU)(s:Ua)(σ:St)(H:Hp)(x y:V)(v u:T5)(Q:VK),Inv X pins σ H s->RelV x v->RelV y u->r x y H Q->
  Um (model X.prog X.w) X.A (f v u) (EP X pins σ Q) X.xe s
noncomputable def MI(X:Cx)(f:T5->Sem T5)(r:V->Hp->VK->Prop):Prop:=
 ∀(pins:aU)(s:Ua)(σ:St)(H:Hp)(x:V)(v:T5)(Q:VK),Inv X pins σ H s->RelV x v->r x H Q->
  Um (model X.prog X.w) X.A (f v) (EP X pins σ Q) X.xe s
noncomputable def eG(X:Cx)(f:T5)(r:aI->Hp->VK->Prop):Prop:=
 ∀(pins:aU)(s:Ua)(σ:St)(H:Hp)(xs:aI)(us:aS)(Q:VK),Inv X pins σ H s->Vals xs us->r xs H Q->
  Um (model X.prog X.w) X.A (call f us) (EP X pins σ Q) X.xe s
noncomputable def Lv(X:Cx)(r:V->Hp->(Bool->Hp->Prop)->Prop):Prop:=
 ∀(pins:aU)(s:Ua)(σ:St)(H:Hp)(x:V)(v:T5)(Q:Bool->Hp->Prop),Inv X pins σ H s->RelV x v->r x H Q->
  Um (model X.prog X.w) X.A (truthy v) (TP X pins σ Q) X.xe s
noncomputable def JM(r:R2)(ta tb:TE):TE:=λσ H Q=>ta σ H λx H1=>tb σ H1 λy H2=>r x y H2 Q
noncomputable def N5(r:V->Hp->VK->Prop)(ta:TE):TE:=λσ H Q=>ta σ H λx H1=>r x H1 Q
noncomputable def rI(C:Int->Int->Prop)(g:Int->Int->V):R2:=λx y H Q=>∃i j,x=.int i/\y=.int j/\C i j/\Q (g i j) H
noncomputable def BO(g:Int->Int->V):R2:=λx y H Q=>∃i j,x=.int i/\y=.int j/\Q (g i j) H
noncomputable def rU(g:Int->V):V->Hp->VK->Prop:=λx H Q=>∃i,x=.int i/\Q (g i) H
section
variable{X:Cx}{a b c:T8}{ta tb tc:TE}{pos:Pos}
theorem Iy(ha:PE X a ta)(hb:PE X b tb){pins:aU}{s:Ua}{σ:St}{H:Hp}{R:V->V->Hp->Prop}(I:Inv X pins σ H s)
  (h:ta σ H λx H1=>tb σ H1 λy H2=>R x y H2) {Q:bL} {f:T5->T5->Sem T5}
  (hf:∀v u s2 x y H2,Inv X pins σ H2 s2->RelV x v->RelV y u->R x y H2->Um (model X.prog X.w) X.A (f v u) Q X.xe s2):
  Um (model X.prog X.w) X.A (eval a X.env) (λv s₁=>Um (model X.prog X.w) X.A (eval b X.env) (λu s₂=>Um (model X.prog X.w) X.A (f v u) Q X.xe s₂) X.xe s₁) X.xe s:=by
 refine cu (ha pins s σ H _ I h) λv s1 ⟨x,H1,I1,r1,q1⟩=>?_;refine cu (hb pins s1 σ H1 _ I1 q1) λu s2 ⟨y,H2,I2,r2,q2⟩=>?_;exact hf v u s2 x y H2 I2 r1 r2 q2
theorem Gi{op:Operator}{r:R2}(ho:iQ X (UB op) r)(ha:PE X a ta)(hb:PE X b tb):PE X (.BinOp a op b pos) (JM r ta tb):=by
 intro pins s σ H Q I h;exact wpAny_BinOp (Iy ha hb I h λv u s2 x y H2 I2 rx ry q=>ho pins s2 σ H2 x y v u Q I2 rx ry q)
theorem JV{op:UnaryOp}{r:V->Hp->VK->Prop}(ho:MI X (unaryOp op) r)(ha:PE X a ta):PE X (.UnaryOp op a pos) (N5 r ta):=by
 intro pins s σ H Q I h;exact UnaryOp_ (cu (ha pins s σ H _ I h) λv s1 ⟨x,H1,I1,r1,q1⟩=>ho pins s1 σ H1 x v Q I1 r1 q1)
theorem KG{f:T5->T5->Sem T5}{C:Int->Int->Prop}{g:Int->Int->Int}
  (rule:∀(i j:Int)(t u:Tok)(s:Ua)(Q:bL)(E:bL),C i j->Q (.int (g i j) s.toks) {s with toks:=s.toks+1}->Um (model X.prog X.w) X.A (f (.int i t) (.int j u)) Q E s):
  iQ X f (rI C λi j=>.int (g i j)):=by
 intro pins s σ H x y v u Q I rx ry h;obtain⟨i,j,rfl,rfl,hc,q⟩:=h;obtain⟨t,rfl⟩:=rx;obtain⟨t',rfl⟩:=ry;exact rule i j t t' s _ _ hc ⟨.int (g i j),H,I.tok _,⟨_,rfl⟩,q⟩
theorem I0{f:T5->T5->Sem T5}{g:Int->Int->Int}
  (rule:∀(i j:Int)(t u:Tok)(s:Ua)(Q:bL)(E:bL),Q (.int (g i j) s.toks) {s with toks:=s.toks+1}->Um (model X.prog X.w) X.A (f (.int i t) (.int j u)) Q E s):
  iQ X f (BO λi j=>.int (g i j)):=by
 intro pins s σ H x y v u Q I rx ry h;obtain⟨i,j,rfl,rfl,q⟩:=h;obtain⟨t,rfl⟩:=rx;obtain⟨t',rfl⟩:=ry;exact rule i j t t' s _ _ ⟨.int (g i j),H,I.tok _,⟨_,rfl⟩,q⟩
theorem EE{f:T5->T5->Sem T5}{g:Int->Int->Bool}
  (rule:∀(i j:Int)(t u:Tok)(s:Ua)(Q:bL)(E:bL),Q (.bool (g i j)) s->Um (model X.prog X.w) X.A (f (.int i t) (.int j u)) Q E s):
  iQ X f (BO λi j=>.bl (g i j)):=by
 intro pins s σ H x y v u Q I rx ry h;obtain⟨i,j,rfl,rfl,q⟩:=h;obtain⟨t,rfl⟩:=rx;obtain⟨t',rfl⟩:=ry;exact rule i j t t' s _ _ ⟨.bl (g i j),H,I,rfl,q⟩
noncomputable def JO(i j:Int):Prop:=0<=j/\j<=1000000/\i.natAbs<2^64
noncomputable def Ie(i j:Int):Prop:=(-(2^64)<i/\i<2^64)\/(-(2^64)<j/\j<2^64)
theorem Ie.ok{i j:Int}(h:Ie i j):IntMulOk i j:=by
 rcases h with⟨h1,h2⟩|⟨h1,h2⟩
 ·exact .of_left (intBits_le_64 h1 h2)
 ·exact .of_right (intBits_le_64 h1 h2)
theorem HY:iQ X (UB .Add) (BO λi j=>.int (i+j)):=I0 λ_ _ _ _ _ _ _ q=>add_int q
theorem G9:iQ X (UB .Sub) (BO λi j=>.int (i-j)):=I0 λ_ _ _ _ _ _ _ q=>sub_int q
theorem BL:iQ X (UB .Mult) (rI Ie λi j=>.int (i*j)):=KG λ_ _ _ _ _ _ _ hc q=>mul_int q hc.ok
theorem Gz:iQ X (UB .Mod) (rI (λ_ j=>0<j) λi j=>.int (i%j)):=KG λi j _ _ _ _ _ hc q=>by
 have h1:(0:Int)<j:=hc;exact mod_int' ‹0› (by rw[Int.fmod_eq_emod_of_nonneg i ‹0›];exact q)
theorem Ht:iQ X (UB .Pow) (rI JO λi j=>.int (i^j.toNat)):=KG λ_ _ _ _ _ _ _ hc q=>pow_int_small hc.1 hc.2.1 hc.2.2 q
theorem OJ{f:T5->Sem T5}{g:Int->Int}
  (rule:∀(i:Int)(t:Tok)(s:Ua)(Q:bL)(E:bL),Q (.int (g i) s.toks) {s with toks:=s.toks+1}->Um (model X.prog X.w) X.A (f (.int i t)) Q E s):
  MI X f (rU λi=>.int (g i)):=by
 intro pins s σ H x v Q I rx h;obtain⟨i,rfl,q⟩:=h;obtain⟨t,rfl⟩:=rx;exact rule i t s _ _ ⟨.int (g i),H,I.tok _,⟨_,rfl⟩,q⟩
theorem IC:MI X (unaryOp .USub) (rU λi=>.int (-i)):=OJ λ_ _ _ _ _ q=>neg_int q
end
section
variable{X:Cx}{a b c:T8}{ta tb tc:TE}{pos:Pos}
theorem BA{pins:aU}{σ:St}{H:Hp}{s:Ua}{Q:VK}{k k':Bool}(I:Inv X pins σ H s)(q:Q (.bl k) H)(e:k=k'):EP X pins σ Q (.bool k') s:=by
 subst e;exact⟨.bl k,H,I,rfl,q⟩
theorem Jh:iQ X (Ur .Lt) (BO λi j=>.bl (decide (i<j))):=EE λ_ _ _ _ _ _ _ q=>lt_int q
theorem oo:iQ X (Ur .LtE) (BO λi j=>.bl (decide (i<=j))):=EE λ_ _ _ _ _ _ _ q=>le_int q
theorem FQ:iQ X (Ur .Gt) (BO λi j=>.bl (decide (j<i))):=EE λ_ _ _ _ _ _ _ q=>gt_int q
theorem FH:iQ X (Ur .GtE) (BO λi j=>.bl (decide (j<=i))):=EE λ_ _ _ _ _ _ _ q=>ge_int q
theorem yk:iQ X (Ur .Lt) (λx y H Q=>∃i j,x=.str i/\y=.str j/\Q (.bl (decide (i.cps.toList<j.cps.toList))) H):=by
 intro pins s σ H x y v u Q I rx ry h;obtain⟨i,j,rfl,rfl,q⟩:=h;obtain⟨t,rfl⟩:=rx;obtain⟨t',rfl⟩:=ry;exact lt_str (BA I q rfl)
theorem gj(b:T8){op:Uq}(h:op≠.In:=by decide)(h2:op≠.NotIn:=by decide):Us op b=false:=by
 have e1:(op==CmpOp.In)=false:=by cases op<;>first|rfl|exact absurd rfl h
 have e2:(op==CmpOp.NotIn)=false:=by cases op<;>first|rfl|exact absurd rfl h2
 cases b<;>simp[Us,e1,e2]
theorem Do{op:Uq}{r:R2}(ho:iQ X (Ur op) r)(ha:PE X a ta)(hb:PE X b tb)(hm:Us op b=false):PE X (.Compare a [op] [b] pos) (JM r ta tb):=by
 intro pins s σ H Q I h;exact wpAny_Compare1 (Iy ha hb I h λv u s2 x y H2 I2 rx ry q=>ho pins s2 σ H2 x y v u Q I2 rx ry q) hm
noncomputable def Cb(t:TE):TT:=λσ H Q=>t σ H λx H'=>∃k,x=.bl k/\Q k H'
theorem Ek{op:Uq}{r:R2}(ho:iQ X (Ur op) r)(ha:PE X a ta)(hb:PE X b tb)(hm:Us op b=false):PT X (.Compare a [op] [b] pos) (Cb (JM r ta tb)):=by
 intro pins s σ H Q I h;refine wpAny_isTrue_Compare1 (cu (ha pins s σ H _ I h) λv s1 ⟨x,H1,I1,r1,q1⟩=>cu (hb pins s1 σ H1 _ I1 q1) λu s2 ⟨y,H2,I2,r2,q2⟩=>
  cu (ho pins s2 σ H2 x y v u _ I2 r1 r2 q2) λc s3 ⟨z,H3,I3,r3,k,e,q3⟩=>?_) hm
 subst e;cases r3;exact Ut ⟨H3,I3,q3⟩
noncomputable def wG(r r':R2)(ta tb tc:TE):TE:=λσ H Q=>ta σ H λx H1=>tb σ H1 λy H2=>r x y H2 λz H3=>∃k,z=.bl k/\
 (if k=true then tc σ H3 λw' H4=>r' y w' H4 Q else Q (.bl false) H3)
theorem Ao{op op':Uq}{r r':R2}(ho:iQ X (Ur op) r)(ho':iQ X (Ur op') r')(ha:PE X a ta)(hb:PE X b tb)(hc:PE X c tc)
  (hm:lastMarks [op,op'] [b,c]=false:=by with_unfolding_all rfl):PE X (.Compare a [op,op'] [b,c] pos) (wG r r' ta tb tc):=by
 intro pins s σ H Q I h;refine Compare_chain (cu (ha pins s σ H _ I h) λv s1 ⟨x,H1,I1,r1,q1⟩=>chain_link (cu (hb pins s1 σ H1 _ I1 q1) λu s2 ⟨y,H2,I2,r2,q2⟩=>
  cu (ho pins s2 σ H2 x y v u _ I2 r1 r2 q2) λd s3 ⟨z,H3,I3,r3,k,e,q3⟩=>?_)) hm
 subst e;cases r3;refine Ut ?_;cases k with
 |false=>exact ite_ff ⟨.bl false,H3,I3,rfl,q3⟩
 |true=>exact ite_tt (chain_last (cu (hc pins s3 σ H3 _ I3 q3) λw' s4 ⟨z',H4,I4,r4,q4⟩=>ho' pins s4 σ H4 y z' u w' Q I4 r2 r4 q4))
theorem A2{op op':Uq}{r r':R2}(ho:iQ X (Ur op) r)(ho':iQ X (Ur op') r')(ha:PE X a ta)(hb:PE X b tb)(hc:PE X c tc)
  (hm:lastMarks [op,op'] [b,c]=false:=by with_unfolding_all rfl):PT X (.Compare a [op,op'] [b,c] pos) (Cb (wG r r' ta tb tc)):=by
 intro pins s σ H Q I h;refine isTrue_chain (cu (ha pins s σ H _ I h) λv s1 ⟨x,H1,I1,r1,q1⟩=>test_link (cu (hb pins s1 σ H1 _ I1 q1) λu s2 ⟨y,H2,I2,r2,q2⟩=>
  cu (ho pins s2 σ H2 x y v u _ I2 r1 r2 q2) λd s3 ⟨z,H3,I3,r3,k,e,q3⟩=>?_)) hm
 subst e;cases r3;refine Ut ?_;cases k with
 |false=>
  obtain⟨k',e',q'⟩:=q3;cases e';exact ite_ff ⟨H3,I3,q'⟩
 |true=>
  refine ite_tt (test_last (cu (hc pins s3 σ H3 _ I3 q3) λw' s4 ⟨z',H4,I4,r4,q4⟩=>cu (ho' pins s4 σ H4 y z' u w' _ I4 r2 r4 q4) λd' s5 ⟨z2,H5,I5,r5,k2,e2,q5⟩=>?_));subst e2;cases r5;exact Ut ⟨H5,I5,q5⟩
noncomputable def IU(K:Sn)(x:V)(H:Hp)(k:Bool):Prop:=
 match x with
 |.non=>k=false
 |.bl b=>k=b
 |.int i=>k=(i !=0)
 |.str y=>y.length<=Ug/\k=((y.length:Int) !=0)
 |.byt y=>y.size<=Ug/\k=((y.size:Int) !=0)
 |.ref p=>(∃xs,lI K H p xs/\k=!xs.isEmpty)\/(∃xs,n0 K H p xs/\k=!xs.isEmpty)\/∃kvs,H p=some (.dK kvs)/\k=!kvs.isEmpty
 |_=>False
theorem wl{κ:Type}{kvs:List (κ×V)}{vs:List (κ×T5)}(r:KV kvs vs):(!vs.isEmpty)=!kvs.isEmpty:=by
 cases r<;>rfl
theorem qb{xs:aI}{its:aS}(r:Vals xs its):(!its.toArray.isEmpty)=!xs.isEmpty:=by
 cases r<;>simp
theorem mG:(Ug:Nat)<2^63:=by rw[UC];decide
theorem Hj:Lv X (λx H Q=>∃k,IU X.K x H k/\Q k H):=by
 intro pins s σ H x v Q I rx h;obtain⟨k,e,q⟩:=h;have hl:=mG;have hs:Ug=16777216:=UC;cases x with
 |non=>
  cases rx;have e':k=false:=e;subst e';exact truthy_none ⟨H,I,q⟩
 |bl b=>
  cases rx;have e':k=b:=e;subst e';exact Ut ⟨H,I,q⟩
 |int i=>
  obtain⟨t,rfl⟩:=rx;have e':k=(i !=0):=e;subst e';exact PySem.P.truthy_int ⟨H,I,q⟩
 |str y=>
  obtain⟨t,rfl⟩:=rx;obtain⟨hy,e'⟩:y.length<=Ug/\k=((y.length:Int) !=0):=e;subst e';exact PySem.P.truthy_str ‹0› ⟨H,I.tok _,q⟩
 |byt y=>
  obtain⟨t,rfl⟩:=rx;obtain⟨hy,e'⟩:y.size<=Ug/\k=((y.size:Int) !=0):=e;subst e';exact PySem.W.truthy_bytes ‹0› ⟨H,I.tok _,q⟩
 |ref p=>
  cases rx;have e':(∃xs,lI X.K H p xs/\k=!xs.isEmpty)\/(∃xs,n0 X.K H p xs/\k=!xs.isEmpty)\/∃kvs,H p=some (.dK kvs)/\k=!kvs.isEmpty:=e;rcases e' with⟨xs,hx,e'⟩|⟨xs,hx,e'⟩|⟨kvs,hx,e'⟩
  ·subst e';obtain⟨its,r,pl,hz⟩:=I.list hx;have hlen:=r.length;exact wpAny_truthy_list pl.isList (by simp only[Qs];omega) ⟨H,I.tok _,by rw[qb r];exact q⟩
  ·subst e';obtain⟨its,r,pl,hz⟩:=I.tuple hx;have hlen:=r.length;exact truthy_tuple pl (by simp only[Qs];omega) ⟨H,I.tok _,by rw[qb r];exact q⟩
  ·subst e';obtain⟨hz,hS,vs,r,m⟩:kvs.length<=Ug/\(p==sysModules)=false/\∃vs,KV kvs vs/\s.heap.DictOf (cU X.prog X.w) p vs:=I.hok p _ hx;have hlen:kvs.length=vs.length:=Paired.length r;exact wpAny_truthy_dict hS m ‹0› ⟨H,I.tok _,by rw[wl r];exact q⟩
 |_=>exact(show False from e).elim
theorem Cw(ha:PE X a ta)(he:∀whole,isTrue a X.env whole=(do let v<-whole;standAt a.pos;holding [v] (truthy v))):
  PT X a (λσ H Q=>ta σ H λx H'=>∃k,IU X.K x H' k/\Q k H'):=by
 intro pins s σ H Q I h;exact isTrue_plain (cu (ha pins s σ H _ I h) λv s1 ⟨x,H1,I1,r1,q1⟩=>Hj pins s1 σ H1 x v Q I1 r1 q1) (he _)
theorem wn:iQ X (UB .Add) (λx y H Q=>∃i j,x=.str i/\y=.str j/\i.length+j.length<=Ug/\Q (.str (i++j)) H):=by
 intro pins s σ H x y v u Q I rx ry h;obtain⟨i,j,rfl,rfl,hz,q⟩:=h;obtain⟨t,rfl⟩:=rx;obtain⟨t',rfl⟩:=ry;exact add_str (λt' tk=>⟨.str (i++j),H,I.tok _,⟨_,rfl⟩,q⟩) hz
theorem vals1{x:V}{us:aS}(r:Vals [x] us):∃u,us=[u]/\RelV x u:=by
 cases r with
 |cons r1 r2=>cases r2;exact⟨_,rfl,r1⟩
theorem vals2{x y:V}{us:aS}(r:Vals [x,y] us):∃u w',us=[u,w']/\RelV x u/\RelV y w':=by
 cases r with
 |cons r1 r2=>
  cases r2 with
  |cons r3 r4=>cases r4;exact⟨_,_,rfl,r1,r3⟩
theorem yR(hc:X.calm=true):eG X (.builtin "max") (λxs H Q=>∃i j,xs=[.int i,.int j]/\Q (.int (if j>i then j else i)) H):=by
 intro pins s σ H xs us Q I r h;obtain⟨i,j,rfl,q⟩:=h;obtain⟨u,w',rfl,⟨t,rfl⟩,⟨t',rfl⟩⟩:=vals2 r;refine max_two_ints (I.ok.hd hc) λh' tk k=>⟨_,H,I.kept k,?_,q⟩
 by_cases hj:j>i
 ·rw[if_pos hj,if_pos hj];exact⟨_,rfl⟩
 ·rw[if_neg hj,if_neg hj];exact⟨_,rfl⟩
theorem yy(hc:X.calm=true):eG X (.builtin "min") (λxs H Q=>∃i j,xs=[.int i,.int j]/\Q (.int (if j<i then j else i)) H):=by
 intro pins s σ H xs us Q I r h;obtain⟨i,j,rfl,q⟩:=h;obtain⟨u,w',rfl,⟨t,rfl⟩,⟨t',rfl⟩⟩:=vals2 r;refine min_two_ints (I.ok.hd hc) λh' tk k=>⟨_,H,I.kept k,?_,q⟩
 by_cases hj:j<i
 ·rw[if_pos hj,if_pos hj];exact⟨_,rfl⟩
 ·rw[if_neg hj,if_neg hj];exact⟨_,rfl⟩
theorem tT:eG X (.type "str") (λxs H Q=>∃i,xs=[.int i]/\i.natAbs.log2<1920/\Q (.str (toString i)) H):=by
 intro pins s σ H xs us Q I r h;obtain⟨i,rfl,hz,q⟩:=h;obtain⟨u,rfl,t,rfl⟩:=vals1 r;exact PySem.P.str_of_int hz ⟨.str _,H,I.tok _,⟨_,rfl⟩,q⟩
end
structure zh(h:Ue)(x dx C:T7)(mA:bU):Prop where
 obj:h.get? x=some (Sj C dx)
 ns:h.Ns1 dx mA
 ne:dx≠x
theorem zJ{h:Ue}{dx:T7}{mA:bU}(n:h.Ns1 dx mA):∃od,h.get? dx=some od/\∀name,Sq name od=some (mA name):=by
 obtain⟨o,es,ep,ho,hd,hk,_,hm⟩:=n;refine⟨o,ho,λname=>?_⟩;have e:=hm name;unfold nsFind findBy at e;rw[<-Array.find?_toList]at e;unfold Sq;rw[hd];dsimp only;split
 ·rename_i y q;rw[q]at e;exact congrArg some e
 ·rename_i q;rw[q]at e;have a:es.toList.any (·.refKey)=false:=by
   rw[Qt];intro y hy;obtain⟨z,t,hkey⟩:=hk y (Array.mem_toList_iff.mp hy);simp[DictEntry.refKey,hkey]
  have a':¬es.toList.any (·.refKey)=true:=by rw[a];exact Qu
  rw[if_neg a'];exact congrArg some e
theorem zh.look{h:Ue}{x dx C:T7}{mA:bU}(I:zh h x dx C mA):∃od,PySem.W.InstAt h x (Sj C dx) C (some od)/\∀name,Sq name od=some (mA name):=
 let ⟨od,ho,hl⟩:=zJ I.ns
 ⟨od,⟨I.obj,rfl,rfl,ho⟩,hl⟩
section
variable{prog:Uc}{w:Ub}{A:Uj}{E:bL}{s:Ua}{K:Sn}{x dx C f:T7}{mA:bU}{name:Str}{v:T5}
theorem CZ{expr:Bool}{Q:bL}(X:K.In s.heap)(I:zh s.heap x dx C mA)(hg:Sr K C name=true)(hh:Ss K C=true)
  (ha:Su K (.ref C) name=some none) (hv:mA name=some v) (hv':Sv v=true) (h:Q v {s with toks:=s.toks+1}):
  Um (model prog w) A (getAttr (.ref x) name expr) Q E s:=by
 obtain⟨od,J,hl⟩:=I.look;exact PySem.W.get_value X J (Sw hg).1 (PySem.W.findObj_own hh ha rfl (by rw[hl,hv])) hv' h
theorem CJ{pl:Sem Bool}{Q:T5×List T5->gZ}(X:K.In s.heap)(I:zh s.heap x dx C mA)(hg:Sr K C name=true)
  (hf:Su K (.ref C) name=some (some (.ref f))) (ht:Sx K (.ref f)=true) (hv:mA name=none) (h:Q (.ref f,[.ref x]) s):
  Um (model prog w) A (getMethod (.ref x) name pl) Q E s:=by
 obtain⟨od,J,hl⟩:=I.look;exact PySem.W.method_fn X J (Sw hg).1 (Sw hg).2 hf (beq_iff_eq.mp ht) (by show(Sq name od).map (·.isSome)=some false;rw[hl,hv];rfl) h
theorem Fc{ns:ax}{Q:Unit->gZ}(X:K.In s.heap)(I:zh s.heap x dx C mA)
  (hs:Su K (.ref C) "__setattr__"=some (some (.builtin "object.__setattr__"))) (hp:Sy K C=true) (ht:Sz K C name=some none) (hh:Ss K C=true)
  (hw:PySem.Within mA ns) (hsz:ns.length<=Ug)
  (h:∀h',zh h' x dx C (λy=>if y=name then some v else mA y)->Tq dx s.heap h'->Q () {s with heap:=h',toks:=s.toks+2}):
  Um (model prog w) A (setAttr (.ref x) name v) Q E s:=by
 obtain⟨od,J,hl⟩:=I.look;refine PySem.W.set_plain X J hs (PySem.W.osa_open (s:={s with toks:=s.toks+1}) (r:=none) X J hp ht λb=>?_);obtain⟨cd,hc,hd'⟩:=SA hh;have hx:s.heap.get? x=some ⟨.ref C,some dx,.plain,#[]⟩:=I.obj;refine Uw (Uv (Uw (Uw (UD hx (Uw (PySem.W.Looks.here (s:={s with toks:=s.toks+1}) (PySem.W.looks_clsIn X hc) ?_))))));rw[hd'];refine Uv (a:=some dx) (Uw (Uv (Uw ?_)));refine wpAny_nsSet1 (s:={s with toks:=s.toks+1}) I.ns λh' hn2 hs2=>?_;obtain⟨oD,esD,epD,hoD,hdD,hcD⟩:=hn2.count (PySem.Within.cons name v hw);refine Uw (UE hoD (by rw[hdD];exact UG (Qh hcD (by rw[Qv];omega))) ?_);exact Uv (h _ ⟨(hs2.2 _ (Ne.symm I.ne)).trans I.obj,hn2,I.ne⟩ hs2)
theorem BU{R:UH->gZ}{vs:aS}{kw:List (Str×T5)}(X:K.In s.heap)(hm:SD K C=true)
  (hi:Su K (.ref C) "__init__"=some (some (.ref f))) (hf:SE K (.ref f)=some (.type "function"))
  (h:UI (model prog w) (A.under (.builtin "type.__call__" ⟨.ref C::vs,kw⟩)) (.call (.ref f) ⟨.ref (s.heap.objs.size+1)::vs,kw⟩) (SG (s.heap.objs.size+1) R)
   {s with heap:=(s.heap.push SH).push (Sj C s.heap.objs.size)}):
  UI (model prog w) A (.call (.ref C) ⟨vs,kw⟩) R s:=by
 obtain⟨hh,g,d,t,os⟩:=s;exact SJ (SK X hm) (SL X hi) (λself=>PySem.W.bind_fn X self hf) (.inl rfl) h
theorem zq{R:UH->gZ}(X:K.In s.heap)(hm:SD K C=true)
  (hi:Su K (.ref C) "__init__"=some (some (.builtin "object.__init__")))
  (hb:∀self,SM (model prog w) s.heap (bindSpecial (.builtin "object.__init__") self) (.builtin "object.__init__",[self]))
  (h:UI (model prog w) (A.under (.builtin "type.__call__" ⟨[.ref C],[]⟩)) (.call (.builtin "object.__init__") ⟨[.ref (s.heap.objs.size+1)],[]⟩) (SG (s.heap.objs.size+1) R)
   {s with heap:=(s.heap.push SH).push (Sj C s.heap.objs.size)}):
  UI (model prog w) A (.call (.ref C) ⟨[],[]⟩) R s:=by
 obtain⟨hh,g,d,t,os⟩:=s;exact SJ (SK X hm) (SL X hi) hb (.inr ⟨rfl,rfl⟩) h
end
noncomputable def jI(f:Str)(v:V):List (Str×V)->List (Str×V)
 |[]=>[(f,v)]
 |(g,x)::r=>if g=f then(g,v)::r else(g,x)::jI f v r
theorem oq(f g:Str)(v:V):∀fs:List (Str×V),(jI f v fs).lookup g=if g=f then some v else fs.lookup g
 |[]=>by
  show List.lookup g [(f,v)]=_;by_cases h:g=f
  ·have hb:(g==f)=true:=beq_iff_eq.mpr h;simp only[List.lookup,hb,if_pos h]
  ·have hb:(g==f)=false:=beq_eq_false_iff_ne.mpr h;simp only[List.lookup,hb,if_neg h]
 |(k,x)::r=>by
  have ih:=oq f g v r;rw[show jI f v ((k,x)::r)=(if k=f then(k,v)::r else(k,x)::jI f v r)from rfl];by_cases hk:k=f
  ·rw[if_pos hk];by_cases h:g=k
   ·have hb:(g==k)=true:=beq_iff_eq.mpr h;simp only[List.lookup,hb,if_pos (h.trans hk)]
   ·have hb:(g==k)=false:=beq_eq_false_iff_ne.mpr h;simp only[List.lookup,hb,if_neg (λe:g=f=>h (e.trans hk.symm))]
  ·rw[if_neg hk];by_cases h:g=k
   ·have hb:(g==k)=true:=beq_iff_eq.mpr h;simp only[List.lookup,hb,if_neg (λe:g=f=>hk (h.symm.trans e))]
   ·have hb:(g==k)=false:=beq_eq_false_iff_ne.mpr h;simp only[List.lookup,hb];exact ih
theorem mK(f:Str)(v:V):∀fs:List (Str×V),f∈(jI f v fs).map (·.1)/\∀g,g∈fs.map (·.1)->g∈(jI f v fs).map (·.1)
 |[]=>⟨by simp[jI],λg h=>by simp at h⟩
 |(k,x)::r=>by
  obtain⟨i1,i2⟩:=mK f v r;rw[show jI f v ((k,x)::r)=(if k=f then(k,v)::r else(k,x)::jI f v r)from rfl];by_cases hk:k=f
  ·rw[if_pos hk];subst hk;exact⟨by simp,λg h=>by simpa using h⟩
  ·rw[if_neg hk];refine⟨?_,λg h=>?_⟩
   ·rw[Qw];exact Ql _ i1
   ·rw[Qw]at h ⊢;rcases List.mem_cons.mp h with e|e
    ·exact List.mem_cons.mpr (.inl e)
    ·exact Ql _ (i2 g e)
theorem oj(f:Str)(v:V):∀fs:List (Str×V),(jI f v fs).length<=fs.length+1
 |[]=>by simp[jI]
 |(k,x)::r=>by
  have ih:=oj f v r;rw[show jI f v ((k,x)::r)=(if k=f then(k,v)::r else(k,x)::jI f v r)from rfl];by_cases hk:k=f
  ·rw[if_pos hk,Qv,Qv];omega
  ·rw[if_neg hk,Qv,Qv];omega
theorem pW.some_of{v:V}{o:Option T5}(r:pW (some v) o):∃u,o=some u/\RelV v u:=by
 cases o with
 |none=>exact(show False from r).elim
 |some u=>exact⟨u,rfl,r⟩
theorem pW.none_of{o:Option T5}(r:pW none o):o=none:=by
 cases o with
 |none=>rfl
 |some u=>exact(show False from r).elim
theorem yc{v:V}{u:T5}(r:RelV v u):Sv u=true:=by
 cases v with
 |non=>cases(show u=Value.none from r);rfl
 |bl b=>cases(show u=Value.bool b from r);rfl
 |int i=>obtain⟨t,e⟩:=(show∃t,u=Value.int i t from r);cases e;rfl
 |str x=>obtain⟨t,e⟩:=(show∃t,u=Value.str x t from r);cases e;rfl
 |byt b=>obtain⟨t,e⟩:=(show∃t,u=Value.bytes b t from r);cases e;rfl
 |flt b=>obtain⟨t,e⟩:=(show∃t,u=Value.float b t from r);cases e;rfl
 |ref a=>cases(show u=Value.ref a from r);rfl
 |ty n=>cases(show u=Value.type n from r);rfl
section
variable{P:Uc}{w:Ub}{H H':Hp}{h h':Ue}{a C dx:T7}{fs fs':List (Str×V)}
theorem oM(hok:oi P w H h)(e:H a=some (.ins C dx fs)):∃mA,zh h a dx C mA/\(∀f,pW (fs.lookup f) (mA f))/\PySem.Within mA (fs.map (·.1))/\fs.length<=1000/\H dx=some (.own a):=by
 obtain⟨d,z,ne,ob,mA,n,r,q⟩:=(show cq P w H h a (.ins C dx fs)from hok a _ e)
 exact⟨mA,⟨ob,n,ne⟩,r,q,z,d⟩
end
structure jK(K:Sn)(C:T7):Prop where
 pg:Sr K C Str.empty=true
 hd:Ss K C=true
 po:Sy K C=true
 sa:Su K (.ref C) "__setattr__"=some (some (.builtin "object.__setattr__"))
theorem jK.get{K:Sn}{C:T7}(c:jK K C)(f:Str):Sr K C f=true:=c.pg
noncomputable def b8(K:Sn)(C:T7)(f:Str):Prop:=Su K (.ref C) f=some none
theorem b8.taker{K:Sn}{C:T7}{f:Str}(n:b8 K C f):Sz K C f=some none:=by
 unfold Sz;rw[show Su K (.ref C) f=some none from n];rfl
structure Meth(K:Sn)(C:T7)(m:Str)(f:T7):Prop where
 at_:Su K (.ref C) m=some (some (.ref f))
 fn:Sx K (.ref f)=true
 kp:SN K (.ref f)=true
section
variable{X:Cx}{pins:aU}{σ:St}{H:Hp}{s:Ua}{a C dx:T7}{fs:List (Str×V)}{f:Str}{v:V}{A:Uj}{E:bL}
theorem wo{b:Bool}{Q:bL}(I:Inv X pins σ H s)(e:H a=some (.ins C dx fs))(c:jK X.K C)(n:b8 X.K C f)(l:fs.lookup f=some v)
  (h:∀u s',Inv X pins σ H s'->RelV v u->Q u s'):Um (model X.prog X.w) A (getAttr (.ref a) f b) Q E s:=by
 obtain⟨mA,O,r,_,_,_⟩:=oM I.hok e;obtain⟨u,hu,ru⟩:=pW.some_of (v:=v) (o:=mA f) (by rw[<-l];exact r f);exact CZ I.kIn O (c.get f) c.hd n hu (yc ru) (h u _ (I.tok _) ru)
theorem wJ{m:Str}{g:T7}{pl:Sem Bool}{Q:T5×List T5->gZ}(I:Inv X pins σ H s)(e:H a=some (.ins C dx fs))(c:jK X.K C)(k:Meth X.K C m g)(l:fs.lookup m=none)
  (h:Q (.ref g,[.ref a]) s):Um (model X.prog X.w) A (getMethod (.ref a) m pl) Q E s:=by
 obtain⟨mA,O,r,_,_,_⟩:=oM I.hok e;have hn:mA m=none:=pW.none_of (by rw[<-l];exact r m);exact CJ I.kIn O (c.get m) k.at_ k.fn hn h
theorem vP{y:V}{u:T5}{Q:Unit->gZ}(I:Inv X pins σ H s)(e:H a=some (.ins C dx fs))(c:jK X.K C)(n:b8 X.K C f)(hl:fs.length<1000)(ry:RelV y u)
  (h:∀s',Inv X pins σ (upd H a (.ins C dx (jI f y fs))) s'->Q () s'):Um (model X.prog X.w) A (setAttr (.ref a) f u) Q E s:=by
 obtain⟨mA,O,r,wi,_,ho⟩:=oM I.hok e;have hz:(fs.map (·.1)).length<=Ug:=by rw[Qx,UC];omega
 refine Fc I.kIn O c.sa c.po n.taker c.hd wi hz λh' O' sb=>h _ ?_;have hd:∃o,h'.get? dx=some o:=let ⟨o,_,_,e',_⟩:=O'.ns;⟨o,e'⟩
 refine I.write (x:=a) (e:=dx) (by rw[e];exact True.intro) (.inr ho) (λb q hb z=>(sb.2 b hb).trans z) hd ?_;refine⟨by rw[aw O.ne];exact ho,?_,O.ne,O'.obj,_,O'.ns,λg=>?_,λg hg=>?_⟩
 ·have:=oj f y fs;omega
 ·show pW ((jI f y fs).lookup g) (if g=f then some u else mA g);rw[oq];by_cases q:g=f
  ·rw[if_pos q,if_pos q];exact ry
  ·rw[if_neg q,if_neg q];exact r g
 ·by_cases q:g=f
  ·rw[q];exact(mK f y fs).1
  ·refine(mK f y fs).2 g (wi g λz=>hg ?_);show(if g=f then some u else mA g)=none;rw[if_neg q];exact z
theorem Inv.made(I:Inv X pins σ H s):Inv X pins σ (upd (upd H s.heap.objs.size (.own (s.heap.objs.size+1))) (s.heap.objs.size+1) (.ins C s.heap.objs.size []))
  {s with heap:=(s.heap.push SH).push (Sj C s.heap.objs.size)}:=by
 have e1:(s.heap.push SH).get? s.heap.objs.size=some SH:=Ts s.heap rfl;have e2:((s.heap.push SH).push (Sj C s.heap.objs.size)).get? (s.heap.objs.size+1)=some (Sj C s.heap.objs.size):=by
  have:=Ts (s.heap.push SH) (o:=Sj C s.heap.objs.size) rfl
  rwa [Tt]at this
 have e3:(s.heap.push SH).Ns s.heap.objs.size (λ_=>none):=⟨SH,#[],_,e1,rfl,(λe he=>absurd he (by simp)),λ_=>rfl⟩
 have I1:=I.laid (a:=s.heap.objs.size) (o:=.own (s.heap.objs.size+1)) (h':=s.heap.push SH) (t':=s.toks) (λb u q=>Tr _ q) (Qq _) ⟨_,e1⟩;refine I1.laid (a:=s.heap.objs.size+1) (o:=.ins C s.heap.objs.size []) (t':=s.toks) (λb u q=>Tr _ q) (Qy (Tt _ _)) ?_;have ne:s.heap.objs.size≠s.heap.objs.size+1:=Qg (Qz _);refine⟨by rw[aw ne,aA],QA _,ne,e2,λ_=>none,(Heap.Ns1.of_empty e3).at λo q=>Tr _ q,λ_=>True.intro,λy hy=>absurd rfl hy⟩
theorem D8{prog:Uc}{w:Ub}{env:Env}{e:T8}{f:Str}{pos:Pos}{s:Ua}{Q:bL}(hb:UJ e f env (eval e env)=eval e env)
  (h:Um (model prog w) A (eval e env) (λo s₁=>Um (model prog w) A (getAttr o f true) Q E s₁) E s):Um (model prog w) A (eval (.Attribute e f pos) env) Q E s:=
 Attribute_any_ h (by rw[arm_eval_Attribute,hb])
end
noncomputable def Mi(K:Sn)(ta:TE)(f:Str):TE:=λσ H Q=>ta σ H λx H1=>∃a C dx fs v,x=.ref a/\H1 a=some (.ins C dx fs)/\jK K C/\b8 K C f/\fs.lookup f=some v/\Q v H1
noncomputable def Ms(K:Sn)(ta tv:TE)(f:Str):TS:=λD σ H=>tv σ H λy H1=>ta σ H1 λx H2=>∃a C dx fs,x=.ref a/\H2 a=some (.ins C dx fs)/\jK K C/\b8 K C f/\fs.length<1000/\
 D.nx σ (upd H2 a (.ins C dx (jI f y fs)))
section
variable{X:Cx}{o e value:T8}{f:Str}{pos pos' tpos:Pos}{ta tv:TE}
theorem GC(he:PE X e ta)(hb:UJ e f X.env (eval e X.env)=eval e X.env):PE X (.Attribute e f pos) (Mi X.K ta f):=by
 intro pins s σ H Q I h;refine D8 hb (cu (he pins s σ H _ I h) λu s1 ⟨x,H1,I1,rx,a,C,dx,fs,v,ex,ea,c,n,l,q⟩=>?_);subst ex;obtain rfl:u=Value.ref a:=rx;exact wo I1 ea c n l λu' s2 I2 ru=>⟨v,H1,I2,ru,q⟩
theorem Bs(ha:PE X o ta)(hv:PE X value tv)(hs:swapsWith value (some (.Attribute o f pos')) pos.line X.env=pure false):PS X (.Assign [.Attribute o f pos'] value pos) (Ms X.K ta tv f):=by
 intro pins s σ H D I h;refine UK (cu (hv pins s σ H _ I h) λu s1 ⟨y,H1,I1,ry,q⟩=>cu (ha pins s1 σ H1 _ I1 q) λov s2 h2=>?_) hs;obtain⟨x,H2,I2,rx,a,C,dx,fs,ex,ea,c,n,l,q2⟩:=h2;subst ex;obtain rfl:ov=Value.ref a:=rx;exact vP I2 ea c n l ry λs3 I3=>⟨σ,_,I3,q2⟩
theorem uN{pl:Sem Bool}{m:Str}{apos:Pos}{args:bi}{pins:aU}{s:Ua}{σ:St}{H:Hp}{Q:bL}{te:TE}(he:PE X e te)(I:Inv X pins σ H s)
  (h:te σ H fun x H1=>∃ a C dx fs g,x=.ref a/\H1 a=some (.ins C dx fs)/\jK X.K C/\Meth X.K C m g/\fs.lookup m=none /\
   ∀s1,Inv X pins σ H1 s1->Um (model X.prog X.w) X.A (UL pos (.ref g) [.ref a] (backTo pos (Uo args X.env)) (backToKw pos (UM [] X.env))) Q X.xe s1)
  (ht:eval (.Call (.Attribute e m apos) args [] pos) X.env=(do
   let ov<-eval e X.env
   standAt apos.atName
   let (f,first)<-holding [ov] (getMethod ov m pl)
   UL pos f first (backTo pos (Uo args X.env)) (backToKw pos (UM [] X.env)))):
  Um (model X.prog X.w) X.A (eval (.Call (.Attribute e m apos) args [] pos) X.env) Q X.xe s:=by
 refine PySem.W.methodCall_KW (pl:=pl) (cu (he pins s σ H _ I h) λu s1 ⟨x,H1,I1,rx,a,C,dx,fs,g,ex,ea,c,k,l,q⟩=>?_) ht;subst ex;obtain rfl:u=Value.ref a:=rx;exact wJ I1 ea c k l (q s1 I1)
end
structure fM(k:Nat)(A:Uj):Prop where
 hd:A.handled=none
 dp:A.depth+3*k+5<UN
 un:A.units+16*k+200<UO
theorem fM.mono{j k:Nat}{A:Uj}(r:fM k A)(h:j<=k):fM j A:=⟨r.hd,by have:=r.dp;omega,by have:=r.un;omega⟩
theorem fM.deeper{k:Nat}{A:Uj}(r:fM (k+1) A)(env:Env):fM k (A.deeper env):=
 ⟨r.hd,by have:=r.dp;show A.depth+1+3*k+5<_;omega,by have:=r.un;show A.units+3+16*k+200<_;omega⟩
theorem wC{A:Uj}{C:T7}{us:aS}{kw:List (Str×T5)}:(A.under (.builtin "type.__call__" ⟨.ref C::us,kw⟩)).depth=A.depth+1:=by
 first|rfl|simp[Around.under,Code.weight,Code.isCreation,Code.isGuard,Code.isCaller,Code.frames,Code.isFrame,guardIds]
theorem v7{A:Uj}{C:T7}{us:aS}{kw:List (Str×T5)}:(A.under (.builtin "type.__call__" ⟨.ref C::us,kw⟩)).units=A.units+1:=by
 first|rfl|simp[Around.under,Code.cUnits,Code.frames,Code.isFrame]
theorem fM.make{k:Nat}{A:Uj}(r:fM (k+1) A)(C:T7)(us:aS)(kw:List (Str×T5)):fM k (A.under (.builtin "type.__call__" ⟨.ref C::us,kw⟩)):=
 ⟨r.hd,by have:=r.dp;rw[wC];omega,by have:=r.un;rw[v7];omega⟩
theorem fM.depth{k:Nat}{A:Uj}(r:fM k A):A.depth<UN:=by have:=r.dp;omega
theorem fM.units{k:Nat}{A:Uj}(r:fM k A):A.units+64<UO:=by have:=r.un;omega
noncomputable def Hm:TA:=λ_ H Q=>Q [] H
noncomputable def wU(ta:TE)(tr:TA):TA:=λσ H Q=>ta σ H λx H1=>tr σ H1 λxs H2=>Q (x::xs) H2
section
variable{X:Cx}{e:T8}{es:bi}{te:TE}{t:TA}{pos:Pos}
theorem mZ:PA X [] Hm:=λ_ _ _ _ H Q I h=>Calls.spliced_nil ⟨[],H,I,.nil,h⟩
theorem fS(ha:PE X e te)(hr:PA X es t)(hs:Uo (e::es) X.env=(false,eval e X.env)::Uo es X.env:=by rfl):PA X (e::es) (wU te t):=by
 intro pos pins s σ H Q I h;rw[hs];show Um _ _ (spliced ((false,eval e X.env)::backTo pos (Uo es X.env))) _ _ s;refine Calls.spliced_cons (cu (ha pins s σ H _ I h) λu s1 ⟨x,H1,I1,r1,q1⟩=>?_);exact cu (hr pos pins s1 σ H1 _ I1 q1) λus s2 ⟨xs,H2,I2,r2,q2⟩=>⟨x::xs,H2,I2,.cons r1 r2,q2⟩
noncomputable def Ny(t:TA):TE:=λσ H Q=>t σ H λxs H1=>xs.length<=Ug/\∀p,H1 p=none->Q (.ref p) (upd H1 p (.tup xs))
noncomputable def Ng(t:TA):TE:=λσ H Q=>t σ H λxs H1=>xs.length<=Ug/\∀p,H1 p=none->Q (.ref p) (upd H1 p (.lst xs))
theorem Iu{x1}(h:PA X es t):PE X (.Tuple es x1 pos) (Ny t):=by
 intro pins s σ H Q I hq;refine wpAny_Tuple_spliced (cu (h pos pins s σ H _ I hq) λus s1 ⟨xs,H1,I1,r,z,q⟩=>⟨by rw[<-r.length];exact z,?_⟩);have hf:H1 s1.heap.objs.size=none:=I1.hok.fresh (Qq _);refine⟨.ref s1.heap.objs.size,upd H1 s1.heap.objs.size (.tup xs),I1.laid (t':=s1.toks) (λb u e=>Tr _ e) (Qq _) ?_,rfl,q _ hf⟩;exact⟨z,us,r,⟨_,Ts _ rfl,rfl,_,rfl⟩⟩
theorem Au(h:PA X es t):PE X (.List es pos) (Ng t):=by
 intro pins s σ H Q I hq;refine wpAny_List_spliced (cu (h pos pins s σ H _ I hq) λus s1 ⟨xs,H1,I1,r,z,q⟩=>⟨by rw[<-r.length];exact z,?_⟩);have hf:H1 s1.heap.objs.size=none:=I1.hok.fresh (Qq _);refine⟨.ref s1.heap.objs.size,upd H1 s1.heap.objs.size (.lst xs),I1.laid (t':=s1.toks) (λb u e=>Tr _ e) (Qq _) ?_,rfl,q _ hf⟩;exact⟨z,us,0,r,Ts _ rfl⟩
end
noncomputable abbrev Sp:=List V->Hp->VK->XK->Prop
noncomputable abbrev vB:=List Env->Hp->Ua->XK->bL
structure sW(P:Uc)(w:Ub)(K:Sn)(mg:bU)(base:Ue)(A:Uj)(outer:List Env)(s:Ua)(H:Hp):Prop where
 frames:A.frames=some outer
 mod:Mod K mg base
 bs:∀b o,base.get? b=some o->s.heap.get? b=some o/\H b=none
 bsz:base.objs.size<=s.heap.objs.size
 funs:s.heap.FunFrames base outer
 frf:∀b∈frs outer,H b=none
 hok:oi P w H s.heap
 bare:AllBare s.gens
noncomputable def CE(outer:List Env)(P:Uc)(w:Ub)(H:Hp)(s:Ua)(Q:VK)(u:T5)(s':Ua):Prop:=
 ∃v H',s'.os=s.os/\AllBare s'.gens/\Un (frs outer) [] H H' s.heap s'.heap/\oi P w H' s'.heap/\RelV v u/\Q v H'
noncomputable def CR(CX:vB)(outer:List Env)(P:Uc)(w:Ub)(H:Hp)(s:Ua)(Q:VK)(E:XK)(r:UH)(s':Ua):Prop:=
 match r with
 |.ok (.ret u)=>CE outer P w H s Q u s'
 |.ok _=>False
 |.error e=>CX outer H s E e s'
structure gS(P:Uc)(w:Ub)(K:Sn)(mg:bU)(base:Ue)(CX:vB)(k:Nat)(f:T7)(fd:UP)(ps:ax)(sp:Sp):Prop where
 len:∀vs H Q E,sp vs H Q E->vs.length=ps.length
 run:∀(A:Uj)(outer:List Env)(s:Ua)(H:Hp)(args:Args)(us:aS)(vs:aI)(Q:VK)(E:XK),fM k A->sW P w K mg base A outer s H->UQ s fd args (ps.zip us)->Vals vs us->sp vs H Q E->
  UI (model P w) A (.call (.ref f) args) (CR CX outer P w H s Q E) s
theorem gS.mono{P:Uc}{w:Ub}{K:Sn}{mg:bU}{base:Ue}{CX:vB}{j k:Nat}{f:T7}{fd:UP}{ps:ax}{sp:Sp}(F:gS P w K mg base CX j f fd ps sp)(h:j<=k):
  gS P w K mg base CX k f fd ps sp:=⟨F.len,λA outer s H args us vs Q E hr=>F.run A outer s H args us vs Q E (hr.mono h)⟩
theorem sW.make{P:Uc}{w:Ub}{K:Sn}{mg:bU}{base:Ue}{A:Uj}{outer:List Env}{s:Ua}{H:Hp}(e:sW P w K mg base A outer s H)(C:T7)(us:aS)(kw:List (Str×T5)):
  sW P w K mg base (A.under (.builtin "type.__call__" ⟨.ref C::us,kw⟩)) outer s H:=⟨by first|exact e.frames|(simpa [Around.under,Code.envs,Code.isFrame,pushEnvs]using e.frames),e.mod,e.bs,e.bsz,e.funs,e.frf,e.hok,e.bare⟩
section
variable{X:Cx}{pins:aU}{σ:St}{H:Hp}{s s':Ua}
theorem Inv.env0(I:Inv X pins σ H s):sW X.prog X.w X.K X.mg X.base X.A X.stack s H:=
 ⟨I.ok.frames,I.ok.mod,I.bs,Qh I.ok.bsz I.sz,I.stack,I.stkFree,I.hok,I.bare⟩
theorem Inv.after{Q:VK}{u:T5}(I:Inv X pins σ H s)(h:CE X.stack X.prog X.w H s Q u s'):EP X pins σ Q u s':=by
 obtain⟨v,H',os,bare,un,hok,r,q⟩:=h;obtain⟨hh,g,d,t,os'⟩:=s';obtain rfl:os'=s.os:=os;exact⟨v,H',I.call (h':=hh) (g':=g) (d':=d) (t':=t) (ch:=[]) un hok bare (λb z=>absurd z (by simp)),r,q⟩
end
noncomputable def Jf(C:T7)(sp:Sp)(dvs:aI)(E:XK)(t:TA):TE:=λσ H Q=>t σ H λvs H1=>∀x dx,H1 x=none->H1 dx=none->dx≠x->
 sp (.ref x::(vs++dvs)) (upd (upd H1 dx (.own x)) x (.ins C dx [])) (λv H2=>v=.non/\Q (.ref x) H2) E
noncomputable def Binds(K:Sn)(fd:UP)(ps:ax)(ds:aS):Prop:=
 ∀(s:Ua)(us:aS),K.In s.heap->(us++ds).length=ps.length->UQ s fd ⟨us,[]⟩ (ps.zip (us++ds))
theorem Binds.all{K:Sn}{fd:UP}{ps:ax}(h:∀us:aS,us.length=ps.length->bindArgs fd ⟨us,[]⟩=pure (ps.zip us)):Binds K fd ps []:=λs us _ hl=>by
 rw[QB]at hl ⊢;exact .of_eq (h us hl)
noncomputable def wD(CX:vB)(X:Cx)(E:XK):Prop:=∀(pins:aU)(σ:St)(H:Hp)(s:Ua)(e:T5)(s':Ua),Inv X pins σ H s->CX X.stack H s E e s'->X.xe e s'
section
variable{X:Cx}{CX:vB}{k:Nat}{f C:T7}{fd:UP}{ps:ax}{sp:Sp}{dvs:aI}{ds:aS}{E:XK}{x m:Str}{p pos apos:Pos}{e o:T8}{es:bi}{ta:TE}{t:TA}
structure Mk(K:Sn)(C f:T7):Prop where
 makes:SD K C=true
 init:Su K (.ref C) "__init__"=some (some (.ref f))
 fn:Sx K (.ref f)=true
 kp:SN K (.ref C)=true
theorem Ah{pins:aU}{σ:St}{H:Hp}{s:Ua}{Q:VK}{us:aS}{vs:aI}(M:Mk X.K C f)(F:gS X.prog X.w X.K X.mg X.base CX k f fd ps sp)(hr:fM (k+1) X.A)(hb:Binds X.K fd ps ds)(hd:Vals dvs ds)
  (hx:wD CX X E) (I:Inv X pins σ H s) (r:Vals vs us)
  (h:∀x dx,H x=none->H dx=none->dx≠x->sp (.ref x::(vs++dvs)) (upd (upd H dx (.own x)) x (.ins C dx [])) (λv H2=>v=.non/\Q (.ref x) H2) E):
  Um (model X.prog X.w) X.A (call (.ref C) us) (EP X pins σ Q) X.xe s:=by
 have hq:=h (s.heap.objs.size+1) s.heap.objs.size (I.hok.fresh (QC _)) (I.hok.fresh (Qq _)) (Qg (Qz _));have I2:=Inv.made (C:=C) I;have r2:Vals (V.ref (s.heap.objs.size+1)::(vs++dvs)) (Value.ref (s.heap.objs.size+1)::(us++ds)):=.cons rfl (r.append hd);have hl:(Value.ref (s.heap.objs.size+1)::us++ds).length=ps.length:=by
  have e:=r2.length;rw[F.len _ _ _ _ hq]at e;exact e.symm
 refine UR (BU (f:=f) I.kIn M.makes M.init (beq_iff_eq.mp M.fn) (UT (F.run _ X.stack _ _ ⟨Value.ref (s.heap.objs.size+1)::us,[]⟩ (Value.ref (s.heap.objs.size+1)::(us++ds)) _ _ E (hr.make C us [])
  (I2.env0.make C us []) (hb _ (Value.ref (s.heap.objs.size+1)::us) I2.kIn hl) r2 hq) λr s' hq'=>?_))
 cases r with
 |error e=>exact hx pins σ _ _ e s' I2 hq'
 |ok fl=>
  cases fl with
  |ret u=>
   obtain⟨v,H',I3,rv,ev,q3⟩:=I2.after hq';subst ev;exact⟨rv,⟨V.ref (s.heap.objs.size+1),H',I3,rfl,q3⟩⟩
  |next=>exact False.elim hq'
  |brk=>exact False.elim hq'
  |cont=>exact False.elim hq'
theorem EB(M:Mk X.K C f)(F:gS X.prog X.w X.K X.mg X.base CX k f fd ps sp)(hr:fM (k+1) X.A)(hg:Gl X x)(hm:X.mg x=some (.ref C))(hb:Binds X.K fd ps ds)(hd:Vals dvs ds)(hx:wD CX X E)
  (ha:PA X (e::es) t) (hdb:(x==("__debug__":Str))=false:=by decide) (he:Uo (e::es) X.env=(false,eval e X.env)::Uo es X.env:=by rfl) (hpl:(backTo pos (Uo es X.env)).any (·.1)=false:=by rfl):
  PE X (.Call (.Name x p) (e::es) [] pos) (Jf C sp dvs E t):=by
 intro pins s σ H Q I h;refine UU (hW I hg hm ?_ hdb);refine SR (h₀:=X.base) I.ok.mod.kin M.kp (cu (ha pos pins s σ H _ I h) λus s1 ⟨vs,H1,I1,r,q⟩=>⟨I1.kIn,?_⟩) he hpl;exact Ah M F hr hb hd hx I1 r q
end
noncomputable def PK(X:Cx)(kws:List UV)(t:TA):Prop:=
 ∀(pos:Pos)(pins:aU)(s:Ua)(σ:St)(H:Hp)(Q:aI->Hp->Prop),Inv X pins σ H s->t σ H Q->Um (model X.prog X.w) X.A (evalAll ((backToKw pos (UM kws X.env)).map (·.2))) (AP X pins σ Q) X.xe s
section
variable{X:Cx}{CX:vB}{k:Nat}{f C:T7}{fd:UP}{ps ks:ax}{sp:Sp}{E:XK}{x m:Str}{p pos apos kpos:Pos}{e o:T8}{es:bi}{kws:List UV}{te ta:TE}{t tk:TA}{nm:Option Str}
theorem HU:PK X [] Hm:=λ_ _ _ _ H Q I h=>wpAny_evalAll_nil ⟨[],H,I,.nil,h⟩
theorem Em(ha:PE X e te)(hr:PK X kws t):PK X (⟨nm,e,kpos⟩::kws) (wU te t):=by
 intro pos pins s σ H Q I h;show Um _ _ (evalAll ((do let v<-eval e X.env;standAt pos;pure v)::(backToKw pos (UM kws X.env)).map (·.2))) _ _ s;refine wpAny_evalAll_cons (Uw (cu (ha pins s σ H _ I h) λu s1 ⟨x,H1,I1,r1,q1⟩=>Uw (UW (Uv ?_))));exact cu (hr pos pins s1 σ H1 _ I1 q1) λus s2 ⟨xs,H2,I2,r2,q2⟩=>⟨x::xs,H2,I2,.cons r1 r2,q2⟩
variable{g:aS->aS->aS}{gV:aI->aI->aI}
end
structure bu(N P:ax)(sc:Uk):Prop where
 kind:sc.kind=.function
 co:sc.isCoroutine=false
 gen:sc.isGenerator=false
 nd:N.Nodup
 pre:N.take P.length=P
 par:∀x∈P,sc.names.lookup x=some .local\/sc.names.lookup x=some .cell
 nofree:∀y∈sc.names,y.2≠.free
theorem rZ{kindOf:Str->Option T6}{x:Str}:∀{binds:List (Str×T5)}{m:bU},(∀v,(x,v)∉binds)->bindL kindOf binds m x=m x
 |[],_,_=>rfl
 |(n,v)::r,m,h=>by
  unfold bindL;rw[rZ λw hw=>h w (Ql _ hw)];split
  ·have:x≠n:=(by rintro rfl;exact h v Qk);simp[this]
  ·rfl
theorem rE{kindOf:Str->Option T6}{x:Str}:∀{binds:List (Str×T5)}{m:bU},(∀v,(x,v)∉binds)->bindC kindOf binds m x=m x
 |[],_,_=>rfl
 |(n,v)::r,m,h=>by
  unfold bindC;rw[rE λw hw=>h w (Ql _ hw)];split
  ·rfl
  ·have:x≠n:=(by rintro rfl;exact h v Qk);simp[this]
theorem rM{kindOf:Str->Option T6}{x:Str}{v:T5}:∀{P:ax}{vs:aS}{i:Nat}{m:bU},P.Nodup->P[i]?=some x->vs[i]?=some v->kindOf x=some .local->
  bindL kindOf (P.zip vs) m x=some v
 |[],_,_,_,_,h,_,_=>by simp at h
 |_::_,[],_,_,_,_,h,_=>by simp at h
 |p::P,w::vs,0,m,nd,h1,h2,hk=>by
  simp at h1 h2;subst h1;subst h2;show bindL kindOf ((p,w)::P.zip vs) m p=_;unfold bindL;rw[rZ λv hv=>(List.nodup_cons.mp nd).1 (QD hv).1,if_pos hk];simp
 |p::P,w::vs,i+1,m,nd,h1,h2,hk=>by
  show bindL kindOf ((p,w)::P.zip vs) m x=_;unfold bindL;exact rM (i:=i) (List.nodup_cons.mp nd).2 (by simpa using h1) (by simpa using h2) hk
theorem sq{kindOf:Str->Option T6}{x:Str}{v:T5}:∀{P:ax}{vs:aS}{i:Nat}{m:bU},P.Nodup->P[i]?=some x->vs[i]?=some v->kindOf x≠some .local->
  bindC kindOf (P.zip vs) m x=some v
 |[],_,_,_,_,h,_,_=>by simp at h
 |_::_,[],_,_,_,_,h,_=>by simp at h
 |p::P,w::vs,0,m,nd,h1,h2,hk=>by
  simp at h1 h2;subst h1;subst h2;show bindC kindOf ((p,w)::P.zip vs) m p=_;unfold bindC;rw[rE λv hv=>(List.nodup_cons.mp nd).1 (QD hv).1,if_neg hk];simp
 |p::P,w::vs,i+1,m,nd,h1,h2,hk=>by
  show bindC kindOf ((p,w)::P.zip vs) m x=_;unfold bindC;exact sq (i:=i) (List.nodup_cons.mp nd).2 (by simpa using h1) (by simpa using h2) hk
noncomputable def start(N:ax)(vs:aI):St:=vs.map some++List.replicate (N.length-vs.length) none
noncomputable def jg(CX:vB)(P:Uc)(w:Ub)(K:Sn)(mg:bU)(base:Ue)(N:ax)(qual:Str)(scope:Uk)(f:T7)(cd:T5)(A:Uj)(outer:List Env)(s:Ua)(H:Hp)(E:XK):Cx where
 prog:=P
 w:=w
 K:=K
 mg:=mg
 base:=base
 A:=A.deeper (envOfC qual scope s.heap.objs.size f cd)
 N:=N
 s₀:=s
 H₀:=H
 env:=envOfC qual scope s.heap.objs.size f cd
 outer:=outer
 stack:=envOfC qual scope s.heap.objs.size f cd::outer
 ex:=[]
 calm:=true
 fn:=λ_=>true
 pn:=[]
 xe:=λe s'=>Um (model P w) (A.deeper (envOfC qual scope s.heap.objs.size f cd)) (leaving (envOfC qual scope s.heap.objs.size f cd) e) (λ_ s''=>CX outer H s E e s'') (λe' s''=>CX outer H s E e' s'') s'
theorem vw{sc:Uk}{n:Nat}{x:Str}(h:sc.names.lookup x=some .cell):∃c,(cellsFrom n sc.names []).lookup x=some c:=by
 have q:=SU sc.names n [] (.inl h);exact Option.isSome_iff_exists.mp q
theorem rP{CX:vB}{P:Uc}{w:Ub}{K:Sn}{mg:bU}{base:Ue}{N ps:ax}{qual:Str}{scope:Uk}{f:T7}{cd:T5}{A:Uj}{outer:List Env}{s s1:Ua}{H:Hp}{E:XK}{us:aS}{vs:aI}
  (S:bu N ps scope) (hd:A.handled=none) (e0:sW P w K mg base A outer s H) (hl:vs.length=ps.length) (r:Vals vs us)
  (x:InCallC s s.heap.objs.size (bindL (envOfC qual scope s.heap.objs.size f cd).kindOf (ps.zip us) λ_=>none) (cellsFrom (s.heap.objs.size+1) scope.names []) (bindC (envOfC qual scope s.heap.objs.size f cd).kindOf (ps.zip us) λ_=>none) s1):
  Inv (jg CX P w K mg base N qual scope f cd A outer s H E) [] (start N vs) H s1:=by
 have hpl:ps.length<=N.length:=by have:=congrArg List.length S.pre;rw[QE]at this;omega
 obtain⟨h1,tk,rfl,hk⟩:=x.done;have noA:∀b:T7,b∉(jg CX P w K mg base N qual scope f cd A outer s H E).ex:=λb z=>absurd (show b∈([]:aH)from z) (by simp);refine⟨⟨e0.mod,S.kind,rfl,rfl,Qq _,λy z c h1 h2=>?_,λy hy=>?_,λy c _ h=>?_,λ_=>hd,Around.frames_deeper e0.frames,.inr ⟨rfl,rfl⟩,λb z=>absurd z (noA b),e0.bs,e0.bsz,λb _ _=>noA b,λb z=>absurd z (noA b),e0.funs,e0.frf⟩,
  rfl,e0.bare,Un.kept hk,⟨_,x.toInCall.ns,λi y v h1 h2 h3=>?_⟩,λy c h=>⟨_,x.cell y c h⟩,e0.hok.fresh (Qq _),λy c h=>?_,λp hp=>absurd (show p∈([]:aU)from hp) (by simp),e0.hok.kept hk,?_⟩
 ·exact name_of_addr x.apart (PySem.mem_of_lookup h1) (PySem.mem_of_lookup h2)
 ·have hy:scope.names.lookup y=some .cell\/scope.names.lookup y=some .free:=hy;rcases hy with hy|hy
  ·exact vw hy
  ·exact absurd rfl (S.nofree _ (PySem.mem_of_lookup hy))
 ·exact Qi (x.above y c (PySem.mem_of_lookup h))
 ·have hi:i<vs.length:=by
   unfold start at h2;by_cases hi:i<vs.length
   ·exact hi
   ·rw[QF (by simpa using hi)]at h2;rw[QG]at h2;split at h2<;>cases h2
  have ha:vs[i]?=some v:=by
   unfold start at h2;rw[QH (by simpa using hi),QI]at h2;cases e:vs[i]? with
   |none=>rw[e]at h2;cases h2
   |some a=>rw[e]at h2;cases h2;rfl
  obtain⟨u,hu,rv⟩:=r.get ha;have hp:ps[i]?=some y:=by
   rw[<-S.pre,List.getElem?_take_of_lt ‹0›];exact h1
  have ndP:ps.Nodup:=by rw[<-S.pre];exact S.nd.sublist (List.take_sublist _ _)
  refine⟨u,rv,?_⟩;rcases S.par y (QJ hp)with k|k
  ·exact .inl ⟨k,rM ndP hp hu k⟩
  ·obtain⟨c,e⟩:=vw (n:=s.heap.objs.size+1) k;refine .inr ⟨.inl k,c,e,?_⟩;have q:=x.cell y c e;rw[sq ndP hp hu (by show scope.names.lookup y≠_;rw[k];decide)]at q;exact q
 ·exact e0.hok.fresh (Qi (x.above y c (PySem.mem_of_lookup h)))
 ·unfold start;show _=N.length;rw[QK,Qx,List.length_replicate];omega
theorem FC{CX:vB}{P:Uc}{w:Ub}{K:Sn}{mg:bU}{base:Ue}{k:Nat}{f:T7}{name qual:Str}{params:Arguments}{body:dE}{scope:Uk}{dV kV doc pm cdv ct oc:T5}{an od:iq}
  {osl:Array (Option T5)} {N ps:ax} {sp:Sp} (lk:K.lookup f=some ⟨oc,od,.func (SV name qual params body scope dV kV doc pm an cdv ct),osl⟩) (hcd:SW K cdv qual=true) (S:bu N ps scope)
  (len:∀vs H Q E,sp vs H Q E->vs.length=ps.length)
  (hbody:∀ (A:Uj) (outer:List Env) (s:Ua) (H:Hp) (vs:aI) (Q:VK) (E:XK),fM k (A.deeper (envOfC qual scope s.heap.objs.size f cdv))->sp vs H Q E ->
   ∃t,uf (jg CX P w K mg base N qual scope f cdv A outer s H E) body t/\t {nx:=λ_ H'=>Q .non H',rt:=Q} (start N vs) H):
  gS P w K mg base CX (k+1) f (SV name qual params body scope dV kV doc pm an cdv ct) ps sp:=by
 refine⟨len,λA outer s H args us vs Q E hr e0 hb r hsp=>?_⟩;have hl:=len _ _ _ _ hsp;have KX:K.In s.heap:=e0.mod.kin.keeps λb o e=>(e0.bs b o e).1;have lim:s.heap.NoLimit:=e0.mod.nolimit.keeps λb o e=>(e0.bs b o e).1;have hkind:∀y∈ps.zip us,scope.names.lookup y.1=some .local\/(scope.names.lookup y.1=some .cell/\((cellsFrom (s.heap.objs.size+1) scope.names []).lookup y.1).isSome=true):=λ⟨n,v⟩ hy=>by
  rcases S.par n (QD hy).1 with q|q
  ·exact .inl q
  ·exact .inr ⟨q,SU _ _ _ (.inl q)⟩
 refine codeAny_call_function hr.depth (KX _ _ lk) rfl S.co S.gen rfl (SY KX hcd) (hb _ _ _ _ ?_);refine UX S.kind hkind λenv he s1 x=>?_;subst he;refine⟨lim.keeps x.toInCall.keep,codeAny_func ?_⟩;obtain⟨t,ht,hq⟩:=hbody A outer s H vs Q E (hr.deeper _) hsp;have I:Inv (jg CX P w K mg base N qual scope f cdv A outer s H E) [] (start N vs) H s1:=rP S hr.hd e0 hl r x;refine Up (ht [] s1 (start N vs) H _ I hq) (λfl s' hs=>?_) λe s' hs=>hs;have fin:∀{σ':St}{H':Hp}{v:V}{u:T5},Inv (jg CX P w K mg base N qual scope f cdv A outer s H E) [] σ' H' s'->RelV v u->Q v H'->CE outer P w H s Q u s':=
  λ{σ' H' v u} J rv q=>⟨v,H',J.os,J.bare,J.base,J.hok,rv,q⟩
 cases fl with
 |ret u=>
  obtain⟨v,σ',H',J,rv,q⟩:=hs;exact fin J rv q
 |next=>
  obtain⟨σ',H',J,q⟩:=hs;exact fin (v:=V.non) (u:=Value.none) J rfl q
 |brk=>
  obtain⟨_,_,_,q⟩:=hs;exact False.elim q
 |cont=>
  obtain⟨_,_,_,q⟩:=hs;exact False.elim q
section
variable{X:Cx}{x:Str}{p pos:Pos}{e:T8}{es:bi}{t:TA}{id T:String}{r:aI->Hp->VK->Prop}
noncomputable def Kx(r:aI->Hp->VK->Prop)(t:TA):TE:=λσ H Q=>t σ H λvs H1=>r vs H1 Q
theorem j9(hc:eG X (.builtin id) r)(hg:Gl X x)(hm:X.mg x=none)(hv:Ui x=some (.builtin id))(ha:PA X (e::es) t)(hn:x≠"__name__":=by decide)(hdb:(x==("__debug__":Str))=false:=by decide)
  (he:Uo (e::es) X.env=(false,eval e X.env)::Uo es X.env:=by rfl) (hpl:(backTo pos (Uo es X.env)).any (·.1)=false:=by rfl):PE X (.Call (.Name x p) (e::es) [] pos) (Kx r t):=by
 intro pins s σ H Q I h;refine UU (jY I hg hm hv ?_ hn hdb);exact PyProof.Rows.callWith_builtin1 (cu (ha pos pins s σ H _ I h) λus s1 ⟨vs,H1,I1,r1,q1⟩=>hc pins s1 σ H1 vs us Q I1 r1 q1) he hpl
theorem yE(hc:eG X (.type T) r)(hg:Gl X x)(hm:X.mg x=none)(hv:Ui x=some (.type T))(ha:PA X (e::es) t)(hn:x≠"__name__":=by decide)(hdb:(x==("__debug__":Str))=false:=by decide)
  (he:Uo (e::es) X.env=(false,eval e X.env)::Uo es X.env:=by rfl) (hpl:(backTo pos (Uo es X.env)).any (·.1)=false:=by rfl):PE X (.Call (.Name x p) (e::es) [] pos) (Kx r t):=by
 intro pins s σ H Q I h;refine UU (jY I hg hm hv ?_ hn hdb);exact TC (cu (ha pos pins s σ H _ I h) λus s1 ⟨vs,H1,I1,r1,q1⟩=>hc pins s1 σ H1 vs us Q I1 r1 q1) he hpl
end
end L2
namespace HT
open PySem PyProof.Rows
theorem Kd(A:Uj)(s:Ua)(a:Int)(t:Tok)(c:Int)(u:Tok)(prog:Uc)(w:Ub)(E:T5->Ua->Prop)(Q:T5->Ua->Prop)(h:Q (.bool (decide (a<c))) s):
  Um (model prog w) A (richCompare .Lt (.int a t) (.int c u)) Q E s:=
 (PyProof.Rows.lt_int h:Um (model prog w) A (Ur .Lt (.int a t) (.int c u)) Q E s)
section
open PySem.SeqAt
open PySem.AutoSeq1 (wpAny_loadPart')
open PySem.MeetsSeq PySem.MeetsSeq2 PySem.MeetsSeq3
end
section
variable{prog:Uc}{w:Ub}{A:Uj}{E:T5->Ua->Prop}{s:Ua}
theorem Kn{t b:T7}{vs ws:List T5}{Q:T5->Ua->Prop}(ht:IsTup s.heap t vs.toArray)(hb:IsTup s.heap b ws.toArray)(hv:vs≠[])
  (h1:ws=[]->Q (.ref t) s) (h2:ws≠[]->Q (.ref s.heap.objs.size) {s with heap:=s.heap.push {cls:=.type "tuple",data:=.seq (vs++ws).toArray}})
  (hsz:vs.length+ws.length<=Ug):Um (model prog w) A (UB .Add (.ref t) (.ref b)) Q E s:=by
 obtain⟨⟨cls,dd,data,sl⟩,ho,hc,n,hd⟩:=id ht;obtain⟨⟨cls2,dd2,data2,sl2⟩,ho2,hc2,n2,hd2⟩:=id hb;simp only at hc hd hc2 hd2;subst hc hd hc2 hd2;have e:vs.toArray++ws.toArray=(vs++ws).toArray:=by simp
 by_cases hw:ws=[]
 ·exact UY ⟨_,ho,rfl⟩ ⟨_,ho2,rfl⟩ UZ U0 TR TU (TV _ _)
   (tuple_addW1 t b vs.toArray ws.toArray n n2 dd dd2 sl sl2 (by simpa using hv) (by simp[hw])) ⟨ho,ho2,h1 hw⟩
 ·refine UY ⟨_,ho,rfl⟩ ⟨_,ho2,rfl⟩ UZ U0 TR TU (TV _ _)
   (tuple_addW2 t b vs.toArray ws.toArray n n2 dd dd2 sl sl2 (by simpa using hv) (by simpa using hw) (by rw[Qs,Qs];exact hsz)) ⟨ho,ho2,?_⟩
  rw[e];exact h2 hw
noncomputable def sIx(n d:Nat):Option Int->Nat
 |none=>d
 |some v=>if v<0 then(v+(n:Int)).toNat else min v.toNat n
theorem Jw(n d:Nat):sIx n d none=d:=rfl
theorem Kl(n d k:Nat):sIx n d (some (k:Int))=min k n:=by
 show(if(k:Int)<0 then((k:Int)+(n:Int)).toNat else min (k:Int).toNat n)=min k n;rw[if_neg ‹0›,QL]
theorem Gp(n d:Nat)(hd:d<=n)(o:Option Int):sIx n d o<=n:=by
 cases o with
 |none=>exact hd
 |some v=>
  show(if v<0 then(v+(n:Int)).toNat else min v.toNat n)<=n;by_cases hv:v<0
  ·rw[if_pos hv];omega
  ·rw[if_neg hv];exact Nat.min_le_right _ _
theorem xZ(v:Int)(n d:Nat):(if v<0 then max (v+(n:Int)) 0 else min v (n:Int))=((sIx n d (some v):Nat):Int):=by
 show(if v<0 then max (v+(n:Int)) 0 else min v (n:Int))=(((if v<0 then(v+(n:Int)).toNat else min v.toNat n):Nat):Int)
 by_cases hv:v<0
 ·simp only[if_pos hv];omega
 ·simp only[if_neg hv];omega
theorem vM(lo hi:Option Int)(n:Nat):Builtin.Slice.sliceAdjust lo hi 1 (n:Int)=(((sIx n 0 lo:Nat):Int),((sIx n n hi:Nat):Int)):=by
 have h1:¬((1:Int)<0):=by omega
 unfold Builtin.Slice.sliceAdjust;simp only[h1,if_false];refine Prod.ext ?_ ?_
 ·cases lo with
  |none=>rfl
  |some v=>exact xZ v n 0
 ·cases hi with
  |none=>rfl
  |some v=>exact xZ v n n
theorem wL(i j:Nat):Builtin.Slice.slicePlaces (i:Int) (j:Int) 1=j-i:=by
 unfold Builtin.Slice.slicePlaces;have h1:(1:Int)>0:=by omega
 simp only[h1,if_true,Int.ediv_one];split<;>omega
theorem pJ{v:T5}{o:Option Int}{Q:Option Int->Ua->Prop}(p:U1 v o)(h:Q o s):Um (model prog w) A (Builtin.Slice.slicePartIndex v) Q E s:=by
 cases p with
 |none=>exact slicePart_none h
 |int i t=>exact slicePart_int h
theorem mE{sl:T7}{vl vu:T5}{lo hi:Option Int}{n:Nat}{Q:Int×Int×Nat->Ua->Prop}(hs:s.heap.IsSliceOf sl vl vu .none)(pl:U1 vl lo)(pu:U1 vu hi)
  (h:Q (((sIx n 0 lo:Nat):Int),1,sIx n n hi-sIx n 0 lo) s):Um (model prog w) A (Builtin.Slice.sliceApplied (.ref sl) (pure (n:Int))) Q E s:=by
 obtain⟨os,hos,hcs,hds⟩:=id hs;unfold Builtin.Slice.sliceApplied Builtin.Slice.sliceFields;refine Uw (Uw (U2 hos hds (x:=vl) rfl (Uw (U2 hos hds (x:=vu) rfl (Uw (U2 hos hds (x:=.none) rfl (Uv ?_)))))));refine Uw (slicePart_none ?_);show Um _ _ (if((1:Int)==0)=true then _ else _) _ _ s;rw[if_neg (by decide)];refine Uw (pJ pl (Uw (pJ pu (Uw (Uv ?_)))));show Um _ _ (match Builtin.Slice.sliceAdjust lo hi 1 (n:Int)with|(lo,hi)=>pure (lo,(1:Int),Builtin.Slice.slicePlaces lo hi 1)) _ _ s;rw[vM lo hi n];show Um _ _ (pure (((sIx n 0 lo:Nat):Int),(1:Int),Builtin.Slice.slicePlaces ((sIx n 0 lo:Nat):Int) ((sIx n n hi:Nat):Int) 1)) _ _ s;rw[wL];exact Uv h
theorem Bh(xs:Array T5)(i k:Nat):((List.range k).filterMap λ(m:Nat)=>xs[((i:Int)+(m:Int)*1).toNat]?).toArray=((xs.toList.drop i).take k).toArray:=by
 have e:(λ(m:Nat)=>xs[((i:Int)+(m:Int)*1).toNat]?)=λm=>xs[i+m]?:=by
  funext m
  have:((i:Int)+(m:Int)*1).toNat=i+m:=by omega
  rw[this]
 rw[e]
 have:=pick_run xs i k
 rw[List.filterMap_map]at this;have e2:((λx=>xs[x]?)∘λx=>i+x)=λm=>xs[i+m]?:=rfl;rw[e2]at this;rw[this]
theorem xq{t sl:T7}{items:Array T5}{vl vu:T5}{lo hi:Option Int}{Q:T5->Ua->Prop}(ht:IsTup s.heap t items)(hs:s.heap.IsSliceOf sl vl vu .none)(pl:U1 vl lo)(pu:U1 vu hi)
  (hw:¬(sIx items.size 0 lo=0/\sIx items.size items.size hi=items.size))
  (h:Q (.ref s.heap.objs.size) {s with heap:=s.heap.push {cls:=.type "tuple",data:=.seq ((items.toList.drop (sIx items.size 0 lo)).take (sIx items.size items.size hi-sIx items.size 0 lo)).toArray}})
  (hsz:items.size<=Ug):Um (model prog w) A (getItem (.ref t) (.ref sl)) Q E s:=by
 have htake:sizeOk (.seq ((items.toList.drop (sIx items.size 0 lo)).take (sIx items.size items.size hi-sIx items.size 0 lo)).toArray):=by
  show((items.toList.drop (sIx items.size 0 lo)).take (sIx items.size items.size hi-sIx items.size 0 lo)).toArray.size<=Ug;rw[Qs,QE,QM,Array.length_toList];omega
 have hj:sIx items.size items.size hi<=items.size:=Gp _ _ (Qq _) hi;obtain⟨os,hos,hcs,hds⟩:=id hs;have hTs:s.TypeIs (.ref sl) "slice":=⟨os,hos,hcs⟩
 unfold getItem
 try with_reducible refine U3 ?_
 first|refine Uw (Uv ?_)|skip
 refine Uw (wpAny_sequenceKey ht.typeIs (by decide) ?_);refine Uw (U4 (name:=Str.ofString "__getitem__") ht.typeIs TF
  (U5 TF ht.typeIs entry_tuple_getitem ?_ (args_tuple_getitem _ _)))
 show Um _ _ (Builtin.Tuple.tupleItemsOf (.ref t) >>= _) _ _ s;refine Uw (tupleItemsOf_ ht ?_);refine Uw (U6 hTs ?_);rw[if_pos (by decide)];refine Uw (mE hs pl pu ?_);have hno:¬((((sIx items.size 0 lo:Nat):Int)==0&&(1:Int)==1&&(sIx items.size items.size hi-sIx items.size 0 lo)==items.size)=true):=by
  intro q;rw[QN,QN]at q;have q1:((sIx items.size 0 lo:Nat):Int)=0:=eq_of_beq q.1.1;have q2:sIx items.size items.size hi-sIx items.size 0 lo=items.size:=eq_of_beq q.2;exact hw ⟨by omega,by omega⟩
 show Um _ _ (if(((sIx items.size 0 lo:Nat):Int)==0&&(1:Int)==1&&(sIx items.size items.size hi-sIx items.size 0 lo)==items.size)=true then _ else _) _ _ s;rw[if_neg hno,Bh]
 first
  |exact Uw (m:=Builtin.Tuple.tupleExact _) (U7 (Uv ⟨_,rfl,Uv h⟩) htake)
  |exact Uw (m:=Builtin.Tuple.tupleExact _) (U7 (Uw (Uv (Uv ⟨_,rfl,Uv h⟩))) htake)
  |exact Uw (Uw (m:=Builtin.Tuple.tupleExact _) (U7 (Uv (Uv ⟨_,rfl,Uv h⟩)) htake))
  |exact Uw (Uw (m:=Builtin.Tuple.tupleExact _) (U7 (Uv ⟨_,rfl,Uv h⟩) htake))
end
end HT
namespace L2
open PySem PySem.Spec PyProof.Rows
noncomputable abbrev TO:=St->Hp->(dr->Hp->Prop)->Prop
noncomputable def PO(X:Cx)(e:Option T8)(t:TO):Prop:=
 ∀(pins:aU)(s:Ua)(σ:St)(H:Hp)(Q:dr->Hp->Prop),Inv X pins σ H s->t σ H Q->
  Um (model X.prog X.w) X.A (evalPart e X.env) (λu s'=>∃o H',Inv X pins σ H' s'/\U1 u o/\Q o H') X.xe s
noncomputable def DF:TO:=λ_ H Q=>Q none H
noncomputable def Jl(t:TE):TO:=λσ H Q=>t σ H λx H1=>∃i,x=.int i/\Q (some i) H1
section
variable{X:Cx}{e:T8}{te:TE}{lo hi:Option T8}{tl th:TO}{pos p2:Pos}
theorem EA:PO X none DF:=by
 intro pins s σ H Q I h;rw[evalPart_none];exact Uv ⟨none,H,I,.none,h⟩
theorem Dw(h:PE X e te):PO X (some e) (Jl te):=by
 intro pins s σ H Q I hw;rw[evalPart_some];refine cu (h pins s σ H _ I hw) λu s1 ⟨x,H1,I1,r1,q1⟩=>?_;obtain⟨i,rfl,q⟩:=q1;obtain⟨t,rfl⟩:=r1;exact⟨some i,H1,I1,.int i t,q⟩
noncomputable def KJ(X:Cx)(r:V->dr->dr->Hp->VK->Prop):Prop:=
 ∀(pins:aU)(s:Ua)(σ:St)(H:Hp)(x:V)(v vl vu:T5)(lo hi:dr)(sl:T7)(Q:VK),Inv X pins σ H s->RelV x v->s.heap.IsSliceOf sl vl vu .none->U1 vl lo->U1 vu hi->r x lo hi H Q->
  ∃T id,typeLookup (.type T) "__getitem__"=pure (some (.builtin id))/\s.TypeIs v T/\Um (model X.prog X.w) X.A (getItem v (.ref sl)) (EP X pins σ Q) X.xe s
noncomputable def PR(r:V->dr->dr->Hp->VK->Prop)(te:TE)(tl th:TO):TE:=λσ H Q=>te σ H λx H1=>tl σ H1 λl H2=>th σ H2 λu H3=>r x l u H3 Q
theorem CK{r:V->dr->dr->Hp->VK->Prop}(hr:KJ X r)(he:PE X e te)(hl:PO X lo tl)(hu:PO X hi th):PE X (.Subscript e (.Slice lo hi none p2) pos) (PR r te tl th):=by
 intro pins s σ H Q I h;refine Subscript_ (cu (he pins s σ H _ I h) λv s1 ⟨x,H1,I1,r1,q1⟩=>?_);refine wpAny_Slice (cu (hl pins s1 σ H1 _ I1 q1) λvl s2 ⟨l,H2,I2,pl,q2⟩=>cu (hu pins s2 σ H2 _ I2 q2) λvu s3 ⟨u,H3,I3,pu,q3⟩=>?_);rw[evalPart_none];refine Uv ?_;have I4:Inv X pins σ H3 {s3 with heap:=s3.heap.push {cls:=.type "slice",data:=.fields #[vl,vu,.none]}}:=I3.kept (t':=s3.toks) λb ob q=>Tr _ q;obtain⟨T,id,hT,ht,hg⟩:=hr pins {s3 with heap:=s3.heap.push {cls:=.type "slice",data:=.fields #[vl,vu,.none]}} σ H3 x v vl vu l u s3.heap.objs.size Q I4 r1 (Heap.IsSliceOf.new ..) pl pu q3;show Um (model X.prog X.w) X.A (subscriptTail e (.Slice lo hi none p2) v (.ref s3.heap.objs.size)) (EP X pins σ Q) X.xe {s3 with heap:=s3.heap.push {cls:=.type "slice",data:=.fields #[vl,vu,.none]}};exact tail_any (ops:=[.ref s3.heap.objs.size,v]) ht hT hg (by with_unfolding_all rfl)
noncomputable def vv(xs:aI)(lo hi:dr):aI:=(xs.drop (HT.sIx xs.length 0 lo)).take (HT.sIx xs.length xs.length hi-HT.sIx xs.length 0 lo)
theorem oa(xs:aI)(lo hi:dr):(vv xs lo hi).length<=xs.length:=by
 unfold vv;rw[QE,QM];omega
noncomputable def Ly(K:Sn):V->dr->dr->Hp->VK->Prop:=λx lo hi H Q=>∃a xs,x=.ref a/\n0 K H a xs/\
 ¬(HT.sIx xs.length 0 lo=0/\HT.sIx xs.length xs.length hi=xs.length)/\∀p,H p=none->Q (.ref p) (upd H p (.tup (vv xs lo hi)))
theorem Gv:KJ X (Ly X.K):=by
 intro pins s σ H x v vl vu lo hi sl Q I rx hs pl pu h;obtain⟨a,xs,rfl,hx,hw,q⟩:=h;cases rx;obtain⟨its,r,ht,hz⟩:=I.tuple hx;have hlen:its.toArray.size=xs.length:=by rw[Qs];exact r.length.symm
 refine⟨"tuple",_,PyProof.Rows.slot_tuple_getitem.lookup,ht.typeIs,?_⟩;refine HT.xq ht hs pl pu (by rw[hlen];exact hw) ?_ (by rw[hlen];exact hz);rw[hlen];refine⟨.ref s.heap.objs.size,_,I.laid (t':=s.toks) (o:=.tup (vv xs lo hi)) (λb ob q=>Tr _ q) (Qq _) ?_,rfl,q _ (I.hok.fresh (Qq _))⟩;exact⟨Qh (oa xs lo hi) hz,_,(r.drop (HT.sIx xs.length 0 lo)).take (HT.sIx xs.length xs.length hi-HT.sIx xs.length 0 lo),IsTup.new _ _⟩
noncomputable def JI(K:Sn):R2:=λx y H Q=>∃a b xs ys,x=.ref a/\y=.ref b/\n0 K H a xs/\n0 K H b ys/\xs≠[]/\xs.length+ys.length<=Ug/\
 (ys=[]->Q (.ref a) H)/\(ys≠[]->∀p,H p=none->Q (.ref p) (upd H p (.tup (xs++ys))))
theorem Vals.nil_iff{xs:aI}{us:aS}(r:Vals xs us):us=[]↔xs=[]:=by
 cases r with
 |nil=>simp
 |cons _ _=>simp
theorem EQ:iQ X (UB .Add) (JI X.K):=by
 intro pins s σ H x y v u Q I rx ry h;obtain⟨a,b,xs,ys,rfl,rfl,ha,hb,hx,hz,q1,q2⟩:=h;cases rx;cases ry;obtain⟨its,r1,p1,_⟩:=I.tuple ha;obtain⟨its2,r2,p2,_⟩:=I.tuple hb;refine HT.Kn p1 p2 (λz=>hx (r1.nil_iff.mp z)) (λz=>⟨.ref a,H,I,rfl,q1 (r2.nil_iff.mp z)⟩) (λz=>?_) (by rw[<-r1.length,<-r2.length];exact hz);refine⟨.ref s.heap.objs.size,_,I.laid (t':=s.toks) (o:=.tup (xs++ys)) (λb ob q=>Tr _ q) (Qq _) ?_,rfl,q2 (λw=>z (r2.nil_iff.mpr w)) _ (I.hok.fresh (Qq _))⟩;exact⟨by rw[QK];exact hz,_,r1.append r2,IsTup.new _ _⟩
end
noncomputable def HF(n:Nat)(i:Int):Option Nat:=if 0<=i then(if i<n then some i.toNat else none)else if -(n:Int)<=i then some (i+n).toNat else none
noncomputable def nJ{α:Type}(xs:List α)(i:Int):Option α:=(HF xs.length i).bind λj=>xs[j]?
theorem E5{n:Nat}{i:Int}{j:Nat}(h:HF n i=some j):seqIndex? i n=some j/\j<n/\-(n:Int)<=i/\i<n:=by
 unfold HF at h;by_cases h0:0<=i
 ·rw[if_pos h0]at h;by_cases h1:i<n
  ·rw[if_pos h1]at h;have e:i.toNat=j:=Option.some.inj h;exact⟨by rw[seqIndex_of h0 h1,e],by omega,by omega,h1⟩
  ·rw[if_neg h1]at h;cases h
 ·rw[if_neg h0]at h;by_cases h1:-(n:Int)<=i
  ·rw[if_pos h1]at h;have e:(i+n).toNat=j:=Option.some.inj h;exact⟨by rw[seqIndex_neg ‹0› h1,e],by omega,h1,by omega⟩
  ·rw[if_neg h1]at h;cases h
theorem tP{α:Type}{xs:List α}{i:Int}{v:α}(h:nJ xs i=some v):∃j,seqIndex? i xs.length=some j/\xs[j]?=some v/\j<xs.length/\-(xs.length:Int)<=i/\i<xs.length:=by
 unfold nJ at h;cases e:HF xs.length i with
 |none=>rw[e]at h;cases h
 |some j=>
  rw[e]at h;obtain⟨h1,h2,h3,h4⟩:=E5 e;exact⟨j,h1,h,h2,h3,h4⟩
noncomputable def t7(b:T8):Prop:=∀o i,subscripted b false o i=operate [o,i] (getItem o i)
noncomputable def J6(X:Cx)(r:R2):Prop:=
 ∀(value slice:T8)(pins:aU)(s:Ua)(σ:St)(H:Hp)(x y:V)(v u:T5)(Q:VK),Inv X pins σ H s->RelV x v->RelV y u->r x y H Q->
  subscripted slice false v u=operate [v,u] (getItem v u)->Um (model X.prog X.w) X.A (subscriptTail value slice v u) (EP X pins σ Q) X.xe s
noncomputable def LY(X:Cx)(id:String)(r:V->aI->Hp->VK->Prop):Prop:=
 ∀(pins:aU)(s:Ua)(σ:St)(H:Hp)(x:V)(xs:aI)(v:T5)(us:aS)(Q:VK),Inv X pins σ H s->RelV x v->Vals xs us->r x xs H Q->
  Um (model X.prog X.w) X.A (call (.builtin id) (v::us)) (EP X pins σ Q) X.xe s
section
variable{X:Cx}{a b:T8}{ta tb:TE}{pos:Pos}
theorem Ka{r:R2}(hr:J6 X r)(ha:PE X a ta)(hb:PE X b tb)(hs:t7 b):PE X (.Subscript a b pos) (JM r ta tb):=by
 intro pins s σ H Q I h;exact Subscript_ (Iy ha hb I h λv u s2 x y H2 I2 rx ry q=>hr a b pins s2 σ H2 x y v u Q I2 rx ry q (hs _ _))
noncomputable def MF(K:Sn):R2:=λx y H Q=>∃p xs i v,x=.ref p/\y=.int i/\lI K H p xs/\nJ xs i=some v/\Q v H
noncomputable def Mr(K:Sn):R2:=λx y H Q=>∃p xs i v,x=.ref p/\y=.int i/\n0 K H p xs/\nJ xs i=some v/\Q v H
noncomputable def Mm:R2:=λx y H Q=>∃z i c,x=.str z/\y=.int i/\z.length<=Ug/\nJ z.cps.toList i=some c/\Q (.str ⟨#[c]⟩) H
theorem Dc:J6 X (MF X.K):=by
 intro value slice pins s σ H x y v u Q I rx ry h hs;obtain⟨p,xs,i,z,rfl,rfl,hq,he,q⟩:=h;cases rx;obtain⟨t,rfl⟩:=ry;obtain⟨its,r,pl,hz⟩:=I.list hq;obtain⟨j,h1,h2,h3,h4,h5⟩:=tP he;obtain⟨w,ew,rw'⟩:=r.get h2;have hl:=r.length;have hn:=mG;have fin:EP X pins σ Q w s:=⟨z,H,I,rw',q⟩
 by_cases h0:0<=i
 ·have hj:i.toNat=j:=by
   rw[seqIndex_of h0 h5]at h1;exact Option.some.inj h1
  exact item_listR pl.isList h0 ‹0› (by rw[hj];simpa using ew) fin hs
 ·have hj:(i+(its.toArray.size:Int)).toNat=j:=by
   rw[seqIndex_neg ‹0› h4]at h1;rw[Qs,<-hl];exact Option.some.inj h1
  exact subscriptTail_builtinR (x:=w) pl.isList.typeIs slot_list_getitem.lookup
   (wpAny_getItem_list_neg (Q:=λr s'=>r=w/\EP X pins σ Q r s') pl.isList ‹0› (by rw[Qs]<;>omega) ‹0› (by rw[hj];simpa using ew) ⟨rfl,fin⟩) hs
theorem HH:J6 X (Mr X.K):=by
 intro value slice pins s σ H x y v u Q I rx ry h hs;obtain⟨p,xs,i,z,rfl,rfl,hq,he,q⟩:=h;cases rx;obtain⟨t,rfl⟩:=ry;obtain⟨its,r,pl,hz⟩:=I.tuple hq;obtain⟨j,h1,h2,h3,h4,h5⟩:=tP he;obtain⟨w,ew,rw'⟩:=r.get h2;have hl:=r.length;have hn:=mG;have fin:EP X pins σ Q w s:=⟨z,H,I,rw',q⟩
 exact subscriptTail_builtinR (x:=w) pl.typeIs slot_tuple_getitem.lookup
  (getItem_tuple (j:=j) (Q:=λr s'=>r=w/\EP X pins σ Q r s') pl ‹0› ‹0› (by rw[Qs,<-hl];exact h1) (by simpa using ew) ⟨rfl,fin⟩) hs
theorem G2:J6 X Mm:=by
 intro value slice pins s σ H x y v u Q I rx ry h hs;obtain⟨z,i,c,rfl,rfl,hz,he,q⟩:=h;obtain⟨t,rfl⟩:=rx;obtain⟨t',rfl⟩:=ry;obtain⟨j,h1,h2,h3,h4,h5⟩:=tP he;have hl:z.cps.toList.length=z.length:=by simp[Str.length]
 rw[hl]at h1 h4 h5;have hn:=mG;exact tail_any (typeIs_str s z t) slot_str_getitem.lookup (getItem_str (c:=c) (by
  have e1:decide (i < -(2^63:Int))=false:=decide_eq_false ‹0›;have e2:decide (i>=2^63)=false:=decide_eq_false ‹0›;rw[e1,e2,QO]) (by rw[h1];simpa using h2) ⟨.str ⟨#[c]⟩,H,I.tok _,⟨_,rfl⟩,q⟩) hs
theorem tN(lo hi:dr)(n:Nat):(sliceBounds lo hi none n).1=((HT.sIx n 0 lo:Nat):Int)/\(sliceBounds lo hi none n).2.1=((HT.sIx n n hi:Nat):Int)/\(sliceBounds lo hi none n).2.2=1:=by
 refine⟨?_,?_,rfl⟩
 ·cases lo with
  |none=>simp[sliceBounds,HT.sIx]
  |some i=>
   simp only[sliceBounds,HT.sIx,QP,show(1:Int)>0 by decide,if_true];by_cases h:i<0
   ·simp only[h,if_true]<;>omega
   ·simp only[h,if_false]<;>omega
 ·cases hi with
  |none=>simp[sliceBounds,HT.sIx]
  |some i=>
   simp only[sliceBounds,HT.sIx,QP,show(1:Int)>0 by decide,if_true];by_cases h:i<0
   ·simp only[h,if_true]<;>omega
   ·simp only[h,if_false]<;>omega
theorem qF(its:aS)(lo hi:dr):slicePick its.toArray lo hi none=((its.drop (HT.sIx its.length 0 lo)).take (HT.sIx its.length its.length hi-HT.sIx its.length 0 lo)).toArray:=by
 obtain⟨h1,h2,h3⟩:=tN lo hi its.toArray.size;unfold slicePick;rw[h1,h2,h3];simp only[sliceRange_one,pick_run,Qs]<;>rfl
noncomputable def Lj(K:Sn):V->dr->dr->Hp->VK->Prop:=λx lo hi H Q=>∃a xs,x=.ref a/\lI K H a xs/\∀p,H p=none->Q (.ref p) (upd H p (.lst (vv xs lo hi)))
theorem D3:KJ X (Lj X.K):=by
 intro pins s σ H x v vl vu lo hi sl Q I rx hs pl pu h;obtain⟨a,xs,rfl,hx,q⟩:=h;cases rx;obtain⟨its,r,ht,hz⟩:=I.list hx;have hlen:=r.length;refine⟨"list",_,slot_list_getitem.lookup,ht.isList.typeIs,?_⟩;refine wpAny_getItem_list_slice ht.isList hs pl pu .none (by simp) ?_ (by rw[Qs]<;>omega);rw[qF,<-hlen];refine⟨.ref s.heap.objs.size,_,I.laid (t':=s.toks) (o:=.lst (vv xs lo hi)) (λb ob q=>Tr _ q) (Qq _) ?_,rfl,q _ (I.hok.fresh (Qq _))⟩;exact⟨Qh (oa xs lo hi) hz,_,0,(r.drop (HT.sIx xs.length 0 lo)).take (HT.sIx xs.length xs.length hi-HT.sIx xs.length 0 lo),Ts _ rfl⟩
noncomputable def Cz:V->Bool
 |.non=>true
 |.bl _=>true
 |.int _=>true
 |.str _=>true
 |_=>false
noncomputable def K5:V->V->Bool
 |.non,.non=>true
 |.bl a,.bl b=>a==b
 |.bl a,.int b=>(if a then 1 else 0)==b
 |.int a,.bl b=>a==(if b then 1 else 0)
 |.int a,.int b=>a==b
 |.str a,.str b=>a==b
 |_,_=>false
theorem G6{A:Uj}{s:Ua}{y x:V}{u v:T5}(ry:RelV y u)(rx:RelV x v)(fy:Cz y=true)(fx:Cz x=true):SeqAt.EqAt A s u v (K5 y x):=by
 cases y with
 |non=>
  cases ry;cases x with
  |non=>cases rx;exact SeqAt.EqAt.same _
  |bl b=>cases rx;exact SeqAt.EqAt.none_bool b
  |int b=>obtain⟨t,rfl⟩:=rx;exact SeqAt.EqAt.none_int b t
  |str b=>obtain⟨t,rfl⟩:=rx;exact SeqAt.EqAt.none_str b t
  |_=>exact absurd (show false=true from fx) Qu
 |bl a=>
  cases ry;cases x with
  |non=>cases rx;exact SeqAt.EqAt.bool_none a
  |bl b=>cases rx;exact SeqAt.EqAt.bool_bool a b
  |int b=>obtain⟨t,rfl⟩:=rx;exact SeqAt.EqAt.bool_int a b t
  |str b=>obtain⟨t,rfl⟩:=rx;exact SeqAt.EqAt.bool_str a b t
  |_=>exact absurd (show false=true from fx) Qu
 |int a=>
  obtain⟨t',rfl⟩:=ry;cases x with
  |non=>cases rx;exact SeqAt.EqAt.int_none a t'
  |bl b=>cases rx;exact SeqAt.EqAt.int_bool a t' b
  |int b=>obtain⟨t,rfl⟩:=rx;exact SeqAt.EqAt.int_int a t' b t
  |str b=>obtain⟨t,rfl⟩:=rx;exact SeqAt.EqAt.int_str a t' b t
  |_=>exact absurd (show false=true from fx) Qu
 |str a=>
  obtain⟨t',rfl⟩:=ry;cases x with
  |non=>cases rx;exact SeqAt.EqAt.str_none a t'
  |bl b=>cases rx;exact SeqAt.EqAt.str_bool a t' b
  |int b=>obtain⟨t,rfl⟩:=rx;exact SeqAt.EqAt.str_int a t' b t
  |str b=>obtain⟨t,rfl⟩:=rx;exact SeqAt.EqAt.str_str a t' b t
  |_=>exact absurd (show false=true from fx) Qu
 |_=>exact absurd (show false=true from fy) Qu
theorem md:eG X (.builtin "len") (λxs H Q=>∃p ys,xs=[.ref p]/\(lI X.K H p ys\/n0 X.K H p ys)/\Q (.int ys.length) H):=by
 intro pins s σ H xs us Q I r h;obtain⟨p,ys,rfl,hq,q⟩:=h;obtain⟨u,rfl,rx⟩:=vals1 r;cases rx;have hn:=mG;rcases hq with hq|hq
 ·obtain⟨its,r',pl,hz⟩:=I.list hq;have hlen:=r'.length;exact Calls.call_len_list pl.isList (by simp only[Qs]<;>omega) ⟨.int ys.length,H,I.tok _,⟨s.toks+1,by rw[Qs,hlen]⟩,q⟩
 ·obtain⟨its,r',pl,hz⟩:=I.tuple hq;have hlen:=r'.length;exact len_tuple pl (by simp only[Qs]<;>omega) ⟨.int ys.length,H,I.tok _,⟨s.toks+1,by rw[Qs,hlen]⟩,q⟩
theorem sV:eG X (.builtin "len") (λxs H Q=>∃z,xs=[.str z]/\z.length<=Ug/\Q (.int z.length) H):=by
 intro pins s σ H xs us Q I r h;obtain⟨z,rfl,hz,q⟩:=h;obtain⟨u,rfl,t,rfl⟩:=vals1 r;have hn:=mG;exact len_str ‹0› ⟨.int z.length,H,I.tok _,⟨_,rfl⟩,q⟩
theorem ly:eG X (.type "tuple") (λxs H Q=>∃p ys,xs=[.ref p]/\((lI X.K H p ys/\∀l,H l=none->Q (.ref l) (upd H l (.tup ys)))\/(n0 X.K H p ys/\Q (.ref p) H))):=by
 intro pins s σ H xs us Q I r h;obtain⟨p,ys,rfl,h⟩:=h;obtain⟨u,rfl,rx⟩:=vals1 r;cases rx;rcases h with⟨hq,q⟩|⟨hq,q⟩
 ·obtain⟨its,r',pl,hz⟩:=I.list hq;have hlen:=r'.length;refine call_tuple_list pl.isList (λh' kp=>?_) (by simp only[Qs]<;>omega);have I1:Inv X pins σ H {s with heap:=h'}:=I.kept (t':=s.toks) kp;have I2:Inv X pins σ (upd H h'.objs.size (.tup ys)) {s with heap:=h'.push {cls:=.type "tuple",data:=.seq its.toArray}}:=
   I1.laid (t':=s.toks) (λb o e=>Tr _ e) (Qq _) (show cq X.prog X.w _ _ _ (.tup ys)from⟨hz,its,r',IsTup.new _ _⟩)
  exact⟨.ref h'.objs.size,_,I2,rfl,q _ (I1.hok.fresh (Qq _))⟩
 ·obtain⟨its,r',pl,hz⟩:=I.tuple hq;exact call_tuple_same pl ⟨.ref p,H,I,rfl,q⟩
noncomputable def N3(K:Sn)(T:String)(x:V)(H:Hp):Prop:=match x with
 |.str _=>T="str"
 |.int _=>T="int"
 |.ref p=>(T="list"/\∃xs,lI K H p xs)\/(T="tuple"/\∃o,K.lookup p=some o/\o.cls=.type "tuple"/\o.dict=none) \/
   (T="dict"/\((∃kvs,H p=some (.dK kvs))\/∃kvs,H p=some (.dT kvs)))\/(T="set"/\∃S n,H p=some (.set S n))
 |_=>False
theorem G5{pins:aU}{σ:St}{H:Hp}{s:Ua}{T:String}{x:V}{v:T5}(I:Inv X pins σ H s)(r:RelV x v)(ty:N3 X.K T x H):
  s.TypeIs v T/\∀a,v=.ref a->∃ob,s.heap.get? a=some ob/\ob.dict=none:=by
 cases x with
 |str z=>
  obtain⟨t,rfl⟩:=r;cases(show T="str"from ty);exact⟨typeIs_str s z t,λ_ e=>nomatch e⟩
 |int i=>
  obtain⟨t,rfl⟩:=r;cases(show T="int"from ty);exact⟨typeIs_int s i t,λ_ e=>nomatch e⟩
 |ref p=>
  cases r;rcases ty with⟨rfl,xs,hq⟩|⟨rfl,o,hk,hc,hd⟩|⟨rfl,hk⟩|⟨rfl,S,n,hk⟩
  ·obtain⟨its,_,pl,_⟩:=I.list hq;refine⟨pl.isList.typeIs,λa e=>?_⟩;cases e;obtain⟨o,n,e,c,hd,_⟩:=pl;exact⟨o,e,hd⟩
  ·refine⟨⟨o,I.kIn p o hk,hc⟩,λa e=>?_⟩;cases e;exact⟨o,I.kIn _ o hk,hd⟩
  ·have z:∃o,s.heap.get? p=some o/\o.ExactDict:=by
    rcases hk with⟨kvs,hk⟩|⟨kvs,hk⟩
    ·obtain⟨_,_,_,_,o,_,_,e,ex,_⟩:=I.hok p _ hk;exact⟨o,e,ex⟩
    ·obtain⟨_,_,_,_,o,_,_,e,ex,_⟩:=I.hok p _ hk;exact⟨o,e,ex⟩
   obtain⟨o,e,ex⟩:=z;refine⟨⟨o,e,ex.1⟩,λa e2=>?_⟩;cases e2;exact⟨o,e,ex.2.1⟩
  ·obtain⟨o,_,_,_,e,ex,_⟩:=I.hok p _ hk;refine⟨⟨o,e,ex.1⟩,λa e2=>?_⟩;cases e2;exact⟨o,e,ex.2.1⟩
 |_=>exact False.elim ty
noncomputable def N9(K:Sn)(T:String)(r:V->aI->Hp->VK->Prop)(to:TE)(t:TA):TE:=λσ H Q=>to σ H λx H1=>N3 K T x H1/\t σ H1 λxs H2=>r x xs H2 Q
variable{o e:T8}{es:bi}{to:TE}{t:TA}{name:Str}{apos cpos:Pos}{T id:String}{r:V->aI->Hp->VK->Prop}
theorem BZ(pa:PlainAttrs T)(slot:Slot T name id)(hty:typeOf (.builtin id)=pure (.type "method_descriptor"))(hm:LY X id r)(ho:PE X o to)(ha:PA X (e::es) t)
  (hbase:UJ o name X.env (eval o X.env)=eval o X.env:=by rfl)
  (hfew:((backTo cpos (Uo (e::es) X.env)).all (fun x=>!x.1) && (backToKw cpos (UM [] X.env)).all (fun x=>x.1.isSome)
   && decide ((e::es).length+([]:List UV).length+(if([]:List UV).isEmpty then 0 else 1)<30))=true:=by rfl)
  (hline:(apos.endLine==cpos.line)=true:=by rfl) (hs:Uo (e::es) X.env=(false,eval e X.env)::Uo es X.env:=by rfl) (hplain:(backTo cpos (Uo es X.env)).any (·.1)=false:=by rfl):
  PE X (.Call (.Attribute o name apos) (e::es) [] cpos) (N9 X.K T r to t):=by
 intro pins s σ H Q I h;refine wpAny_Call_method_late hbase hfew hline rfl (cu (ho pins s σ H _ I h) λv s1 ⟨x,H1,I1,r1,ty,q1⟩=>?_);obtain⟨h1,h2⟩:=G5 I1 r1 ty;refine⟨T,id,pa,slot,hty,h1,h2,?_⟩;have hA:=ha cpos pins s1 σ H1 _ I1 q1;rw[hs]at hA ⊢;refine Calls.callWith_builtin (by show(false||(backTo cpos (Uo es X.env)).any (·.1))=false;rw[hplain]<;>rfl) (Calls.evalArgs_plain ?_);exact cu hA λus s2 ⟨vs,H2,I2,r2,q2⟩=>hm pins s2 σ H2 x vs v us Q I2 r1 r2 q2
end
noncomputable def N0(X:Cx)(id:String)(r:V->aI->Hp->VK->Prop):Prop:=
 ∀(pins:aU)(s:Ua)(σ:St)(H:Hp)(x:V)(xs:aI)(v:T5)(us:aS)(Q:VK),Inv X pins σ H s->RelV x v->Vals xs us->r x xs H Q->
  Um (model X.prog X.w) X.A (call (.builtin id) (v::us)) (EP X pins σ Q) X.xe s
theorem Vals.one:∀{x:V}{us:aS},Vals [x] us->∃u,us=[u]/\RelV x u
 |_,_,.cons r .nil=>⟨_,rfl,r⟩
section
variable{X:Cx}{pins:aU}{σ:St}{H:Hp}{s:Ua}{l b:T7}{xs ys zs:aI}
theorem Inv.lset{its its':aS}{n:Nat}{f:Array T5->Array T5}{t':Nat}(I:Inv X pins σ H s)(hH:H l=some (.lst xs))
  (e:s.heap.get? l=some {cls:=.type "list",data:=.seq its.toArray n}) (hf:f its.toArray=its'.toArray) (hv:Vals ys its') (hz:ys.length<=Ug):
  Inv X pins σ (upd H l (.lst ys)) {s with heap:=s.heap.update l (Obj.mapSeq f),toks:=t'}:=by
 have q:=PySem.IsL.update e f;rw[hf]at q;refine I.write (x:=l) (e:=l) (by rw[hH];exact trivial) (.inl rfl) (λb' u hb hu=>(Tu s.heap (Obj.mapSeq f) (Ne.symm hb)).trans hu) ⟨_,q⟩ ?_;exact⟨hz,its',_,hv,q⟩
theorem Inv.lnew{its:aS}{t':Nat}(I:Inv X pins σ H s)(hv:Vals ys its)(hz:ys.length<=Ug):
  Inv X pins σ (upd H s.heap.objs.size (.lst ys)) {s with heap:=s.heap.push {cls:=.type "list",data:=.seq its.toArray},toks:=t'}:=
 I.laid (λ_ _ q=>Tr _ q) (Qq _) ⟨hz,its,0,hv,Ts _ rfl⟩
theorem Inv.fresh(I:Inv X pins σ H s):H s.heap.objs.size=none:=I.hok.fresh (Qq _)
theorem Inv.lstM(I:Inv X pins σ H s)(hH:H l=some (.lst xs)):xs.length<=Ug/\∃(its:aS)(n:Nat),Vals xs its/\xs.length=its.length/\s.heap.get? l=some {cls:=.type "list",data:=.seq its.toArray n}:=by
 obtain⟨z,its,n,r,e⟩:=I.hok l _ hH;exact⟨z,its,n,r,r.length,e⟩
end
section
variable{X:Cx}
noncomputable def xR:V->aI->Hp->VK->Prop:=λx vs H Q=>∃l xs y,x=.ref l/\vs=[y]/\H l=some (.lst xs)/\xs.length<Ug/\Q .non (upd H l (.lst (xs++[y])))
theorem rX:N0 X "list.append" xR:=by
 intro pins s σ H x vs v us Q I rx rv h;obtain⟨l,xs,y,rfl,rfl,hH,hz,q⟩:=h;cases rx;obtain⟨u,rfl,ru⟩:=rv.one;obtain⟨z,its,n,r,hl,e⟩:=I.lstM hH;refine call_meets F.slot_list_append ⟨_,e,rfl⟩ F.entry_list_append (F.args_list_append_2 _ _) (PySem.list_append l its.toArray n u (by rw[Qs];omega)) ⟨e,?_⟩;refine⟨.non,_,I.lset (its':=its++[u]) hH e (by simp) (r.append (.cons ru .nil)) ?_,rfl,q⟩;rw[QK,QQ];omega
end
end L2
namespace Att
open PySem PySem.W PySem.Calls PyProof.Rows
theorem oG{P:Params}{h:Ue}:∀(ns:List Int)(vs:List T5),WellAll P h vs (ns.map WData.int)->IntsAre vs ns:=by
 intro ns
 induction ns with
 |nil=>
  intro vs w;rw[QR]at w;cases w;exact .nil
 |cons n ns ih=>
  intro vs w;rw[Qw]at w;cases w with
  |cons a b=>
   cases a;exact .cons _ _ (ih _ b)
theorem Ac{l:OpenLaw}{n:Nat}(hn:l.most=some n){P:Params}{h:Ue}{args:List WData}{vals:List T5}
  (hpre:l.row.toRowW.claim.pre args=true) (hwl:WellAll P h vals args):
  ∃a vs ns,vals=[Value.ref a]/\args=[WData.list (ns.map WData.int)]/\h.get? a=some {cls:=.type "list",data:=.seq vs.toArray}/\IntsAre vs ns/\ns.length<=n:=by
 have hsh:WShape.hasAll [] args [.list .int]=true:=(pre_splitW hpre).1;have hc:l.pre.holds [] {args:=args}=true:=(pre_splitW hpre).2;obtain⟨d,r,rfl,h1,h2⟩:=hasAllW_cons hsh;obtain rfl:=hasAllW_nil h2;obtain⟨xs,rfl,h3⟩:=hasW_list h1;obtain⟨ns,rfl⟩:=items_int h3;have hlen:ns.length<=n:=by
  unfold OpenLaw.pre at hc;have h4:(WTm.not (.lt (.lit (.int (n:Int))) (.len (.arg 0)))).holds [] {args:=[.list (ns.map .int)]}=true:=by
   have h4:=(holds_andW hc).1;rw[hn]at h4;exact h4
  have h5:=condW_of h4 (w_not (w_lt w_lit (w_len_list (w_arg rfl))));rw[Qx]at h5;refine Nat.le_of_not_lt λq=>?_;have q':(n:Int)<((ns.length:Nat):Int):=by omega
  first
   |(rw[decide_eq_true q']at h5;exact absurd h5 (by decide))
   |(simp at h5;omega)
 cases hwl with
 |cons w1 w2=>
  cases w2;cases w1 with
  |list ho hall=>exact⟨_,_,ns,rfl,rfl,ho,oG ns _ hall,hlen⟩
theorem yL(l:OpenLaw)(args:List WData):l.row.toRowW.claim.post args (.bool true) args=true:=
 postW_of (r:=l.row.toRowW) (X:=(true==true))
  (show WShape.has [] (.bool true) .bool=true by first|rfl|decide|simp[WShape.has,WShape.arms,WShape.armsAll])
  (show(WTm.eq .res (.lit (.bool true))).value [] {args:=args,res:=some (.bool true),after:=args}=some (.bool (true==true))from w_eq_bool (w_res rfl) w_lit) rfl
theorem Gh{l:OpenLaw}{n:Nat}{q:Uc}{loose:List Str}{XP:(Str->Option T5)->Ue->Prop}{YP:Ub->Ue->Prop}{d:DefRec}
  (hn:l.most=some n) (hdf:d.params.defaults=[])
  (call:∀ (w:Ub) (s₀ s₁:Ua) (mg mb:Str->Option T5) (fa:T7) (o:Obj) (pm cd doc:T5) (a:T7) (vs:List T5) (ns:List Int),
   Ground q loose [] XP w s₀ mg mb s₁.heap->YP w s₁.heap->
   s₁.heap.get? fa=some o->o.data=.func (docDef d.name d.params d.body d.scope pm cd doc)->s₁.heap.CodeRec cd d.name->mg d.name=some (.ref fa)->
   s₁.heap.get? a=some {cls:=.type "list",data:=.seq vs.toArray}->IntsAre vs ns->ns.length<=n->s₁.gens=#[]->
   UI (model l.prog w) callerA (.call (.ref fa) ⟨[.ref a],[]⟩) (λr s'=>r=.ok (.ret (.bool true))/\OldK s₁.heap s'.heap/\s'.os=s₁.os/\AllBare s'.gens) s₁):
  WalkO q loose XP YP l.row.toRowW d [] (λf vs=>PySem.call f vs):=by
 intro w s₀ s₁ mg mb G Y fa o pm cd doc dV kV ho hd hcd hD hmg hg args vals as hpre hlay hrd hwl hlo;obtain rfl:dV=.none:=Dflts.none hD hdf;obtain rfl:kV=.none:=Dflts.noKw hD;obtain⟨a,vs,ns,rfl,rfl,hobj,hints,hlen⟩:=Ac hn hpre hwl;refine enter_call (UT (call w s₀ s₁ mg mb fa o pm cd doc a vs ns G Y ho (fd_plain hd) hcd hmg hobj hints hlen hg) λr s' hq=>?_);obtain⟨rfl,h2,h3,h4⟩:=hq;exact⟨.inl ⟨.bool true,.bool true,[],rfl,λ_=>rfl,.bool true,yL l _,λ_=>⟨List.Pairwise.nil,λ_ hm=>(nomatch hm)⟩⟩,h2,h3,h4⟩
section
variable{prog:Uc}{w:Ub}{A:Uj}{E:T5->Ua->Prop}{s:Ua}{K:Frag}
end
end Att
namespace L2
open PySem PySem.Spec PyProof.Rows
theorem so:∀{vs:aS}{ns:List Int},IntsAre vs ns->Vals (ns.map V.int) vs
 |_,_,.nil=>.nil
 |_,_,.cons n t h=>.cons ⟨t,rfl⟩ (so h)
noncomputable def Only(H:Hp):Prop:=∀b,H b=none\/∃o xs,H b=some (.frz o (.lst xs))
theorem B7{P:Uc}{w:Ub}{K:Sn}{mg mb:bU}{CX:vB}{k:Nat}{fa a:T7}{fd:UP}{x:Str}{sp:Sp}{s₁:Ua}{vs:aS}{ns:List Int}
  (KX:K.In s₁.heap) (hns:s₁.heap.Ns Uh mg) (hb:s₁.heap.Ns builtinsNs mb) (hbb:∀x:Str,x≠"__name__"->mb x=Ui x) (hlim:s₁.heap.NoLimit) (hg:s₁.gens=#[])
  (ha:s₁.heap.get? a=some {cls:=.type "list",data:=.seq vs.toArray}) (hi:IntsAre vs ns) (hl:ns.length<=Ug) (hr:fM k callerA)
  (F:∀base:Ue,K.In base->base.Ns Uh mg->gS P w K mg base CX k fa fd [x] sp) (hbind:∀(s:Ua)(u:T5),UQ s fd ⟨[u],[]⟩ [(x,u)])
  (hsp:∀H:Hp,Only H->lI K H a (ns.map V.int)->sp [.ref a] H (λv _=>v=.bl true) λ_ _ _=>False)
  (hCX:∀H e s',CX [] H s₁ (λ_ _ _=>False) e s'->False):
  UI (model P w) callerA (.call (.ref fa) ⟨[.ref a],[]⟩) (λr s'=>r=.ok (.ret (.bool true))/\OldK s₁.heap s'.heap/\s'.os=s₁.os/\AllBare s'.gens) s₁:=by
 have rv:=so hi;have lenV:=hi.length;have core:∀H:Hp,Only H->lI K H a (ns.map V.int)->oi P w H s₁.heap->(∀b,H b≠none->b=a)->(H a≠none->K.lookup a=none)->
   UI (model P w) callerA (.call (.ref fa) ⟨[.ref a],[]⟩) (λr s'=>r=.ok (.ret (.bool true))/\OldK s₁.heap s'.heap/\s'.os=s₁.os/\AllBare s'.gens) s₁:=by
  intro H hO hS hok hA hK;have base_of:∀{b:T7}{o:Obj},s₁.heap.get? b=some o->H b=none->(kY s₁.heap H).get? b=some o:=λe n=>qo e n;have noA:∀{b:T7}{o:Obj}{es:Array DictEntry}{ep:Nat},s₁.heap.get? b=some o->o.data=.dict es ep->H b=none:=λ{b o es ep} e d=>by
   cases q:H b with
   |none=>rfl
   |some u=>
    have e':b=a:=hA b (by rw[q];simp);subst e';rw[ha]at e;cases e;have d':Data.seq vs.toArray _=Data.dict es ep:=d;cases d'
  have nsK:∀{b:T7}{m:bU},s₁.heap.Ns b m->(kY s₁.heap H).Ns b m:=λ{b m} ⟨o,es,ep,e,d,r⟩=>⟨o,es,ep,base_of e (noA e d),d,r⟩
  have hKb:K.In (kY s₁.heap H):=λb o e=>base_of (KX b o e) (by
   cases q:H b with
   |none=>rfl
   |some u=>
    have e':b=a:=hA b (by rw[q];simp);subst e';rw[hK (by rw[q];simp)]at e;cases e)
  have hM:Mod K mg (kY s₁.heap H):=⟨hKb,nsK hns,⟨mb,nsK hb,hbb⟩,let ⟨mc,h1,h2⟩:=hlim;⟨mc,nsK h1,h2⟩⟩
  have e0:sW P w K mg (kY s₁.heap H) callerA [] s₁ H:=⟨rfl,hM,λb o e=>mq e,Qy (zc _ _),trivial,λb hb=>absurd (show b∈([]:aH)from hb) (by simp),hok,.of_eq hg⟩
  refine UT ((F _ hKb (nsK hns)).run callerA [] s₁ H ⟨[.ref a],[]⟩ [.ref a] [.ref a] _ _ hr e0 (hbind s₁ (.ref a)) (.cons rfl .nil) (hsp H hO hS)) λr s' h=>?_;cases r with
  |error e=>exact(hCX H e s' h).elim
  |ok fl=>
   cases fl with
   |next=>exact False.elim h
   |brk=>exact False.elim h
   |cont=>exact False.elim h
   |ret u=>
    obtain⟨v,H',os,bare,un,hok',r',q⟩:=h;have q':v=.bl true:=q;subst q';obtain rfl:u=Value.bool true:=r';refine⟨rfl,OldK.of_keep λb o e=>?_,os,bare⟩;cases q:H b with
    |none=>exact un.keep b o e q (by intro z;exact absurd (show b∈([]:aH)from z) (by simp)) (by simp)
    |some u=>
     rcases hO b with z|⟨ob,xs,z⟩
     ·rw[q]at z;cases z
     ·have z2:=un.frzs b ob _ z;obtain⟨e1,_⟩:=hok b _ z;obtain⟨e2,_⟩:=hok' b _ z2;rw[e]at e1;cases e1;exact e2
 cases hk:K.lookup a with
 |some o=>
  have e:=KX a o hk;rw[ha]at e;cases e;refine core (λ_=>none) (λ_=>.inl rfl) (.inr ⟨_,vs.toArray,_,hk,rfl,rfl,rfl,by rw[Qs,lenV];exact hl,by simpa using rv⟩) (λb u z=>by have z':(none:Option HO)=some u:=z;cases z') (λb z=>absurd rfl z) λz=>absurd rfl z
 |none=>
  refine core (λb=>if b=a then some (.frz {cls:=.type "list",data:=.seq vs.toArray} (.lst (ns.map V.int)))else none) (λb=>?_) (.inl (.inr ⟨{cls:=.type "list",data:=.seq vs.toArray},if_pos rfl⟩)) (λb u z=>?_) (λb z=>?_) λ_=>hk
  ·by_cases hb:b=a
   ·exact .inr ⟨_,_,if_pos hb⟩
   ·exact .inl (if_neg hb)
  ·by_cases hb:b=a
   ·have z':=(if_pos hb).symm.trans z;cases z';subst hb;exact⟨ha,by rw[Qx];exact hl,vs,_,rv,ha⟩
   ·have z':=(if_neg hb).symm.trans z;cases z'
  ·by_cases hb:b=a
   ·exact hb
   ·exact absurd (if_neg hb) z
theorem Kj{l:SZ}{n k:Nat}{q:Uc}{loose:ax}{XP:(bU)->Ue->Prop}{YP:Ub->Ue->Prop}{d:DefRec}{K:Params->Sn}{CX:Ub->vB}{sp:Ub->Sp}{x:Str}
  (hn:l.most=some n) (hn2:n<=Ug) (hdf:d.params.defaults=[]) (hr:fM k callerA)
  (hY:∀(w:Ub)(h:Ue),YP w h->(K w.params).In h)
  (F:∀ (w:Ub) (mg:bU) (fa:T7) (h:Ue),(K w.params).In h->h.Ns Uh mg->mg d.name=some (.ref fa) ->
   ∃fd:UP,(∀(s:Ua)(u:T5),UQ s fd ⟨[u],[]⟩ [(x,u)])/\
    ∀base:Ue,(K w.params).In base->base.Ns Uh mg->gS l.prog w (K w.params) mg base (CX w) k fa fd [x] (sp w))
  (hsp:∀(w:Ub)(H:Hp)(a:T7)(ns:List Int),ns.length<=n->Only H->lI (K w.params) H a (ns.map V.int)->sp w [.ref a] H (λv _=>v=.bl true) λ_ _ _=>False)
  (hCX:∀(w:Ub)(H:Hp)(s:Ua)(e:T5)(s':Ua),CX w [] H s (λ_ _ _=>False) e s'->False):
  PySem.W.WalkO q loose XP YP l.row.toRowW d [] (λf vs=>PySem.call f vs):=by
 refine Att.Gh hn hdf λw s₀ s₁ mg mb fa o pm cd doc a vs ns G Y ho hd hcd hmg hobj hints hlen hg=>?_;have KX:=hY w _ Y;obtain⟨fd,hb,hF⟩:=F w mg fa _ KX G.T.g hmg;exact B7 KX G.T.g G.T.b G.T.builtins G.T.nolimit hg hobj hints (Qh hlen hn2) hr hF hb (λH hO hS=>hsp w H a ns hlen hO hS) λH e s'=>hCX w H s₁ e s'
noncomputable def inClass(s:T9)(j:Nat):T9:=match s with
 |.ClassDef _ _ _ body _ _ _ _ _ _ _=>body.getD j (.Pass ⟨0,0,0,0⟩)
 |_=>.Pass ⟨0,0,0,0⟩
noncomputable def jv(s:T9):Arguments:=match s with
 |.FunctionDef _ a _ _ _ _ _ _ _ _=>a
 |_=>{posonlyargs:=[],args:=[],vararg:=none,kwonlyargs:=[],kw_defaults:=[],kwarg:=none,defaults:=[]}
noncomputable def cY(s:T9):dE:=match s with
 |.FunctionDef _ _ b _ _ _ _ _ _ _=>b
 |_=>[]
noncomputable def au(s:T9):Uk:=match s with
 |.FunctionDef _ _ _ _ _ _ sc _ _ _=>sc
 |_=>{kind:=.function,names:=[],isGenerator:=false,isCoroutine:=false}
noncomputable abbrev JC:vB:=λ_ _ _ _ _ _=>False
noncomputable abbrev E0:XK:=λ_ _ _=>False
structure mj(K:Sn)(x qual:Str)(st:T9)(f:T7)(fd:UP):Prop where
 ex:∃(oc:T5)(od:iq)(kV doc pm:T5)(an:iq)(cdv ct:T5)(osl:Array (Option T5)),
  fd=SV x qual (jv st) (cY st) (au st) .none kV doc pm an cdv ct/\K.lookup f=some ⟨oc,od,.func fd,osl⟩/\SW K cdv qual=true
 kp:SN K (.ref f)=true
section
variable{P:Uc}{w:Ub}{K:Sn}{mg:bU}{base:Ue}
theorem mj.ok{x qual:Str}{st:T9}{f:T7}{fd:UP}{N ps:ax}{k:Nat}{sp:Sp}(F:mj K x qual st f fd)(S:bu N ps (au st))(len:∀vs H Q E,sp vs H Q E->vs.length=ps.length)
  (hbody:∀ (cdv:T5) (A:Uj) (outer:List Env) (s:Ua) (H:Hp) (vs:aI) (Q:VK) (E:XK),fM k (A.deeper (envOfC qual (au st) s.heap.objs.size f cdv))->sp vs H Q E ->
   ∃t,uf (jg JC P w K mg base N qual (au st) f cdv A outer s H E).nox (cY st) t/\t {nx:=λ_ H'=>Q .non H',rt:=Q} (start N vs) H):gS P w K mg base JC (k+1) f fd ps sp:=by
 obtain⟨oc,od,kV,doc,pm,an,cdv,ct,osl,rfl,lk,hcd⟩:=F.ex;refine FC lk hcd S len λA outer s H vs Q E hr hsp=>?_;obtain⟨t,h,q⟩:=hbody cdv A outer s H vs Q E hr hsp;exact⟨t,h.nox,q⟩
theorem mj.binds{x qual:Str}{st:T9}{f:T7}{fd:UP}{ps:ax}(F:mj K x qual st f fd)
  (h:∀(kV doc pm:T5)(an:iq)(cdv ct:T5)(us:aS),us.length=ps.length->bindArgs (SV x qual (jv st) (cY st) (au st) .none kV doc pm an cdv ct) ⟨us,[]⟩=pure (ps.zip us)):Binds K fd ps []:=by
 obtain⟨oc,od,kV,doc,pm,an,cdv,ct,osl,rfl,lk,hcd⟩:=F.ex;exact .all (h kV doc pm an cdv ct)
theorem aR{x qual:Str}{st:T9}{f:T7}{oc:T5}{od an:iq}{osl:Array (Option T5)}{kV doc pm cdv ct:T5}(l:K.lookup f=some ⟨oc,od,.func (SV x qual (jv st) (cY st) (au st) .none kV doc pm an cdv ct),osl⟩)
  (c:SW K cdv qual=true) (k:SN K (.ref f)=true):mj K x qual st f (SV x qual (jv st) (cY st) (au st) .none kV doc pm an cdv ct):=⟨⟨oc,od,kV,doc,pm,an,cdv,ct,osl,rfl,l,c⟩,k⟩
end
section
variable{X:Cx}
theorem pv(i:Nat){x:Str}{pos:Pos}(hN:X.N[i]?=some x:=by rfl)(hv:HM X.env.scope x:=by first|exact Or.inl rfl|exact Or.inr (Or.inl rfl)|exact Or.inr (Or.inr rfl))(hd:(x==("__debug__":Str))=false:=by decide)
  (hcd:(x==("__classdict__":Str))=false:=by decide):PE X (.Name x pos) (pF i):=Hc hN hv hd hcd
end
theorem uV{A B:Prop}(h:B):if false=true then A else B:=by
 rw[if_neg Qu];exact h
theorem uQ{A B:Prop}(h:A):if true=true then A else B:=by
 rw[if_pos rfl];exact h
noncomputable def aQ(H H':Hp):Prop:=∀b o,H b=some o->H' b=some o
theorem aQ.refl(H:Hp):aQ H H:=λ_ _ h=>h
theorem aQ.trans{H H1 H2:Hp}(a:aQ H H1)(b:aQ H1 H2):aQ H H2:=λc o h=>b c o (a c o h)
theorem aQ.free{H H':Hp}(e:aQ H H'){l:T7}(h:H' l=Option.none):H l=Option.none:=by
 cases q:H l with
 |none=>rfl
 |some o=>
  rw[e l o q]at h;cases h
theorem aQ.seq{K:Sn}{H H':Hp}{a:T7}{xs:aI}(e:aQ H H')(h:lI K H a xs):lI K H' a xs:=by
 rcases h with(h|⟨o,h⟩)|h
 ·exact .inl (.inl (e _ _ h))
 ·exact .inl (.inr ⟨o,e _ _ h⟩)
 ·exact .inr h
section
variable{κ:Type}[DecidableEq κ]
noncomputable def lU(kvs:List (κ×V))(k:κ):Option V:=(kvs.find? λkv=>decide (kv.1=k)).map (·.2)
noncomputable def putK(kvs:List (κ×V))(k:κ)(v:V):List (κ×V):=
 if(kvs.any λkv=>decide (kv.1=k))=true then kvs.map (λkv=>if kv.1=k then(kv.1,v)else kv)else kvs++[(k,v)]
theorem pE{p:κ×V}{r:List (κ×V)}{k:κ}(e:p.1=k):lU (p::r) k=some p.2:=by simp[lU,QS,e]
theorem pI{p:κ×V}{r:List (κ×V)}{k:κ}(e:¬p.1=k):lU (p::r) k=lU r k:=by simp[lU,QS,e]
theorem vn(kvs:List (κ×V))(k:κ)(v:V):(putK kvs k v).length<=kvs.length+1:=by
 unfold putK;split
 ·rw[Qx];omega
 ·rw[QK,Qv,QT];omega
theorem pW.isSome_eq{o:Option V}{u:Option T5}(r:pW o u):o.isSome=u.isSome:=by
 cases o with
 |none=>cases u with
  |none=>rfl
  |some _=>exact(show False from r).elim
 |some _=>cases u with
  |none=>exact(show False from r).elim
  |some _=>rfl
theorem KV.val{kvs:List (κ×V)}{vs:List (κ×T5)}(r:KV kvs vs)(k:κ):pW (lU kvs k) (valueAt vs k):=by
 unfold KV at r
 induction r with
 |nil=>exact True.intro
 |@cons p q ps qs h t ih=>
  obtain⟨h1,h2⟩:=h;by_cases e:p.1=k
  ·have e':q.1=k:=h1.symm.trans e;have b:valueAt (q::qs) k=some q.2:=(by simp[valueAt,QS,e']);rw[pE e,b];exact h2
  ·have e':¬q.1=k:=λz=>e (h1.trans z);have b:valueAt (q::qs) k=valueAt qs k:=(by simp[valueAt,QS,e']);rw[pI e,b];exact ih
theorem KV.any{kvs:List (κ×V)}{vs:List (κ×T5)}(r:KV kvs vs)(k:κ):(kvs.any λkv=>decide (kv.1=k))=vs.any λkv=>decide (kv.1=k):=by
 unfold KV at r
 induction r with
 |nil=>rfl
 |cons h t ih=>rw[QU,QU,ih,h.1]
theorem KV.repl{kvs:List (κ×V)}{vs:List (κ×T5)}(r:KV kvs vs)(k:κ){y:V}{u:T5}(ry:RelV y u):
  KV (kvs.map λkv=>if kv.1=k then(kv.1,y)else kv) (vs.map λkv=>if kv.1=k then(kv.1,u)else kv):=by
 unfold KV at r ⊢
 induction r with
 |nil=>exact .nil
 |@cons p q ps qs h t ih=>
  rw[Qw,Qw];refine .cons ?_ ih;obtain⟨h1,h2⟩:=h;by_cases e:p.1=k
  ·rw[if_pos e,if_pos (h1.symm.trans e)];exact⟨h1,ry⟩
  ·rw[if_neg e,if_neg (λz=>e (h1.trans z))];exact⟨h1,h2⟩
theorem KV.put{kvs:List (κ×V)}{vs:List (κ×T5)}(r:KV kvs vs)(k:κ){y:V}{u:T5}(ry:RelV y u):KV (putK kvs k y) (stored vs k u):=by
 unfold putK stored;rw[r.any k];by_cases e:(vs.any λkv=>decide (kv.1=k))=true
 ·rw[if_pos e,if_pos e];exact r.repl k ry
 ·rw[if_neg e,if_neg e];exact Paired.snoc r ⟨rfl,ry⟩
theorem KV.length{kvs:List (κ×V)}{vs:List (κ×T5)}(r:KV kvs vs):kvs.length=vs.length:=Paired.length r
end
theorem xo{P:Uc}{w:Ub}{k:Key}{u:T5}(r:RelV (kV k) u):(cU P w).is k u=true:=by
 cases k with
 |inl i=>obtain⟨t,e⟩:=(show∃t,u=Value.int i t from r);subst e;exact uC P w i t
 |inr x=>obtain⟨t,e⟩:=(show∃t,u=Value.str x t from r);subst e;exact uM P w x t
theorem rq{P:Uc}{w:Ub}:∀{ks:List Key}{us:aS},Vals (ks.map kV) us->ItemsAre (cU P w) ks us
 |[],_,r=>by rw[QR]at r;cases r;exact .nil
 |k::ks,_,r=>by
  rw[Qw]at r;cases r with
  |cons h t=>exact .cons (xo h) (rq t)
noncomputable abbrev KT(H:Hp):List (List Key×V)->List (List Key×T7×T5)->Prop:=Ud λp q=>p.1=q.1/\H q.2.1=some (.tup (p.1.map kV))/\RelV p.2 q.2.2
theorem KT.val{H:Hp}{kvs:List (List Key×V)}{xs:List (List Key×T7×T5)}(r:KT H kvs xs)(k:List Key):pW (lU kvs k) ((atKey xs k).map (·.2)):=by
 induction r with
 |nil=>exact True.intro
 |@cons p q ps qs h t ih=>
  obtain⟨h1,_,h2⟩:=h;by_cases e:p.1=k
  ·have e':q.1=k:=h1.symm.trans e;have b:atKey (q::qs) k=some q.2:=(by simp[atKey,QS,e']);rw[pE e,b];exact h2
  ·have e':¬q.1=k:=λz=>e (h1.trans z);have b:atKey (q::qs) k=atKey qs k:=(by simp[atKey,QS,e']);rw[pI e,b];exact ih
section
variable{P:Uc}{w:Ub}{H:Hp}{h:Ue}{a:T7}
theorem Fv{u:HO}(ok:oi P w H h)(e:Rd H a u):cq P w H h a u:=e.ok ok
theorem w6{kvs:List (Key×V)}(ok:oi P w H h)(e:Rd H a (.dK kvs)):kvs.length<=Ug/\(a==sysModules)=false/\∃vs,KV kvs vs/\h.DictOf (cU P w) a vs:=
 show cq P w H h a (.dK kvs)from Fv ok e
theorem IW{kvs:List (Key×V)}(ok:oi P w H h)(e:H a=some (.dK kvs)):kvs.length<=Ug/\(a==sysModules)=false/\∃vs,KV kvs vs/\h.DictOf (cU P w) a vs:=w6 ok (.inl e)
theorem vV{ks:List Key}(ok:oi P w H h)(e:H a=some (.tup (ks.map kV))):(tupleKind (cU P w)).is h ks a:=by
 obtain⟨_,its,r,o,h1,h2,n,h3⟩:=(show cq P w H h a (.tup (ks.map kV))from ok a _ e)
 exact⟨o,its.toArray,n,h1,h2,h3,by simpa using rq r⟩
theorem Bt{kvs:List (List Key×V)}(ok:oi P w H h)(e:Rd H a (.dT kvs)):kvs.length<=Ug/\(a==sysModules)=false/\
  ∃xs,KT H kvs xs/\h.DictOfH (tupleKind (cU P w)) a xs:=by
 obtain⟨z,y,xs,r,o,es,ep,h1,h2,h3,h4,h5⟩:=(show cq P w H h a (.dT kvs)from Fv ok e)
 refine⟨z,y,xs,r,o,es,ep,h1,h2,h3,h4,λx hx=>?_,h5⟩;have all:∀{l:List (List Key×V)}{m:List (List Key×T7×T5)},KT H l m->∀x∈m,(tupleKind (cU P w)).is h x.1 x.2.1:=by
  intro l m q
  induction q with
  |nil=>intro x hx;exact nomatch hx
  |@cons p q ps qs hq t ih=>
   intro x hx;rcases List.mem_cons.mp hx with e|hx
   ·subst e;exact vV ok (by rw[<-hq.1];exact hq.2.1)
   ·exact ih x hx
 exact all r x hx
end
noncomputable def yp(H:Hp)(a:T7)(y:V)(r:Option V):Prop:=
 (∃kvs k,Rd H a (.dK kvs)/\y=kV k/\r=lU kvs k)\/∃kvs k b,Rd H a (.dT kvs)/\y=.ref b/\H b=some (.tup (k.map kV))/\r=lU kvs k
theorem yp.k{H:Hp}{a:T7}{kvs:List (Key×V)}{k:Key}(e:H a=some (.dK kvs)):yp H a (kV k) (lU kvs k):=.inl ⟨kvs,k,.inl e,rfl,rfl⟩
section
variable{X:Cx}{pins:aU}{σ:St}{H:Hp}{s:Ua}{a:T7}{y v:V}{u r:T5}{o:Option V}{A:Uj}{E:bL}
theorem Inv.big(I:Inv X pins σ H s):sysModules<s.heap.objs.size:=by
 have h:Uh<s.heap.objs.size:=(I.mod.glob.keeps I.bk).lt;exact QV (by decide) h
theorem zN{Q:bL}(hu:A.units+1<UO)(I:Inv X pins σ H s)(g:yp H a y (some v))(ry:RelV y u)(h:∀w' s',Inv X pins σ H s'->RelV v w'->Q w' s'):
  Um (model X.prog X.w) A (getItem (.ref a) u) Q E s:=by
 rcases g with⟨kvs,k,e,ey,l⟩|⟨kvs,k,b,e,ey,eb,l⟩
 ·subst ey;obtain⟨z,hd,vs,rel,dd⟩:=w6 I.hok e;obtain⟨w',hw,rw'⟩:=pW.some_of (v:=v) (o:=valueAt vs k) (by rw[l];exact rel.val k);exact wpAny_getItem_of (xo ry) dd.mapOf hw (h w' _ (I.tok _) rw')
 ·subst ey;cases(show u=Value.ref b from ry);obtain⟨z,hd,xs,rel,dd⟩:=Bt I.hok e;obtain⟨w',hw,rw'⟩:=pW.some_of (v:=v) (o:=(atKey xs k).map (·.2)) (by rw[l];exact rel.val k);obtain⟨p,hp,hp2⟩:=Option.map_eq_some_iff.mp hw;refine wpAny_getItem_heap (tupleKind_room_in1 hu) (vV I.hok eb) dd hp ?_;rw[hp2];exact h w' _ (I.tok _) rw'
theorem DE{Q:bL}(hu:A.units+1<UO)(I:Inv X pins σ H s)(g:yp H a y o)(ry:RelV y u)(h:∀s',Inv X pins σ H s'->Q (.bool (!o.isSome)) s'):
  Um (model X.prog X.w) A (Ur .NotIn u (.ref a)) Q E s:=by
 rcases g with⟨kvs,k,e,ey,l⟩|⟨kvs,k,b,e,ey,eb,l⟩
 ·subst ey;obtain⟨z,hd,vs,rel,dd⟩:=w6 I.hok e;refine wpAny_notIn_of (xo ry) hd dd.mapOf ?_;rw[<-(rel.val k).isSome_eq,<-l];exact h _ (I.tok _)
 ·subst ey;cases(show u=Value.ref b from ry);obtain⟨z,hd,xs,rel,dd⟩:=Bt I.hok e;refine wpAny_notIn_heap (tupleKind_room_in1 hu) (vV I.hok eb) hd dd ?_;have q:=(rel.val k).isSome_eq;rw[Option.isSome_map]at q;rw[<-q,<-l];exact h _ (I.tok _)
theorem tO{h':Ue}{t':Nat}{ob:HO}(I:Inv X pins σ H s)(mu:Jc (H a))(hs:Tq a s.heap h')(he:∃q,h'.get? a=some q)(new:cq X.prog X.w (upd H a ob) h' a ob):
  Inv X pins σ (upd H a ob) {s with heap:=h',toks:=t'}:=
 I.write (x:=a) (e:=a) mu (.inl rfl) (λb q hb z=>(hs.2 b hb).trans z) he new
theorem Hf{P:Uc}{w:Ub}{H':Hp}{h':Ue}{kvs:List (Key×V)}{vs:List (Key×T5)}(z:kvs.length<=Ug)(hd:(a==sysModules)=false)(rel:KV kvs vs)(dd:h'.DictOf (cU P w) a vs):
  cq P w H' h' a (.dK kvs):=⟨z,hd,vs,rel,dd⟩
end
noncomputable def GH(i:T8):Prop:=∀ov iv,subscripted i false ov iv=operate [ov,iv] (getItem ov iv)
theorem Ee{prog:Uc}{w:Ub}{A:Uj}{E:bL}{s:Ua}{env:Env}{value slice:T8}{pos:Pos}{T id:String}{Q:bL}
  (hl:typeLookup (.type T) "__getitem__"=pure (some (.builtin id))) (hs:GH slice)
  (h:Um (model prog w) A (eval value env) (λo s₁=>Um (model prog w) A (eval slice env) (λi s₂=>s₂.TypeIs o T/\Um (model prog w) A (getItem o i) Q E s₂) E s₁) E s):
  Um (model prog w) A (eval (.Subscript value slice pos) env) Q E s:=by
 refine Subscript_ (Up h (λo s₁ h₁=>Up h₁ (λi s₂ h₂=>?_) λ_ _ x=>x) λ_ _ x=>x);obtain⟨hT,h₂⟩:=h₂;unfold subscriptTail;refine Uw ?_;rw[getitemInPython_of_ne hT.not_modules];refine Uw (wpAny_specialOf hT hl ?_);have fin:Um (model prog w) A (subscripted slice false o i) (λr s₃=>Um (model prog w) A (letTemporaryGo value o r >>= λ_=>pure r) Q E s₃) E s₂:=by
  rw[hs o i];exact wpAny_operating (Up h₂ (λr s₃ h₃=>Uw (wpAny_letTemporaryGo (Uv h₃))) λ_ _ x=>x)
 first
  |exact Uv (Uw fin)
  |exact Uw (Uv (Uw fin))
  |exact Uw fin
theorem ul{X:Cx}{pins:aU}{σ:St}{H:Hp}{s:Ua}{a:T7}{y:V}{o:Option V}(I:Inv X pins σ H s)(g:yp H a y o):s.TypeIs (.ref a) "dict":=by
 rcases g with⟨kvs,k,e,_,_⟩|⟨kvs,k,b,e,_,_,_⟩
 ·obtain⟨_,_,vs,_,dd⟩:=w6 I.hok e;exact dd.typeIs
 ·obtain⟨_,_,xs,_,dd⟩:=Bt I.hok e;exact dd.typeIs
noncomputable def Ju(td ty:TE):TE:=λσ H Q=>td σ H λx H1=>ty σ H1 λy H2=>∃a v,x=.ref a/\yp H2 a y (some v)/\Q v H2
section
variable{X:Cx}{o i e value:T8}{pos pos' tpos:Pos}{td ty tv:TE}
theorem C6(hu:X.A.units+1<UO)(ho:PE X o td)(hi:PE X i ty)(hs:GH i):PE X (.Subscript o i pos) (Ju td ty):=by
 intro pins s σ H Q I h;refine Ee PySem.F.slot_dict_getitem.lookup hs (cu (ho pins s σ H _ I h) λu s1 ⟨x,H1,I1,rx,q1⟩=>cu (hi pins s1 σ H1 _ I1 q1) λiv s2 ⟨y,H2,I2,ry,a,v,ex,g,q2⟩=>?_);subst ex;obtain rfl:u=Value.ref a:=rx;exact⟨ul I2 g,zN hu I2 g ry λw' s3 I3 rw'=>⟨v,H2,I3,rw',q2⟩⟩
end
theorem Bl{P:Uc}{w:Ub}{H:Hp}(h:Ue)(hb:sysModules<h.objs.size):cq P w H (h.push {cls:=.type "dict",data:=.dict #[]}) h.objs.size (.dK []):=
 ⟨QA _,beq_eq_false_iff_ne.mpr (Ne.symm (Qg hb)),[],.nil,Heap.DictOf.new h⟩
noncomputable def sP:List (TE×TE)->St->Hp->(List (V×V)->Hp->Prop)->Prop
 |[],_,H,Q=>Q [] H
 |(tk,tv)::r,σ,H,Q=>tk σ H λx H1=>tv σ H1 λy H2=>sP r σ H2 λps H3=>Q ((x,y)::ps) H3
noncomputable abbrev VV:List (V×V)->List (T5×T5)->Prop:=Ud λp q=>RelV p.1 q.1/\RelV p.2 q.2
noncomputable def IM(X:Cx)(pos:Pos)(keys:List (Option T8))(values:bi)(trs:List (TE×TE)):Prop:=
 ∀(pins:aU)(s:Ua)(σ:St)(H:Hp)(Q:List (V×V)->Hp->Prop),Inv X pins σ H s->sP trs σ H Q->
  Um (model X.prog X.w) X.A (evalPairs (pairTrees keys values X.env pos)) (λvs s'=>∃ps H',Inv X pins σ H' s'/\VV ps vs/\Q ps H') X.xe s
theorem oY{X:Cx}{pos:Pos}:IM X pos [] [] []:=λpins s σ H Q I h=>pairTrees_nil_walk ⟨[],H,I,.nil,h⟩
theorem gU{X:Cx}{pos:Pos}{k v:T8}{ks:List (Option T8)}{vs:bi}{tk tv:TE}{trs:List (TE×TE)}(hk:PE X k tk)(hv:PE X v tv)(hr:IM X pos ks vs trs):
  IM X pos (some k::ks) (v::vs) ((tk,tv)::trs):=λpins s σ H Q I h=>
 pairTrees_cons_walk (cu (hk pins s σ H _ I h) λu s1 ⟨x,H1,I1,rx,q1⟩=>cu (hv pins s1 σ H1 _ I1 q1) λw2 s2 ⟨y,H2,I2,ry,q2⟩=>
  cu (hr pins s2 σ H2 _ I2 q2) λws s3 ⟨ps,H3,I3,rel,q3⟩=>⟨(x,y)::ps,H3,I3,.cons ⟨rx,ry⟩ rel,q3⟩)
noncomputable def je(kvs more:List (Key×V)):List (Key×V):=more.foldl (λacc kv=>putK acc kv.1 kv.2) kvs
theorem KV.merge:∀{more:List (Key×V)}{rs:List (Key×T5)}{kvs:List (Key×V)}{vs:List (Key×T5)},KV more rs->KV kvs vs->KV (je kvs more) (merged vs rs):=by
 intro more rs kvs vs r;unfold KV at r
 induction r generalizing kvs vs with
 |nil=>intro q;exact q
 |@cons p q ps qs h t ih=>
  intro r0;have e:KV (putK kvs p.1 p.2) (stored vs q.1 q.2):=by
   have:=r0.put p.1 h.2
   rw[<-h.1];exact this
  exact ih e
theorem lj:∀(more kvs:List (Key×V)),(je kvs more).length<=kvs.length+more.length
 |[],kvs=>by show kvs.length<=kvs.length+0;omega
 |p::r,kvs=>by
  have h1:=lj r (putK kvs p.1 p.2);have h2:=vn kvs p.1 p.2;show(je (putK kvs p.1 p.2) r).length<=_;rw[Qv];omega
theorem qc{P:Uc}{w:Ub}:∀{kvs:List (Key×V)}{ws:List (T5×T5)},VV (kvs.map λkv=>(kV kv.1,kv.2)) ws->∃rs,Carries (cU P w) ws rs/\KV kvs rs
 |[],_,r=>by rw[QR]at r;cases r;exact⟨[],True.intro,.nil⟩
 |p::kvs,_,r=>by
  rw[Qw]at r;cases r with
  |@cons a b as bs h t=>
   obtain⟨rs,c,q⟩:=qc (P:=P) (w:=w) t;obtain⟨b1,b2⟩:=b;exact⟨(p.1,b2)::rs,⟨xo h.1,rfl,c⟩,.cons ⟨rfl,h.2⟩ q⟩
noncomputable def JZ(trs:List (TE×TE)):TE:=λσ H Q=>∀p,H p=none->sP trs σ (upd H p (.dK [])) λps H2=>H2 p=some (.dK [])/\∃kvs:List (Key×V),ps=kvs.map (λkv=>(kV kv.1,kv.2))/\kvs.length<=15/\Q (.ref p) (upd H2 p (.dK (je [] kvs)))
theorem xh{X:Cx}{pos:Pos}{keys:List (Option T8)}{values:bi}{trs:List (TE×TE)}(h:IM X pos keys values trs)(hall:keys.all (·.isSome)=true)(hl:keys.length=values.length)(h0:keys≠[])
  (h15:keys.length<=15):PE X (.Dict keys values pos) (JZ trs):=by
 intro pins s σ H Q I q;have hn:=I.hok.fresh (Qq s.heap.objs.size);have I1:=I.laid (a:=s.heap.objs.size) (o:=.dK []) (h':=s.heap.push {cls:=.type "dict",data:=.dict #[]}) (t':=s.toks) (λ_ _ q=>Tr _ q) (Qq _) (Bl s.heap I.big);refine wpAny_Dict_walk (knd:=cU X.prog X.w) hall hl h0 h15 (cu (h pins _ σ _ _ I1 (q _ hn)) λws s2 ⟨ps,H2,I2,rel,e,kvs,ep,lk,q2⟩=>?_);subst ep;obtain⟨rs,c,rk⟩:=qc (P:=X.prog) (w:=X.w) rel;obtain⟨z,hd,vs0,r0,dd⟩:=IW I2.hok e;cases r0;refine⟨rs,c,dd,λh' dd' hs=>⟨.ref s.heap.objs.size,_,?_,rfl,q2⟩⟩;have hz:(je [] kvs).length<=Ug:=by
  have h1:=lj kvs [];rw[QT]at h1;rw[UC];omega
 have he:∃q,h'.get? s.heap.objs.size=some q:=let ⟨q,_,_,hq,_⟩:=dd';⟨q,hq⟩
 exact tO I2 (by rw[e];exact True.intro) hs he (Hf hz hd (rk.merge .nil) dd')
noncomputable def cS(cells:mV):pR->mV->mV
 |[],acc=>acc
 |(n,k)::r,acc=>if k=.free then(match cells.lookup n with|some c=>cS cells r ((n,c)::acc)|none=>cS cells r acc)else cS cells r acc
theorem kG{cells:mV}:∀(names:pR)(acc:mV),(∀x c,acc.lookup x=some c->cells.lookup x=some c)->
  ∀x c,(cS cells names acc).lookup x=some c->cells.lookup x=some c
 |[],acc,h=>h
 |(n,k)::r,acc,h=>by
  unfold cS;by_cases hk:k=.free
  ·rw[if_pos hk];cases e:cells.lookup n with
   |none=>exact kG r acc h
   |some c0=>
    refine kG r _ λx c q=>?_;rw[QW]at q;cases hx:x==n with
    |true=>
     rw[hx]at q;have e1:x=n:=(by simpa using hx);cases q;rw[e1];exact e
    |false=>rw[hx]at q;exact h x c q
  ·rw[if_neg hk];exact kG r acc h
theorem jn{cells:mV}:∀(names:pR)(acc:mV)(x:Str),(acc.lookup x).isSome=true->((cS cells names acc).lookup x).isSome=true
 |[],acc,x,h=>h
 |(n,k)::r,acc,x,h=>by
  unfold cS;by_cases hk:k=.free
  ·rw[if_pos hk];cases e:cells.lookup n with
   |none=>exact jn r acc x h
   |some c0=>
    refine jn r _ x ?_;rw[QW];cases hx:x==n with
    |true=>rfl
    |false=>exact h
  ·rw[if_neg hk];exact jn r acc x h
theorem iA{cells:mV}:∀(names:pR)(acc:mV)(x:Str),(x,NameKind.free)∈names->(∃c,cells.lookup x=some c)->((cS cells names acc).lookup x).isSome=true
 |[],acc,x,h,_=>absurd h (by simp)
 |(n,k)::r,acc,x,h,hc=>by
  unfold cS;rcases List.mem_cons.mp h with e|h
  ·cases e;rw[if_pos rfl];obtain⟨c,e⟩:=hc;rw[e];refine jn r _ _ ?_;rw[QW];simp
  ·by_cases hk:k=.free
   ·rw[if_pos hk];cases e:cells.lookup n with
    |none=>exact iA r acc x h hc
    |some c0=>exact iA r _ x h hc
   ·rw[if_neg hk];exact iA r acc x h hc
theorem mh{scope:Uk}{env:Env}(h:∀p∈scope.names,p.2=.free->∃c,env.cells.lookup p.1=some c):closureFor scope env=pure (cS env.cells scope.names []):=by
 have go:∀(names:pR)(acc:mV),(∀p∈names,p.2=.free->∃c,env.cells.lookup p.1=some c)->
   (forIn names acc λx cs=>(match x with|(name,kind)=>if(kind==NameKind.free)=true then do let a<-cellOf env name;pure (ForInStep.yield ((name,a)::cs))else pure (ForInStep.yield cs):Sem (ForInStep mV)))=pure (cS env.cells names acc):=by
  intro names
  induction names with
  |nil=>intro acc _;rfl
  |cons p r ih=>
   intro acc hp;obtain⟨n,k⟩:=p;rw[QX];by_cases hk:k=.free
   ·obtain⟨c,e⟩:=hp (n,k) Qk hk;subst hk;have e2:cellOf env n=pure c:=(by unfold cellOf;rw[e]);simp only[beq_self_eq_true,if_true,e2,pure_bind];rw[ih _ λq hq=>hp q (Ql _ hq)]
    conv=>rhs;rw[cS]
    simp[e]
   ·have hb:(k==NameKind.free)=false:=(by simpa using hk);simp only[hb,QY,if_false,pure_bind];rw[ih _ λq hq=>hp q (Ql _ hq)]
    conv=>rhs;rw[cS,if_neg hk]
 have:=go scope.names [] h
 unfold closureFor;simp only[];rw[this];rfl
noncomputable def b9(X:Cx)(scope:Uk)(N:ax)(cl:mV)(C:T7)(fp:aH)(s:Ua)(H:Hp)(E:bL):Cx where
 prog:=X.prog
 w:=X.w
 K:=X.K
 mg:=X.mg
 base:=X.base
 A:=X.A
 N:=N
 s₀:=s
 H₀:=H
 env:=compEnvC scope cl C X.env
 outer:=X.stack
 stack:=X.stack
 ex:=fp
 fn:=λ_=>false
 calm:=X.calm
 pn:=[]
 xe:=E
noncomputable def tG(XN N:ax)(names:pR)(ix:fZ):Bool:=
 decide (ix.length=N.length)&&(N.zip ix).all λp=>match p.2 with
  |some i=>decide (XN[i]?=some p.1)&&decide (names.lookup p.1=some .free)
  |none=>true
noncomputable def inBlock(ix:fZ)(σ:St):St:=ix.map λo=>match o with
 |some i=>(σ[i]?).getD none
 |none=>none
theorem tG.len{XN N:ax}{names:pR}{ix:fZ}(h:tG XN N names ix=true):ix.length=N.length:=by
 unfold tG at h;rw[QN]at h;exact of_decide_eq_true h.1
theorem tG.at_{XN N:ax}{names:pR}{ix:fZ}(h:tG XN N names ix=true){j i:Nat}{x:Str}(h1:N[j]?=some x)(h2:ix[j]?=some (some i)):XN[i]?=some x/\names.lookup x=some .free:=by
 unfold tG at h;rw[QN]at h;have hm:(x,some i)∈N.zip ix:=by
  have e:(N.zip ix)[j]?=some (x,some i):=by rw[List.getElem?_zip_eq_some];exact⟨h1,h2⟩
  exact QJ e
 have q:=List.all_eq_true.mp h.2 _ hm;simp only[QN]at q;exact⟨of_decide_eq_true q.1,of_decide_eq_true q.2⟩
theorem kc{env:Env}:∀{names:pR}{x:Str}{k:T6},
  (names.map λ(n,k)=>if(k==NameKind.free&&env.scope.kind==.function&&env.kindOf n==some .cell)then(n,NameKind.cell)else(n,k)).lookup x=some k->
  names.lookup x=some k\/(names.lookup x=some .free/\k=.cell)
 |[],_,_,h=>by simp at h
 |(n,k0)::r,x,k,h=>by
  have ih:=@kc env r x k
  replace h:List.lookup x ((if(k0==NameKind.free&&env.scope.kind==.function&&env.kindOf n==some .cell)=true then(n,NameKind.cell)else(n,k0))::(r.map λ(n,k)=>if(k==NameKind.free&&env.scope.kind==.function&&env.kindOf n==some .cell)then(n,NameKind.cell)else(n,k)))=some k:=h
  by_cases hc:(k0==NameKind.free&&env.scope.kind==.function&&env.kindOf n==some .cell)=true
  ·rw[if_pos hc]at h;have hk0:k0=.free:=by
    simp only[QN]at hc
    simpa using hc.1.1
   cases hx:x==n with
   |true=>
    simp only[QW,hx]at h;simp only[QW,hx];cases h;exact .inr ⟨by rw[hk0],rfl⟩
   |false=>
    simp only[QW,hx]at h ⊢;exact ih h
  ·rw[if_neg hc]at h;cases hx:x==n with
   |true=>
    simp only[QW,hx]at h ⊢;exact .inl h
   |false=>
    simp only[QW,hx]at h ⊢;exact ih h
noncomputable def GR(X:Cx)(ifs:bi)(t:TT):Prop:=
 ∀(pins:aU)(s:Ua)(σ:St)(H:Hp)(Q:Bool->Hp->Prop),Inv X pins σ H s->t σ H Q->
  Um (model X.prog X.w) X.A (forIn ifs true λc r=>if r=true then do let ok<-isTrue c X.env (eval c X.env);pure (ForInStep.yield ok)else pure (ForInStep.yield r)) (TP X pins σ Q) X.xe s
noncomputable def Kb:TT:=λ_ H Q=>Q true H
theorem CW{X:Cx}:GR X [] Kb:=λ_ _ _ H _ I h=>wpAny_tests_nil ⟨H,I,h⟩
theorem DI{X:Cx}{c:T8}{t:TT}(h:PT X c t):GR X [c] t:=λpins s σ H Q I q=>wpAny_tests_one (h pins s σ H Q I q)
theorem jW{prog:Uc}{w:Ub}{A:Uj}{R:UH->gZ}{s:Ua}{elt target iter:T8}{ifs:bi}{scope:Uk}{pos:Pos}{it acc:T5}{env:Env}(I:Nat->gZ)
  (turn:∀ n s,I n s->Um (model prog w) A (pyNext it) (fun r s₁=>match r with
   |none=>R (.ok .next) s₁
   |some v=>Um (model prog w) A (letOwnedTupleGo target it v) (λ_ s₁'=>Um (model prog w) A (assign target env v) (λ_ s₂=>
     Um (model prog w) A (forIn ifs true λc r=>if r=true then do let ok<-isTrue c env (eval c env);pure (ForInStep.yield ok)else pure (ForInStep.yield r)) (λok s₃=>
      if ok=true then Um (model prog w) A (eval elt env) (λx s₄=>
       Um (model prog w) A (call (.builtin "list.append") [acc,x]) (λ_ s₅=>∃m,m<n/\I m s₅) (notedBy (model prog w) A env λe s'=>R (.error e) s') s₄) (notedBy (model prog w) A env λe s'=>R (.error e) s') s₃
      else∃m,m<n/\I m s₃) (notedBy (model prog w) A env λe s'=>R (.error e) s') s₂) (notedBy (model prog w) A env λe s'=>R (.error e) s') s₁') (notedBy (model prog w) A env λe s'=>R (.error e) s') s₁) (notedBy (model prog w) A env λe s'=>R (.error e) s') s)
  (n:Nat) (h:I n s):
  UI (model prog w) A (.compLoop (.ListComp elt [⟨target,iter,ifs,0⟩] scope pos) 0 it acc env) R s:=by
 refine codeAny_loop rfl I (λn s hI=>?_) n h;show Um _ A ((compTurn (.ListComp elt [⟨target,iter,ifs,0⟩] scope pos) 0 it acc env).onRaise (λx=>do noteFrame x env;theTreesLotGoes x)) _ _ s;refine wpAny_noted ?_;rw[compTurn_list];refine Uw (UW (Uw (Up (turn n s hI) (λr s₁ h₁=>?_) λ_ _ h'=>h')));cases r with
 |none=>exact Uv h₁
 |some v=>
  refine Uw (Up h₁ (λ_ s₁' h₁'=>?_) λ_ _ h'=>h');refine Uw (Up h₁' (λ_ s₂ h₂=>Uw (Up h₂ (λok s₃ h₃=>?_) λ_ _ h'=>h')) λ_ _ h'=>h');cases ok with
  |false=>exact Uv ⟨rfl,h₃⟩
  |true=>
   exact Uw (Uw (Up h₃ (λx s₄ h₄=>Uw (Up h₄ (λ_ s₅ h₅=>Uv (Uv ⟨rfl,h₅⟩)) λ_ _ h'=>h')) λ_ _ h'=>h'))
noncomputable def Kp(wi:TI)(g:TG)(tc:TT)(te:TE)(ix:fZ):TE:=λσ H Q=>
 wi σ H λJ H1=>∀D,H1 D=none->∃W:Nat->Nat->St->Hp->Prop,(∃m,W 0 m (inBlock ix σ) (upd H1 D (.lst [])))/\
  ∀i m σ' H',W i m σ' H'->(J.stop i H'/\Q (.ref D) H') \/
   (J.go i H'/\∀ x H2,J.yld i H' x H2->g x σ' H2 fun σ3 H3=>tc σ3 H3 fun b H4 =>
    if b=true then te σ3 H4 λv H5=>∃acc,H5 D=some (.lst acc)/\acc.length<Ug/\∃m',m'<m/\W (i+1) m' σ3 (upd H5 D (.lst (acc++[v])))
    else∃m',m'<m/\W (i+1) m' σ3 H4)
section
variable{X:Cx}{elt tg iter:T8}{ifs:bi}{scope:Uk}{pos:Pos}{N:ax}{ix:fZ}{wi:TI}{g:TG}{tc:TT}{te:TE}
theorem o7{pins:aU}{σ:St}{s2:Ua}{H2:Hp}{it:T7}{fp:aH}{tn:Nat->Ue->Prop}{J:It}{Q:V->Hp->Prop}{E:bL}{RR:T5->T7->UH->gZ}
    (hc:X.calm=true) (hcell:∀y∈scope.names,y.2≠.cell) (hkind:scope.kind=.function)
    (hfr:∀y∈scope.names,y.2=.free->X.env.scope.names.lookup y.1=some .cell\/X.env.scope.names.lookup y.1=some .free)
    (hix:tG X.N N scope.names ix=true)
    (hb:∀cl C fp s H E,PG (b9 X scope N cl C fp s H E) tg g/\GR (b9 X scope N cl C fp s H E) ifs tc/\PE (b9 X scope N cl C fp s H E) elt te)
    (I2:Inv X pins σ H2 s2) (T:Turn X.prog X.w X.K tg J fp it tn) (st2:tn 0 s2.heap) (f2:∀b∈fp,qA X pins H2 b)
    (q:∀ D,H2 D=none->∃ W:Nat->Nat->St->Hp->Prop,(∃ m,W 0 m (inBlock ix σ) (upd H2 D (.lst []))) /\
      ∀i m σ' H',W i m σ' H'->(J.stop i H'/\Q (.ref D) H') \/
        (J.go i H'/\∀ x H3,J.yld i H' x H3->g x σ' H3 fun σ3 H3=>tc σ3 H3 fun b H4 =>
          if b=true then te σ3 H4 λv H5=>∃acc,H5 D=some (.lst acc)/\acc.length<Ug/\∃m',m'<m/\W (i+1) m' σ3 (upd H5 D (.lst (acc++[v])))
          else∃m',m'<m/\W (i+1) m' σ3 H4))
    (hRR:∀D C H' s' m,H2 D=none->s2.heap.objs.size<=C->H' C=none->s'.heap.Ns C m->(∀h',Tq C s'.heap h'->Inv X pins σ H' {s' with heap:=h'})->Q (.ref D) H'->RR (.ref D) C (.ok .next) s'):
    Um (model X.prog X.w) X.A (newList []) (λacc s₃=>Um (model X.prog X.w) X.A (newFunctionEnv scope X.env.globals (cS X.env.cells scope.names []) [] X.env.qual none .none (some X.env)) (λcenv s₄=>
      UI (model X.prog X.w) X.A (.compStart (.ListComp elt [⟨tg,iter,ifs,0⟩] scope pos) 0 (.ref it) acc {cenv with scope:=relabel scope X.env}) (RR acc cenv.locals) s₄) E s₃) E s2:=by
  refine U7 (wpAny_newFunctionEnv hcell (by intro y hy;simp at hy) (λh₁ hns₁ hsb₁=>?_) hkind);dsimp only at hns₁ hsb₁ ⊢;have I3:Inv X pins σ (upd H2 s2.heap.objs.size (.lst [])) {s2 with heap:=s2.heap.push {cls:=.type "list",dict:=none,data:=.seq ([]:aS).toArray},toks:=s2.toks}:=I2.lnew (its:=[]) (t':=s2.toks) .nil (QA _);generalize hs3:({s2 with heap:=s2.heap.push {cls:=.type "list",dict:=none,data:=.seq ([]:aS).toArray},toks:=s2.toks}:Ua)=s3 at I3;have eh3:s2.heap.push {cls:=.type "list",dict:=none,data:=.seq ([]:aS).toArray}=s3.heap:=by rw[<-hs3]
  rw[eh3]at hns₁ hsb₁ ⊢;have hC3:s3.heap.objs.size=s2.heap.objs.size+1:=by rw[<-eh3,Tt]
  have hD:H2 s2.heap.objs.size=none:=I2.fresh;obtain⟨W,⟨m0,w0⟩,turn⟩:=q s2.heap.objs.size hD;generalize hH3:upd H2 s2.heap.objs.size (.lst [])=H3 at I3 w0;have old:∀b o,s3.heap.get? b=some o->h₁.get? b=some o:=λb o e=>hsb₁.extBut b o (Qg (To e)) (Tr _ e);have fpH3:∀b∈fp,H3 b=none:=λb hb'=>by
    rw[<-hH3,aw]
    ·exact(f2 b hb').1
    · obtain⟨o,e,_⟩:=T.obj _ _ st2 b hb'
      exact Qg (To e)
  have fpLt:∀b∈fp,b<s3.heap.objs.size:=λb hb'=>by
    obtain⟨o,e,_⟩:=T.obj _ _ st2 b hb';rw[hC3];exact Nat.lt_succ_of_lt (To e)
  have hfree:∀p∈scope.names,p.2=.free->∃c,X.env.cells.lookup p.1=some c:=λp hp hk=>I2.ok.has p.1 (hfr p hp hk);have csub:∀x c,(cS X.env.cells scope.names []).lookup x=some c->X.env.cells.lookup x=some c:=kG scope.names [] (λx c e=>by simp at e);have names':∀x k,(relabel scope X.env).names.lookup x=some k->scope.names.lookup x=some k\/(scope.names.lookup x=some .free/\k=.cell):=λx k h=>kc h;have ok:(b9 X scope N (cS X.env.cells scope.names []) s3.heap.objs.size fp s3 H3 (notedBy (model X.prog X.w) X.A (compEnvC scope (cS X.env.cells scope.names []) s3.heap.objs.size X.env) λe s'=>RR (.ref s2.heap.objs.size) s3.heap.objs.size (.error e) s')).Ok:=
    { mod:=I3.ok.mod
      kind:=hkind
      glob:=I3.ok.glob
      blt:=I3.ok.blt
      above:=Qq _
      inj:=λx y c h1 h2=>I3.ok.inj x y c (csub x c h1) (csub y c h2)
      has:=λx hx=>by
        have fr:scope.names.lookup x=some .free:=by
          rcases hx with hx|hx
          · rcases names' x .cell hx with h|⟨h,_⟩
            ·exact absurd rfl (hcell _ (PySem.mem_of_lookup h))
            ·exact h
          · rcases names' x .free hx with h|⟨_,h⟩
            ·exact h
            ·cases h
        have hm:=PySem.mem_of_lookup fr;exact Option.isSome_iff_exists.mp (iA scope.names [] x hm (hfree _ hm rfl))
      cab:=λx c h _=>by cases h
      hd:=I3.ok.hd
      frames:=I3.ok.frames
      stk:=.inl rfl
      exf:=λb hb'=>⟨Qg (fpLt b hb'),λx c e=>(f2 b hb').2.2.2.2.1 x c (csub x c e)⟩
      bs:=λb o e=>I3.bs b o e
      bsz:=Qh I3.ok.bsz I3.sz
      noex:=λb o e hb'=>by
        obtain⟨_,_,_,h4,_⟩:=f2 b hb';rcases h4 with h4|h4
        ·exact I3.ok.noex b o e h4
        ·exact absurd (Qe (To (I3.ok.bs b o e).1) h4) (Qf _)
      exfs:=λb hb' hs=>by
        obtain⟨_,h2,h3,_⟩:=f2 b hb';rcases List.mem_cons.mp (I3.stkSub b hs)with e|e
        ·exact h2 e
        ·exact h3 e
      funs:=I3.stack
      frf:=λb hb'=>I3.stkFree b hb'}
  generalize hE:(notedBy (model X.prog X.w) X.A (compEnvC scope (cS X.env.cells scope.names []) s3.heap.objs.size X.env) λe s'=>RR (.ref s2.heap.objs.size) s3.heap.objs.size (.error e) s')=E' at ok;obtain⟨hg,htc,hel⟩:=hb (cS X.env.cells scope.names []) s3.heap.objs.size fp s3 H3 E';have Istart:∀tk,Inv (b9 X scope N (cS X.env.cells scope.names []) s3.heap.objs.size fp s3 H3 E') [] (inBlock ix σ) H3 {s3 with heap:=h₁,toks:=tk}:=λtk=>by
    refine⟨ok,rfl,I3.bare,Un.kept old,⟨_,hns₁,λj x v e1 e2 _=>?_⟩,λx c e=>?_,I3.fresh,λx c e=>I3.freeC x c (csub x c e),λp hp=>absurd (show p∈([]:aU)from hp) (by simp),I3.hok.kept old,?_⟩
    ·
      unfold inBlock at e2;rw[QI]at e2;cases q1:ix[j]? with
      |none=>rw[q1]at e2;simp at e2
      |some o=>
        rw[q1]at e2;cases o with
        |none=>simp at e2
        |some i=>
          obtain⟨n1,n2⟩:=tG.at_ hix e1 q1;have e2':(σ[i]?).getD none=some v:=Option.some.inj e2;have e3:σ[i]?=some (some v):=by
            cases q2:σ[i]? with
            |none=>rw[q2]at e2';simp at e2'
            |some o2=>rw[q2]at e2';simpa using e2'
          obtain⟨m,hn,hl⟩:=I3.loc;have hm:=PySem.mem_of_lookup n2;have hk:=hfr _ hm rfl;have hv:HM X.env.scope x:=by
            rcases hk with hk|hk
            ·exact .inr (.inl hk)
            ·exact .inr (.inr hk)
          obtain⟨u,r,l⟩:=hl i x v n1 e3 hv;refine⟨u,r,.inr ?_⟩;rcases l with⟨kl,_⟩|⟨_,c,hcx,hcell'⟩
          · have kl':X.env.scope.names.lookup x=some .local:=kl
            rcases hk with hk|hk
            ·rw[kl']at hk;cases hk
            ·rw[kl']at hk;cases hk
          · obtain⟨c',hc'⟩:=Option.isSome_iff_exists.mp (iA (cells:=X.env.cells) scope.names [] x hm ⟨c,hcx⟩)
            have ec:c'=c:=Option.some.inj ((csub x c' hc').symm.trans hcx);subst ec;refine⟨?_,c',hc',?_⟩
            ·
              show(relabel scope X.env).names.lookup x=some .cell\/(relabel scope X.env).names.lookup x=some .free;have gen:∀names:pR,names.lookup x=some .free->((names.map λ(n,k)=>if(k==NameKind.free&&X.env.scope.kind==.function&&X.env.kindOf n==some .cell)then(n,NameKind.cell)else(n,k)).lookup x=some .cell\/(names.map λ(n,k)=>if(k==NameKind.free&&X.env.scope.kind==.function&&X.env.kindOf n==some .cell)then(n,NameKind.cell)else(n,k)).lookup x=some .free):=by
                intro names
                induction names with
                |nil=>intro h;simp at h
                |cons p r ih=>
                  obtain⟨n,k⟩:=p;intro h;show List.lookup x ((if(k==NameKind.free&&X.env.scope.kind==.function&&X.env.kindOf n==some .cell)=true then(n,NameKind.cell)else(n,k))::_)=_\/List.lookup x ((if(k==NameKind.free&&X.env.scope.kind==.function&&X.env.kindOf n==some .cell)=true then(n,NameKind.cell)else(n,k))::_)=_;cases hx:x==n with
                  |true=>
                    simp only[QW,hx]at h;by_cases hcc:(k==NameKind.free&&X.env.scope.kind==.function&&X.env.kindOf n==some .cell)=true
                    ·rw[if_pos hcc];left;simp only[QW,hx]
                    ·rw[if_neg hcc];right;simp only[QW,hx];exact h
                  |false=>
                    simp only[QW,hx]at h;by_cases hcc:(k==NameKind.free&&X.env.scope.kind==.function&&X.env.kindOf n==some .cell)=true
                    ·rw[if_pos hcc];simp only[QW,hx];exact ih h
                    ·rw[if_neg hcc];simp only[QW,hx];exact ih h
              exact gen scope.names n2
            ·exact hcell'.keeps old
    · obtain⟨v,z⟩:=I3.cell x c (csub x c e)
      exact⟨v,z.keeps old⟩
    · show(inBlock ix σ).length=N.length
      unfold inBlock;rw[Qx];exact tG.len hix
  have stat:∀{H':Hp},(∀b∈fp,H' b=none)->∀b∈fp,qA (b9 X scope N (cS X.env.cells scope.names []) s3.heap.objs.size fp s3 H3 E') [] H' b:=λhn b hb'=>
    ⟨hn b hb',(ok.exf b hb').1,ok.exfs b hb',.inl hb',(ok.exf b hb').2,λp hp=>absurd (show p∈([]:aU)from hp) (by simp)⟩
  have tn1:tn 0 h₁:=T.keep _ _ _ st2 λb hb' o e=>old b o (by rw[<-eh3];exact Tr _ e);have loop:∀tk,UI (model X.prog X.w) X.A (.compLoop (.ListComp elt [⟨tg,iter,ifs,0⟩] scope pos) 0 (.ref it) (.ref s2.heap.objs.size) (compEnvC scope (cS X.env.cells scope.names []) s3.heap.objs.size X.env))
      (RR (.ref s2.heap.objs.size) s3.heap.objs.size) {s3 with heap:=h₁,toks:=tk}:=by
    intro tk;refine jW (λn s'=>∃i σ' H',Inv (b9 X scope N (cS X.env.cells scope.names []) s3.heap.objs.size fp s3 H3 E') [] σ' H' s'/\tn i s'.heap/\(∀b∈fp,H' b=none)/\W i n σ' H') ?_ m0 ⟨0,_,_,Istart tk,tn1,fpH3,w0⟩;rintro n s5 ⟨i,σ5,H5,I5,st5,fr5,w5⟩;rw[hE];rcases turn i n σ5 H5 w5 with⟨stop,qn⟩|⟨go,step⟩
    · refine cu (T.done (b9 X scope N (cS X.env.cells scope.names []) s3.heap.objs.size fp s3 H3 E') rfl rfl rfl hc i [] s5 σ5 H5 _ I5 (stat fr5) st5 stop) λr s6 ⟨hr,I6⟩=>?_
      subst hr;obtain⟨m6,hn6,_⟩:=I6.loc;refine hRR s2.heap.objs.size s3.heap.objs.size H5 s6 m6 hD (by rw[hC3];exact QC _) I6.free hn6 (λh' sb=>?_) qn;have ne:∀b o,s3.heap.get? b=some o->b≠s3.heap.objs.size:=λb o e=>Qg (To e);refine I3.call' (s':={s6 with heap:=h'}) (H':=H5) (ch:=fp) I6.os ⟨λb o e n hb' hx=>?_,λb o e n hb' hx=>?_,λb o e n hx=>?_,λb o e hx=>?_,I6.base.tups,I6.base.frzs,I6.base.tbls⟩ ?_ I6.bare λb hb'=>?_
      ·exact(sb.2 b (ne b o e)).trans (I6.base.keep b o e n hb' hx)
      · obtain⟨sl,e1⟩:=I6.base.slot b o e n hb' hx
        exact⟨sl,(sb.2 b (ne b o e)).trans e1⟩
      ·exact I6.base.free b o e n hx
      · obtain⟨o',e1⟩:=I6.base.there b o e hx
        exact⟨o',(sb.2 b (ne b o e)).trans e1⟩
      · intro b ob e
        have hfreeC:H5 s3.heap.objs.size=none:=I6.free;refine(I6.hok b ob e).stay (λc v hcc q=>(sb.2 c ?_).trans q) (λ_ q=>q) λ_ _ q=>q;rintro rfl;rcases hcc with rfl|hcc
        ·rw[hfreeC]at e;cases e
        ·rw[hfreeC]at hcc;cases hcc
      · obtain⟨_,h2',_,h4',h5',h6'⟩:=f2 b hb'
        exact⟨h4',h2',h5',h6'⟩
    · refine cu (T.item (b9 X scope N (cS X.env.cells scope.names []) s3.heap.objs.size fp s3 H3 E') rfl rfl rfl hc i [] s5 σ5 H5 _ I5 (stat fr5) st5 go) λr s6 ⟨u,hr,h6⟩=>?_
      subst hr;refine cu h6 λ_ s7 ⟨x,H7,I7,r7,y7,st7,fr7⟩=>?_;have I7':=I7.pinned (stat fr7) (T.obj _ _ st7);refine cu (hg _ s7 σ5 H7 x u _ I7' r7 (step x H7 y7)) λ_ s8 ⟨σ8,H8,I8,q8⟩=>?_;refine cu (htc _ s8 σ8 H8 _ I8 q8) λb s9 ⟨H9,I9,q9⟩=>?_;have again:∀{σ':St}{H':Hp}{s':Ua}{m':Nat},Inv (b9 X scope N (cS X.env.cells scope.names []) s3.heap.objs.size fp s3 H3 E') ([]++qq fp s7.heap) σ' H' s'->m'<n->W (i+1) m' σ' H'->
          ∃m,m<n/\∃i σ' H',Inv (b9 X scope N (cS X.env.cells scope.names []) s3.heap.objs.size fp s3 H3 E') [] σ' H' s'/\tn i s'.heap/\(∀b∈fp,H' b=none)/\W i m σ' H':=λ{σ' H' s' m'} I' hm w'=>by
        refine⟨m',hm,i+1,σ',H',I'.unpinned,T.keep _ _ _ st7 λb hb' o e=>(I'.pin (b,o) (Qr _ (Qr _ (jt hb' e)))).1,λb hb'=>?_,w'⟩;obtain⟨o,e,d⟩:=T.obj _ _ st7 b hb';exact(I'.pin (b,o) (Qr _ (Qr _ (jt hb' e)))).2.1
      cases b with
      |false=>
        rw[if_neg Qu]at q9 ⊢;obtain⟨m',hm,w9⟩:=q9;exact again I9 hm w9
      |true=>
        rw[if_pos rfl]at q9 ⊢;refine cu (hel _ s9 σ8 H9 _ I9 q9) λy s10 ⟨v,H10,I10,r10,q10⟩=>?_;obtain⟨acc,ha,hz,m',hm,w10⟩:=q10;refine cu (rX _ s10 σ8 H10 (.ref s2.heap.objs.size) [v] (.ref s2.heap.objs.size) [y] (λ_ H'=>H'=upd H10 s2.heap.objs.size (.lst (acc++[v]))) I10 rfl (.cons r10 .nil) ⟨_,acc,v,rfl,rfl,ha,hz,rfl⟩) λ_ s11 ⟨_,H11,I11,_,G0⟩=>?_;subst G0;exact again I11 hm w10
  subst hs3;exact codeAny_compStart_list (loop _) (T.self _ 0 _ _ _ tn1 (loop _))
theorem Fu(hc:X.calm=true)(hcell:∀y∈scope.names,y.2≠.cell)(hkind:scope.kind=.function)(hnames:∀y∈scope.names,y.2=.local->scope.names.lookup y.1=some .local)
  (hfr:∀y∈scope.names,y.2=.free->X.env.scope.names.lookup y.1=some .cell\/X.env.scope.names.lookup y.1=some .free)
  (hix:tG X.N N scope.names ix=true) (hi:PI X tg iter wi)
  (hb:∀cl C fp s H E,PG (b9 X scope N cl C fp s H E) tg g/\GR (b9 X scope N cl C fp s H E) ifs tc/\PE (b9 X scope N cl C fp s H E) elt te)
  (hs:∀x,Uz iter X.env x=pure x:=by intro _;rfl):PE X (.ListComp elt [⟨tg,iter,ifs,0⟩] scope pos) (Kp wi g tc te ix):=by
 intro pins s σ H Q I h;rw[eval_ListComp];refine U8 (use:=none) rfl hs (mh λp hp hk=>I.ok.has p.1 (hfr p hp hk)) hkind hnames (cu (hi pins s σ H _ I h) λv s1 h1=>cu h1 λitv s2 h2=>?_);obtain⟨it,fp,tn,J,H2,e,I2,T,st2,f2,q⟩:=h2;subst e;refine o7 (Q:=Q) (RR:=λacc C=>compPost (model X.prog X.w) X.A X.xe none (EP X pins σ Q) acc C) hc hcell hkind hfr hix hb I2 T st2 f2 q ?_;intro D C H' s' m _ _ _ hn hI hq;exact⟨m,hn,λh' sb=>⟨.ref D,H',hI h' sb,rfl,hq⟩⟩
theorem Fp{i:Nat}{y:Str}{py spos:Pos}(hN:X.N.Nodup)(hi':X.N[i]?=some y)(hx:Loc X.env.scope y)
  (hc:X.calm=true) (hcell:∀y∈scope.names,y.2≠.cell) (hkind:scope.kind=.function) (hnames:∀y∈scope.names,y.2=.local->scope.names.lookup y.1=some .local)
  (hfr:∀y∈scope.names,y.2=.free->X.env.scope.names.lookup y.1=some .cell\/X.env.scope.names.lookup y.1=some .free)
  (hix:tG X.N N scope.names ix=true) (hi:PI X tg iter wi)
  (hb:∀cl C fp s H E,PG (b9 X scope N cl C fp s H E) tg g/\GR (b9 X scope N cl C fp s H E) ifs tc/\PE (b9 X scope N cl C fp s H E) elt te)
  (hsw:swapsWith (.ListComp elt [⟨tg,iter,ifs,0⟩] scope pos) (some (.Name y py)) spos.line X.env=pure true:=by rfl)
  (hs:∀x,Uz iter X.env x=pure x:=by intro _;rfl)
  (hf:X.fn y=true\/X.env.scope.names.lookup y=some .local:=by first|exact .inl rfl|exact .inr rfl|assumption):
  PS X (.Assign [.Name y py] (.ListComp elt [⟨tg,iter,ifs,0⟩] scope pos) spos) (Ag (Kp wi g tc te ix) (rj i)):=by
 intro pins s σ H D0 I h;rw[exec_Assign_Name_used _ _ _ _ hsw];refine Uw (UW (Uw ?_));show Um _ X.A (do let _<-comprehension (.ListComp elt [⟨tg,iter,ifs,0⟩] scope pos) scope X.env _ (newList []) false (eval iter X.env) (some (assign (.Name y py) X.env))) _ _ s;refine Uw (cu (U8 (use:=some (assign (.Name y py) X.env)) (Q:=λ_ s'=>SP X pins D0 .next s') rfl hs (mh λp hp hk=>I.ok.has p.1 (hfr p hp hk)) hkind hnames
  (cu (hi pins s σ H _ I h) λv s1 h1=>cu h1 λitv s2 h2=>?_)) λ_ s' hq=>Uv (Uv hq))
 obtain⟨it,fp,tn,J,H2,e,I2,T,st2,f2,q⟩:=h2;subst e;refine o7 (Q:=λv H'=>rj i v σ H' D0.nx) (RR:=λacc C=>compPost (model X.prog X.w) X.A X.xe (some (assign (.Name y py) X.env)) (λ_ s'=>SP X pins D0 .next s') acc C) hc hcell hkind hfr hix hb I2 T st2 f2 q ?_;intro D C H' s' m _ hC hfree hn hI hq;have I':Inv X pins σ H' s':=hI s'.heap (.refl ..);have nL:C≠X.env.locals:=Qp (Qe I2.lt hC);have nC:∀x c,X.env.cells.lookup x=some c->c≠C:=λx c e z=>by
  obtain⟨v,q⟩:=I2.cell x c e;exact absurd (Qe q.lt (by rw[z];exact hC)) (Qf _)
 have nP:∀p∈X.pn++pins,p.1≠C:=λp hp z=>absurd (Qe (To (I2.pin p hp).1) (by rw[z];exact hC)) (Qf _);show Um _ X.A (assign (.Name y py) X.env (.ref D)) _ _ _;refine wpAny_assign_Name (ra I' hN hi' hx (v:=.ref D) rfl (λs'' I'' ch=>?_) hf);obtain⟨a,sb,ha⟩:=ch;have hCa:C≠a:=by
  rcases ha with ha|ha
  ·rw[ha];exact nL
  ·exact Ne.symm (nC y a ha)
 refine⟨m,hn.sameBut sb hCa,λh' sb'=>⟨_,H',?_,hq⟩⟩;exact I''.turned (t':=s''.toks) (λb o hb' e=>(sb'.2 b hb').trans e) hfree nL (.inr (Qh I2.sz hC)) nC nP
end
end L2
namespace TG
open PySem PySem.Spec
noncomputable def DP{α:Type}:Sem α->Prop
 |.pure _=>True
 |.raise _=>True
 |.unsupported _=>True
 |.finish _=>True
 |.rule _ k=>DP (k ())
 |.at _ k=>DP (k ())
 |.load _ _ k=>∀o,DP (k o)
 |.update _ _ f k=>(∀o,(f o).dict=o.dict)/\DP (k ())
 |.loadIfAlive _ k=>∀o,DP (k o)
 |.point _ k=>DP (k ())
 |.alloc _ k=>∀a,DP (k a)
 |.fresh k=>∀a,DP (k a)
 |.ask k=>∀a,DP (k a)
 |.stack k=>∀a,DP (k a)
 |_=>False
theorem DP.bind{α β:Type}{f:α->Sem β}(hf:∀a,DP (f a)):∀{m:Sem α},DP m->DP (m >>= f):=λ{m} h=>by
 show DP (m.bind f)
 induction m with
 |pure a=>exact hf a
 |raise _=>trivial
 |unsupported _=>trivial
 |finish _=>trivial
 |rule _ k ih=>exact ih () h
 |«at» _ k ih=>exact ih () h
 |load _ _ k ih=>exact λo=>ih o (h o)
 |update _ _ g k ih=>exact⟨h.1,ih () h.2⟩
 |loadIfAlive _ k ih=>exact λo=>ih o (h o)
 |point _ k ih=>exact ih () h
 |alloc _ k ih=>exact λo=>ih o (h o)
 |fresh k ih=>exact λo=>ih o (h o)
 |ask k ih=>exact λo=>ih o (h o)
 |stack k ih=>exact λo=>ih o (h o)
 |_=>exact h.elim
noncomputable def DS(h h':Ue):Prop:=∀(a:Nat)(o:Obj),h.objs[a]?=some o->∃o',h'.objs[a]?=some o'/\o'.dict=o.dict
theorem DS.refl(h:Ue):DS h h:=λ_ o e=>⟨o,e,rfl⟩
theorem DS.trans{h1 h2 h3:Ue}(x:DS h1 h2)(y:DS h2 h3):DS h1 h3:=λa o e=>by
 obtain⟨o1,e1,d1⟩:=x a o e;obtain⟨o2,e2,d2⟩:=y a o1 e1;exact⟨o2,e2,d2.trans d1⟩
theorem uj{h:Ue}{a:T7}{o:Obj}(e:h.get? a=some o):h.objs[a]?=some o:=by
 unfold Heap.get? at e;split at e
 ·cases e
 ·exact e
theorem DS.dict{h h':Ue}(x:DS h h'){a:T7}{o o':Obj}(e:h.get? a=some o)(e':h'.get? a=some o'):o'.dict=o.dict:=by
 obtain⟨o1,e1,d1⟩:=x a o (uj e);rw[uj e']at e1;cases e1;exact d1
theorem DS.push(h:Ue)(o:Obj):DS h (h.push o):=λa u e=>⟨u,by
 show(h.objs.push o)[a]?=_
 have:=(Array.getElem?_eq_some_iff.mp e).1
 rw[Array.getElem?_push,if_neg ‹0›];exact e,rfl⟩
theorem DS.upd(h:Ue)(b:T7){f:Obj->Obj}(hf:∀o,(f o).dict=o.dict):DS h (h.update b f):=λa u e=>by
 show∃o',(h.objs.modify b f)[a]?=some o'/\_;rw[Array.getElem?_modify,e];split
 ·exact⟨_,rfl,hf u⟩
 ·exact⟨_,rfl,rfl⟩
theorem DP.wp{α:Type}{M:Ul}{Γ:PySem.Ctx}{Q:α->Pos->Ua->Prop}{E:T5->Pos->Ua->Prop}{t:Sem α}(d:DP t){p:Pos}{s:Ua}(h:Sem.wp M Γ t Q E p s):Sem.wp M Γ t (λa p' s'=>Q a p' s'/\DS s.heap s'.heap) (λa p' s'=>E a p' s'/\DS s.heap s'.heap) p s:=by
 have go:∀(h0:Ue)(p:Pos)(s:Ua),DS h0 s.heap->Sem.wp M Γ t Q E p s->Sem.wp M Γ t (λa p' s'=>Q a p' s'/\DS h0 s'.heap) (λa p' s'=>E a p' s'/\DS h0 s'.heap) p s:=by
  intro h0;clear h
  induction t with
  |pure a=>exact λp s z h=>⟨h,z⟩
  |raise a=>exact λp s z h=>⟨h,z⟩
  |unsupported _=>exact λp s z h=>h
  |finish _=>exact λp s z h=>h
  |rule _ k ih=>exact λp s z h=>ih () d p s z h
  |«at» q k ih=>exact λp s z h=>ih () d q s z h
  |load a _ k ih=>exact λp s z h=>let ⟨o,ho,h⟩:=h;⟨o,ho,ih o (d o) p s z h⟩
  |update a _ f k ih=>exact λp s z h=>⟨h.1,ih () d.2 p _ (z.trans (DS.upd _ a d.1)) h.2⟩
  |loadIfAlive a k ih=>exact λp s z h=>ih _ (d _) p s z h
  |point _ k ih=>exact λp s z h=>ih () d p s z h
  |alloc o k ih=>exact λp s z h=>ih _ (d _) p _ (z.trans (DS.push _ o)) h
  |fresh k ih=>exact λp s z h=>ih _ (d _) p _ z h
  |ask k ih=>exact λp s z h=>ih _ (d _) p _ z h
  |stack k ih=>exact λp s z h=>ih _ (d _) p _ z h
  |_=>exact d.elim
 exact go s.heap p s (DS.refl _) h
theorem DP.any{α:Type}{M:Ul}{A:Uj}{Q:α->Ua->Prop}{E:T5->Ua->Prop}{t:Sem α}{s:Ua}(d:DP t)(h:Um M A t Q E s):Um M A t (λa s'=>Q a s'/\DS s.heap s'.heap) E s:=λΓ p hi=>Sem.wp_mono _ _ _ (λ_ _ _ x=>x) (λ_ _ _ x=>x.1) _ _ (d.wp (h Γ p hi))
theorem DP.go{M:Ul}{A:Uj}{Q:Unit->Ua->Prop}{E:T5->Ua->Prop}{t:Sem Unit}{s:Ua}{P:Ue->Prop}(d:DP t)(h:Um M A t (λ_ s'=>∃h',s'={s with heap:=h'}/\P h') E s)(k:∀h',P h'->DS s.heap h'->Q () {s with heap:=h'}):Um M A t Q E s:=Up (d.any h) (λ_ s' z=>by
 obtain⟨⟨h',rfl,p⟩,ds⟩:=z;exact k h' p ds) λ_ _ z=>z
theorem mm(v:T5)(i:Nat):DP (field v i):=by
 unfold field fieldsOf;cases v with
 |ref a=>
  refine DP.bind (λxs=>?_) ?_
  ·split<;>trivial
  ·refine DP.bind (λo=>?_) (λo=>trivial);split<;>trivial
 |_=>exact DP.bind (λxs=>by split<;>trivial) trivial
theorem xj(a:T7):DP (load a):=λ_=>trivial
theorem Ic(f:Array T5->Array T5)(o:Obj):(Obj.mapFields f o).dict=o.dict:=by
 unfold Obj.mapFields;split<;>rfl
theorem vZ(v:T5)(i:Nat)(x:T5):DP (setField v i x):=by
 unfold setField;cases v with
 |ref a=>
  unfold updateField;refine DP.bind (λo=>?_) (xj a);split
  ·split
   ·exact⟨Ic _,trivial⟩
   ·trivial
  ·trivial
 |_=>trivial
theorem nT(e:T5)(f:Option T7):DP (setFlight e f):=by
 unfold setFlight;refine DP.bind (λtb=>?_) (mm _ _);split
 ·exact vZ _ _ _
 ·trivial
theorem As:DP stack:=λ_=>trivial
theorem Bf:DP underTheClaimsCaller:=by
 unfold underTheClaimsCaller;exact λ_=>trivial
theorem vf:∀l:List Env,DP (readyFrames l)
 |[]=>trivial
 |env::outer=>by
  unfold readyFrames;cases env.frame with
  |none=>trivial
  |some f=>
   refine DP.bind ?_ (xj f);intro o;split
   ·trivial
   ·refine DP.bind ?_ ?_
    ·intro b;refine DP.bind ?_ ?_
     ·intro b;refine DP.bind ?_ ?_
      ·intro _;exact vf outer
      ·exact⟨λ_=>rfl,trivial⟩
     ·unfold keptBack;split
      ·split
       ·trivial
       ·refine DP.bind ?_ Bf;intro _;trivial
      ·trivial
    ·unfold behindIsImport;split
     ·trivial
     ·split
      ·trivial
      ·refine DP.bind ?_ (mm _ _);intro _;trivial
theorem De:DP frameEnvs:=λ_=>trivial
theorem wf(env:Env):DP (frameOf env):=by
 unfold frameOf;refine DP.bind ?_ De;intro l;refine DP.bind ?_ ?_
 ·intro f;split<;>trivial
 ·unfold frameObject;split
  ·trivial
  ·refine DP.bind ?_ (vf _);intro _;trivial
theorem GO(ty:String)(vs:List T5):DP (newFields ty vs):=by
 unfold newFields newObj;dsimp only;split
 ·trivial
 ·exact λ_=>trivial
theorem CC(f:T7)(b:Bool):DP (entryPlaceOf f b):=by
 unfold entryPlaceOf;refine DP.bind ?_ As;intro l;split<;>trivial
theorem xJ(e:T5)(env:Env):DP (noteFrame e env):=by
 unfold noteFrame;cases env.frame with
 |none=>trivial
 |some f=>
  have tl:∀head:T5,DP (do setField e 1 (<-EntryCells.newEntry head (<-frameOf env) .none (rawInt f) .none (<-entryPlaceOf f (head !=.none)))):=λhead=>by
   refine DP.bind ?_ (wf env);intro a;refine DP.bind ?_ (CC _ _);intro b;refine DP.bind ?_ (GO _ _);intro c;exact vZ _ _ _
  refine DP.bind ?_ (mm _ _);intro head;dsimp only;split
  ·refine DP.bind ?_ (mm _ _);intro x;split
   ·trivial
   ·refine DP.bind ?_ (vZ _ _ _);intro _;exact tl head
  ·exact tl head
theorem vE(env:Env)(e:T5):DP (leaving env e):=by
 unfold leaving;refine DP.bind ?_ (xJ _ _);intro _;exact nT _ _
open PySem PySem.Spec L2
inductive D where
 |non|bl (b:Bool)|int (i:Int)|str (x:Str)|tup (xs:List D)|lst (xs:List D)
 |dct (ks vs:List D)|obj (c:Str) (fs:ax) (vs:List D)|exc (c:Str) (fs:ax) (vs:List D)
noncomputable abbrev bx:=Option D
noncomputable def dU:Key->D
 |.inl i=>.int i
 |.inr x=>.str x
noncomputable def clsAt(K:Sn)(c:Str)(C:T7):Prop:=S0 K Uh c=some (some (.ref C))
noncomputable def u6(C a:T7)(dx:iq):(T7->Prop)->Ue->Prop:=λ_ h=>∃o,h.get? a=some o/\o.cls=.ref C/\o.dict=dx/\S3 o=true
mutual
noncomputable def cf(K:Sn)(H:Hp):D->V->Prop
 |.non,v=>v=.non
 |.bl b,v=>v=.bl b
 |.int i,v=>v=.int i
 |.str x,v=>v=.str x
 |.tup xs,v=>∃a vs,v=.ref a/\H a=some (.tup vs)/\aN K H xs vs
 |.lst xs,v=>∃a vs,v=.ref a/\lI K H a vs/\aN K H xs vs
 |.dct ks ds,v=>∃a vs,v=.ref a/\aN K H ds vs/\((∃kvs:List (Key×V),H a=some (.dK kvs)/\ks=kvs.map (λp=>dU p.1)/\vs=kvs.map (·.2)) \/
   (∃kvs:List (List Key×V),H a=some (.dT kvs)/\ks=kvs.map (λp=>.tup (p.1.map dU))/\vs=kvs.map (·.2)) \/
   ∃(kvs:List (List Key×V))(o:Obj),H a=some (.frz o (.dT kvs))/\ks=.non::kvs.map (λp=>.tup (p.1.map dU))/\vs=kvs.map (·.2))
 |.obj c fs ds,v=>∃a vs,v=.ref a/\aN K H ds vs/\fs.length=vs.length/\∃C dx,clsAt K c C/\H a=some (.ins C dx (fs.zip vs))
 |.exc c fs ds,v=>∃a vs,v=.ref a/\aN K H ds vs/\fs.length=vs.length/\∃C dx,clsAt K c C/\H a=some (.ext (u6 C a dx))/\(fs=[]\/∃d,dx=some d/\H d=some (.xd (fs.zip vs)))
noncomputable def aN(K:Sn)(H:Hp):List D->aI->Prop
 |[],vs=>vs=[]
 |x::xs,vs=>∃v r,vs=v::r/\cf K H x v/\aN K H xs r
end
theorem zy{K:Sn}{H H':Hp}{a:T7}{xs:aI}(e:aQ H H')(h:n0 K H a xs):n0 K H' a xs:=by
 rcases h with(h|⟨o,h⟩)|h
 ·exact .inl (.inl (e _ _ h))
 ·exact .inl (.inr ⟨o,e _ _ h⟩)
 ·exact .inr h
theorem cy{K:Sn}{H H':Hp}{a:T7}{xs:aI}(e:aQ H H')(h:H a=some (.tup xs)):n0 K H' a xs:=n0.of (e _ _ h)
mutual
theorem cf.mono{K:Sn}{H H':Hp}(e:aQ H H'):∀{d:D}{v:V},cf K H d v->cf K H' d v
 |.non,_,h=>by unfold cf at h ⊢;exact h
 |.bl _,_,h=>by unfold cf at h ⊢;exact h
 |.int _,_,h=>by unfold cf at h ⊢;exact h
 |.str _,_,h=>by unfold cf at h ⊢;exact h
 |.tup xs,_,h=>by
  unfold cf at h ⊢;obtain⟨a,vs,e1,h1,h2⟩:=h;exact⟨a,vs,e1,e _ _ h1,aN.mono e h2⟩
 |.lst xs,_,h=>by
  unfold cf at h ⊢;obtain⟨a,vs,e1,h1,h2⟩:=h;exact⟨a,vs,e1,e.seq h1,aN.mono e h2⟩
 |.dct _ ds,_,h=>by
  unfold cf at h ⊢;obtain⟨a,vs,e1,h1,h2⟩:=h;refine⟨a,vs,e1,aN.mono e h1,?_⟩;rcases h2 with⟨kvs,h2,h3⟩|⟨kvs,h2,h3⟩|⟨kvs,o,h2,h3⟩
  ·exact .inl ⟨kvs,e _ _ h2,h3⟩
  ·exact .inr (.inl ⟨kvs,e _ _ h2,h3⟩)
  ·exact .inr (.inr ⟨kvs,o,e _ _ h2,h3⟩)
 |.obj _ _ ds,_,h=>by
  unfold cf at h ⊢;obtain⟨a,vs,e1,h1,h2,C,dx,h3,h4⟩:=h;exact⟨a,vs,e1,aN.mono e h1,h2,C,dx,h3,e _ _ h4⟩
 |.exc _ _ ds,_,h=>by
  unfold cf at h ⊢;obtain⟨a,vs,e1,h1,h2,C,dx,h3,h4,h5⟩:=h;exact⟨a,vs,e1,aN.mono e h1,h2,C,dx,h3,e _ _ h4,h5.imp id λ⟨d,q1,q2⟩=>⟨d,q1,e _ _ q2⟩⟩
theorem aN.mono{K:Sn}{H H':Hp}(e:aQ H H'):∀{ds:List D}{vs:aI},aN K H ds vs->aN K H' ds vs
 |[],_,h=>by unfold aN at h ⊢;exact h
 |x::xs,_,h=>by
  unfold aN at h ⊢;obtain⟨v,r,e1,h1,h2⟩:=h;exact⟨v,r,e1,cf.mono e h1,aN.mono e h2⟩
end
section
variable{K:Sn}{H:Hp}
theorem jm{v:V}:cf K H .non v↔v=.non:=by unfold cf;rfl
theorem ju{b:Bool}{v:V}:cf K H (.bl b) v↔v=.bl b:=by unfold cf;rfl
theorem eZ{i:Int}{v:V}:cf K H (.int i) v↔v=.int i:=by unfold cf;rfl
theorem eV{x:Str}{v:V}:cf K H (.str x) v↔v=.str x:=by unfold cf;rfl
theorem cg{xs:List D}{v:V}:cf K H (.tup xs) v↔∃a vs,v=.ref a/\H a=some (.tup vs)/\aN K H xs vs:=by unfold cf;rfl
theorem b7{xs:List D}{v:V}:cf K H (.lst xs) v↔∃a vs,v=.ref a/\lI K H a vs/\aN K H xs vs:=by unfold cf;rfl
theorem KN{ks ds : List D}{v : V}: cf K H (.dct ks ds) v ↔ ∃ a vs, v = .ref a /\ aN K H ds vs /\ ((∃ kvs : List (Key × V), H a = some (.dK kvs) /\ ks = kvs.map (fun p => dU p.1) /\ vs = kvs.map (·.2)) \/
      (∃kvs:List (List Key×V),H a=some (.dT kvs)/\ks=kvs.map (λp=>.tup (p.1.map dU))/\vs=kvs.map (·.2)) \/
      ∃(kvs:List (List Key×V))(o:Obj),H a=some (.frz o (.dT kvs))/\ks=.non::kvs.map (λp=>.tup (p.1.map dU))/\vs=kvs.map (·.2)):=by unfold cf;rfl
theorem Ku{c:Str}{fs:ax}{ds:List D}{v:V}:cf K H (.obj c fs ds) v↔∃a vs,v=.ref a/\aN K H ds vs/\fs.length=vs.length/\∃C dx,clsAt K c C/\H a=some (.ins C dx (fs.zip vs)):=by unfold cf;rfl
theorem Kt{c:Str}{fs:ax}{ds:List D}{v:V}:cf K H (.exc c fs ds) v↔∃a vs,v=.ref a/\aN K H ds vs/\fs.length=vs.length/\∃C dx,clsAt K c C/\H a=some (.ext (u6 C a dx))/\(fs=[]\/∃d,dx=some d/\H d=some (.xd (fs.zip vs))):=by unfold cf;rfl
theorem cj{vs:aI}:aN K H [] vs↔vs=[]:=by unfold aN;rfl
theorem aX{x:D}{xs:List D}{vs:aI}:aN K H (x::xs) vs↔∃v r,vs=v::r/\cf K H x v/\aN K H xs r:=by conv=>lhs;unfold aN
theorem aN.length:∀{ds:List D}{vs:aI},aN K H ds vs->ds.length=vs.length
 |[],_,h=>by rw[cj]at h;rw[h];rfl
 |_::xs,_,h=>by
  rw[aX]at h;obtain⟨v,r,e,_,h⟩:=h;rw[e,Qv,Qv,aN.length h]
theorem aN.get:∀{ds:List D}{vs:aI}{i:Nat}{d:D},aN K H ds vs->ds[i]?=some d->∃v,vs[i]?=some v/\cf K H d v
 |[],_,_,_,_,e=>by simp at e
 |x::xs,_,0,d,h,e=>by
  rw[aX]at h;obtain⟨v,r,rfl,h1,_⟩:=h;simp at e;subst e;exact⟨v,rfl,h1⟩
 |x::xs,_,i+1,d,h,e=>by
  rw[aX]at h;obtain⟨v,r,rfl,_,h2⟩:=h;obtain⟨w,e1,e2⟩:=aN.get (i:=i) h2 (by simpa using e);exact⟨w,by simpa using e1,e2⟩
theorem aN.append:∀{ds es:List D}{vs ws:aI},aN K H ds vs->aN K H es ws->aN K H (ds++es) (vs++ws)
 |[],_,_,_,h,h'=>by rw[cj]at h;subst h;exact h'
 |x::xs,_,_,_,h,h'=>by
  rw[aX]at h;obtain⟨v,r,rfl,h1,h2⟩:=h;rw[QZ,aX];exact⟨v,_,rfl,h1,aN.append h2 h'⟩
theorem aN.take:∀{ds:List D}{vs:aI}(n:Nat),aN K H ds vs->aN K H (ds.take n) (vs.take n)
 |_,_,0,_=>by rw[Ra,Ra,cj]
 |[],_,_+1,h=>by rw[cj]at h;subst h;rw[List.take_nil,List.take_nil,cj]
 |x::xs,_,n+1,h=>by
  rw[aX]at h;obtain⟨v,r,rfl,h1,h2⟩:=h;rw[Rb,Rb,aX];exact⟨v,_,rfl,h1,aN.take n h2⟩
theorem aN.drop:∀{ds:List D}{vs:aI}(n:Nat),aN K H ds vs->aN K H (ds.drop n) (vs.drop n)
 |_,_,0,h=>by rw[Rc,Rc];exact h
 |[],_,_+1,h=>by rw[cj]at h;subst h;rw[List.drop_nil,List.drop_nil,cj]
 |x::xs,_,n+1,h=>by
  rw[aX]at h;obtain⟨v,r,rfl,h1,h2⟩:=h;rw[Rf,Rf];exact aN.drop n h2
theorem aN.snoc{ds:List D}{vs:aI}{d:D}{v:V}(h:aN K H ds vs)(h':cf K H d v):aN K H (ds++[d]) (vs++[v]):=
 h.append (aX.mpr ⟨v,[],rfl,h',cj.mpr rfl⟩)
theorem aN.one{d:D}{vs:aI}(h:aN K H [d] vs):∃v,vs=[v]/\cf K H d v:=by
 rw[aX]at h;obtain⟨v,r,rfl,h1,h2⟩:=h;rw[cj]at h2;subst h2;exact⟨v,rfl,h1⟩
theorem aN.two{d e:D}{vs:aI}(h:aN K H [d,e] vs):∃v w,vs=[v,w]/\cf K H d v/\cf K H e w:=by
 rw[aX]at h;obtain⟨v,r,rfl,h1,h2⟩:=h;obtain⟨w,rfl,h3⟩:=h2.one;exact⟨v,w,rfl,h1,h3⟩
theorem rV:∀ns:List Int,aN K H (ns.map D.int) (ns.map V.int)
 |[]=>cj.mpr rfl
 |n::ns=>aX.mpr ⟨_,_,rfl,eZ.mpr rfl,rV ns⟩
end
noncomputable def hid(H:Hp)(O:aH):Hp:=λb=>if b∈O then none else H b
theorem aB(H:Hp)(O:aH):aQ (hid H O) H:=λb o h=>by
 unfold hid at h;split at h
 ·cases h
 ·exact h
theorem bQ{H H':Hp}{O:aH}(e:aQ H H'):aQ (hid H O) (hid H' O):=λb o h=>by
 unfold hid at h ⊢;by_cases hb:b∈O
 ·rw[if_pos hb]at h;cases h
 ·rw[if_neg hb]at h ⊢;exact e b o h
theorem gX{H:Hp}{O O':aH}(s:∀a∈O,a∈O'):aQ (hid H O') (hid H O):=λb o h=>by
 unfold hid at h ⊢;by_cases hb:b∈O'
 ·rw[if_pos hb]at h;cases h
 ·rw[if_neg hb]at h;rw[if_neg λz=>hb (s b z)];exact h
theorem D7(H:Hp):hid H []=H:=by funext b;unfold hid;simp
theorem xE{H:Hp}{O:aH}{p:T7}{o:HO}(h:H p=none):aQ (hid H O) (hid (upd H p o) O):=λb u q=>by
 unfold hid at q ⊢;by_cases hb:b∈O
 ·rw[if_pos hb]at q;cases q
 ·rw[if_neg hb]at q ⊢;rw[aw (aP q h)];exact q
theorem cQ{H:Hp}{p:T7}(h:H p=none)(o:HO):aQ H (upd H p o):=λb u q=>by rw[aw (aP q h)];exact q
theorem jQ{H:Hp}{O:aH}{p:T7}(h:p∉O):hid H O p=H p:=by unfold hid;rw[if_neg h]
theorem kO{H:Hp}{O:aH}{p:T7}{o:HO}(h:p∈O):aQ (hid H O) (hid (upd H p o) O):=λb u q=>by
 unfold hid at q ⊢;by_cases hb:b∈O
 ·rw[if_pos hb]at q;cases q
 ·rw[if_neg hb]at q ⊢;rw[aw (λz=>hb (by rw[z];exact h))];exact q
inductive S where
 |val (d:D)|own (d:D)|nest (d:D)
noncomputable abbrev av:=List (Option S)
noncomputable def tV:HO->Prop
 |.lst _=>True
 |.dK _=>True
 |.dT _=>True
 |_=>False
class ay where
 tab:Hp->Prop
 same:∀{H H':Hp},tab H->aQ H H'->tab H'
 own:∀{H:Hp}{p:T7}{o o':HO},tab H->H p=some o->tV o->tab (upd H p o')
variable[ay]
noncomputable def dM(H:Hp)(O:aH):Prop:=ay.tab H/\∀a∈O,∃o,H a=some o/\tV o
theorem dM.not{H:Hp}{O:aH}(h:dM H O){p:T7}(n:H p=none):p∉O:=λz=>by
 obtain⟨vs,e,_⟩:=h.2 p z;rw[n]at e;cases e
theorem dM.same{H H':Hp}{O:aH}(h:dM H O)(e:aQ H H'):dM H' O:=⟨ay.same h.1 e,λa ha=>let ⟨vs,q,m⟩:=h.2 a ha;⟨vs,e _ _ q,m⟩⟩
theorem dM.upd{H:Hp}{O:aH}{p:T7}{o:HO}(h:dM H O)(hp:p∈O)(m:tV o):dM (L2.upd H p o) O:=⟨let ⟨_,q,r⟩:=h.2 p hp;ay.own h.1 q r,λa ha=>by
 by_cases z:a=p
 ·rw[z];exact⟨o,aA,m⟩
 ·obtain⟨u,q,r⟩:=h.2 a ha;exact⟨u,by rw[aw z];exact q,r⟩⟩
theorem dM.cons{H:Hp}{O:aH}{p:T7}{o:HO}(h:dM H O)(hp:H p=some o)(m:tV o):dM H (p::O):=⟨h.1,λa ha=>by
 rcases List.mem_cons.mp ha with z|z
 ·rw[z];exact⟨o,hp,m⟩
 ·exact h.2 a z⟩
noncomputable def ka(K:Sn)(H:Hp)(O:aH)(a:T7)(d:D):Prop:=∃o vs,H a=some o/\match d with
 |.lst xs=>o=.lst vs/\aN K (hid H O) xs vs
 |.dct ks ds=>aN K (hid H O) ds vs/\((∃kvs:List (Key×V),o=.dK kvs/\ks=kvs.map (λp=>dU p.1)/\vs=kvs.map (·.2)) \/
   ∃kvs:List (List Key×V),o=.dT kvs/\ks=kvs.map (λp=>.tup (p.1.map dU))/\vs=kvs.map (·.2))
 |_=>False
theorem ka.mono{K:Sn}{H H':Hp}{O O':aH}{a:T7}{d:D}(h:ka K H O a d)(e:H a=H' a)(s:aQ (hid H O) (hid H' O')):ka K H' O' a d:=by
 obtain⟨o,vs,h1,h2⟩:=h;refine⟨o,vs,by rw[<-e];exact h1,?_⟩;cases d with
 |lst xs=>exact⟨h2.1,h2.2.mono s⟩
 |dct ks ds=>exact⟨h2.1.mono s,h2.2⟩
 |_=>exact h2
theorem ka.some{K:Sn}{H:Hp}{O:aH}{a:T7}{d:D}(h:ka K H O a d):∃o,H a=some o:=let ⟨o,_,e,_⟩:=h;⟨o,e⟩
theorem ka.den{K:Sn}{H:Hp}{O O':aH}{a:T7}{d:D}(h:ka K H O a d)(s:aQ (hid H O) (hid H O'))(ha:a∉O'):cf K (hid H O') d (.ref a):=by
 obtain⟨o,vs,h1,h2⟩:=h;have h1':hid H O' a=Option.some o:=by rw[jQ ha];exact h1
 cases d with
 |lst xs=>
  obtain⟨e,g⟩:=h2;subst e;exact b7.mpr ⟨a,vs,rfl,lI.of h1',g.mono s⟩
 |dct ks ds=>
  obtain⟨g,q⟩:=h2;refine KN.mpr ⟨a,vs,rfl,g.mono s,?_⟩;rcases q with⟨kvs,e,q⟩|⟨kvs,e,q⟩
  ·subst e;exact .inl ⟨kvs,h1',q⟩
  ·subst e;exact .inr (.inl ⟨kvs,h1',q⟩)
 |_=>exact h2.elim
structure dz(K:Sn)(O:aH)(H:Hp)(ρ:av)(σ:St):Prop where
 val:∀(i:Nat) d,ρ[i]?=some (some (.val d))->∃v,σ[i]?=some (some v)/\cf K (hid H O) d v
 own:∀(i:Nat) d,ρ[i]?=some (some (.own d))->∃a,σ[i]?=some (some (.ref a))/\a∈O/\ka K H O a d
 one:∀(i j:Nat) xs ys a,ρ[i]?=some (some (.own xs))->ρ[j]?=some (some (.own ys))->σ[i]?=some (some (.ref a))->σ[j]?=some (some (.ref a))->i=j
 all:dM H O
theorem xU{H H':Hp}(e:aQ H H'){a:T7}{o:HO}(h:H a=some o):H a=H' a:=by rw[h,e _ _ h]
theorem dz.same{K:Sn}{O:aH}{H H':Hp}{ρ:av}{σ:St}(h:dz K O H ρ σ)(e:aQ H H'):dz K O H' ρ σ:=
  ⟨fun i d q=>let ⟨v,a,b⟩:=h.val i d q; ⟨v,a,b.mono (bQ e)⟩,
   λi xs q=>let ⟨a,q1,q2,q3⟩:=h.own i xs q;⟨a,q1,q2,q3.mono (let ⟨_,z⟩:=q3.some;xU e z) (bQ e)⟩,h.one,h.all.same e⟩
structure Ex where
 c:Str
 fs:ax
 vs:List D
noncomputable abbrev R(α:Type):=Except (Option Ex) α
noncomputable abbrev aO:=av->R (List D)
noncomputable abbrev bZ:=av->R Bool
noncomputable abbrev bD:=List D->R D
noncomputable abbrev un{α:Type}:R α:=.error none
noncomputable def rO{α:Type}:Option α->R α
 |some a=>.ok a
 |none=>.error none
noncomputable def IY(K:Sn)(Hd:Hp)(x:Ex)(C:T7)(dx:iq):Prop:=clsAt K x.c C/\∃ws,aN K Hd x.vs ws/\x.fs.length=ws.length/\(x.fs=[]\/∃d,dx=some d/\Hd d=some (.xd (x.fs.zip ws)))
theorem IY.mono{K:Sn}{H H':Hp}{x:Ex}{C:T7}{dx:iq}(h:IY K H x C dx)(e:aQ H H'):IY K H' x C dx:=by
 obtain⟨h1,ws,h2,h3,h4⟩:=h;exact⟨h1,ws,h2.mono e,h3,h4.imp id λ⟨d,q1,q2⟩=>⟨d,q1,e _ _ q2⟩⟩
end TG
namespace TG
open PySem PySem.Spec L2
variable[ay]
open PyProof.Rows (AllBare)
theorem wB{P:Uc}{w:Ub}{H:Hp}{h:Ue}{a:T7}{o:HO}(x:cq P w H h a o):∃u,h.get? a=some u:=by
 cases o with
 |lst xs=>obtain⟨_,_,_,_,e⟩:=x;exact⟨_,e⟩
 |tup xs=>obtain⟨_,_,_,o,e,_⟩:=x;exact⟨_,e⟩
 |dK kvs=>obtain⟨_,_,_,_,o,_,_,e,_⟩:=x;exact⟨_,e⟩
 |dT kvs=>obtain⟨_,_,_,_,o,_,_,e,_⟩:=x;exact⟨_,e⟩
 |set S n=>obtain⟨o,_,_,_,e,_⟩:=x;exact⟨_,e⟩
 |ins C dx fs=>obtain⟨_,_,_,e,_⟩:=x;exact⟨_,e⟩
 |own y=>exact x
 |xd fs=>obtain⟨_,⟨_,_,_,e,_⟩,_⟩:=x;exact⟨_,e⟩
 |rng lo hi=>obtain⟨_,_,_,e⟩:=x;exact⟨_,e⟩
 |frz ob u=>obtain⟨e,_⟩:=x;exact⟨_,e⟩
 |tbl ps=>exact⟨_,(show h.get? a=some _ from x)⟩
 |met f y=>exact⟨_,(show h.get? a=some _ from x)⟩
 |ext φ=>obtain⟨_,e,_⟩:=x;exact e
noncomputable def jl(X:Cx)(H:Hp)(b:T7):Prop:=((∃o,X.s₀.heap.get? b=some o)/\b∉X.ex)\/H b≠none\/(∃o,(b,o)∈X.pn)\/∃x,X.env.cells.lookup x=some b
noncomputable def Ow(B:Ue)(e:T7)(cls a0:T5)(h:Ue):Prop:=h.TracedW B e cls a0\/∃oe vs,h.get? e=some oe/\oe.cls=cls/\oe.data=.fields vs/\vs[1]?=some .none/\vs[0]?=some a0
noncomputable def uY(X:Cx)(H:Hp)(s:Ua)(e C:T7)(dx:iq):Prop:=(∀oe,s.heap.get? e=some oe->oe.dict=dx)/\∃B a0,B.StaysIn s.heap/\B.get? e=none/\s.heap.FunFrames B X.stack/\Ow B e (.ref C) a0 s.heap/\∀b o,s.heap.get? b=some o->jl X H b->b∉frs X.stack->B.get? b=some o
noncomputable def Ph(X:Cx)(H:Hp)(O:aH)(s:Ua)(u:T5)(x:Ex):Prop:=∃e C dx,u=.ref e/\IY X.K (hid H O) x C dx/\uY X H s e C dx
noncomputable def kX(P:Uc)(w:Ub):vB:=λouter H s E u s'=>∃e C dx H' B a0,u=.ref e/\(∀oe,s'.heap.get? e=some oe->oe.dict=dx)/\s'.os=s.os/\AllBare s'.gens/\Un (frs outer) [] H H' s.heap s'.heap/\oi P w H' s'.heap/\Tv B outer e (.ref C) a0 s'.heap/\
 (∀b o,s'.heap.get? b=some o->((∃o',s.heap.get? b=some o')\/H' b≠none)->b∉frs outer->B.get? b=some o)/\E (.ref C) dx H'
noncomputable def NB(K:Sn)(H:Hp)(O:aH)(x:Ex)(E:XK):Prop:=∀C dx H',aQ H H'->IY K (hid H' O) x C dx->E (.ref C) dx H'
noncomputable def GZ(X:Cx)(σ:St)(O:aH)(H:Hp)(x:Ex):Prop:=∀pins s u H',Inv X pins σ H' s->aQ H H'->Ph X H' O s u x->X.xe u s
theorem GZ.mono{X:Cx}{σ:St}{O:aH}{H H':Hp}{x:Ex}(h:GZ X σ O H x)(s:aQ H H'):GZ X σ O H' x:=λpins st u H2 I s2 f=>h pins st u H2 I (s.trans s2) f
noncomputable def xu(X:Cx)(O:aH)(H:Hp)(x:Ex):XK:=λu dx H'=>∃C,u=.ref C/\aQ H H'/\IY X.K (hid H' O) x C dx
noncomputable def iN(CX:vB)(X:Cx)(σ:St)(E:XK):Prop:=∀(pins:aU)(H:Hp)(s:Ua)(e:T5)(s':Ua),Inv X pins σ H s->CX X.stack H s E e s'->X.xe e s'
theorem wM{X:Cx}{σ:St}{O:aH}{H:Hp}{x:Ex}(h:GZ X σ O H x):iN (kX X.prog X.w) X σ (xu X O H x):=by
 rintro pins H1 s u s' I ⟨e,C,dx,H',B,a0,rfl,hdx,os,bare,un,hok,⟨f1,f2,f3,f4⟩,kp,C',eC,sm,hd⟩;cases eC;have I':Inv X pins σ H' s':=I.call' os un hok bare (ch:=[]) λb z=>absurd z (by simp);refine h pins s' _ H' I' sm ⟨e,C,dx,rfl,hd,hdx,B,a0,f1,f2,f3,.inl f4,λb o eb hb nf=>kp b o eb ?_ nf⟩;rcases hb with⟨⟨o',hb⟩,nx⟩|hb|⟨o',hb⟩|⟨y,hb⟩
 ·exact .inl (I.base.there b o' hb nx)
 ·exact .inr hb
 ·exact .inl ⟨_,(I.pin _ (Qm _ hb)).1⟩
 ·obtain⟨v,o,q,_⟩:=I.cell y b hb;exact .inl ⟨o,q⟩
theorem xH{X:Cx}{σ:St}:iN (kX X.prog X.w) X σ E0:=λ_ _ _ _ _ _ h=>by
 obtain⟨_,_,_,_,_,_,_,_,_,_,_,_,_,_,z⟩:=h;exact z.elim
theorem vc{X:Cx}{O:aH}{H:Hp}{x:Ex}:NB X.K H O x (xu X O H x):=λC dx H' s e=>⟨C,rfl,s,e⟩
section
variable{X:Cx}{pins:aU}{σ:St}{H:Hp}{s:Ua}{h':Ue}
theorem xW(I:Inv X pins σ H s)(k:∀b o,s.heap.get? b=some o->jl X H b->b∉frs X.stack->h'.get? b=some o):oi X.prog X.w H h':=λa ob ea=>
 (I.hok a ob ea).stay (λb u hb q=>by
  have hn:H b≠none:=by
   rcases hb with e|e
   ·rw[e,ea];intro z;cases z
   ·rw[e];intro z;cases z
  exact k b u q (.inr (.inl hn)) λhf=>hn (I.stkFree b hf)) (λ_ q=>q) λ_ _ q=>q
theorem sJ(I:Inv X pins σ H s)(us:s.heap.UpToSlots h'){b:T7}{o:Obj}(hb:b∈frs X.stack)(e:s.heap.get? b=some o):∃sl,h'.get? b=some {o with slots:=sl}:=by
 obtain⟨_,o',e',nf⟩:=I.stack.mem hb;rw[e]at e';cases e';exact us b o e nf
theorem Ci(I:Inv X pins σ H s)(hx:X.ex=[])(hst:X.stack=X.env::X.outer)(hf:X.env.frame=some X.env.locals)(us:s.heap.UpToSlots h')(k:∀b o,s.heap.get? b=some o->jl X H b->b∉frs X.stack->h'.get? b=some o):
  Un (frs X.outer) [] X.H₀ H X.s₀.heap h':=by
 have U:=I.base;rw[hx]at U;have fr:frs X.stack=X.env.locals::frs X.outer:=by rw[hst];show List.filterMap _ (_::_)=_;rw[Qj,hf];rfl
 have nl:∀b o,X.s₀.heap.get? b=some o->b≠X.env.locals:=λb o q z=>by
  have h1:=To q;have h2:=I.ok.above;rw[z]at h1;exact Qf _ (Qe h1 h2)
 have nfr:∀b o,X.s₀.heap.get? b=some o->b∉frs X.outer->b∉frs X.stack:=λb o q nb z=>by
  rw[fr]at z;rcases List.mem_cons.mp z with z|z
  ·exact nl b o q z
  ·exact nb z
 refine⟨λb o q n nb _=>k b o (U.keep b o q n nb (by simp)) (.inl ⟨⟨o,q⟩,by rw[hx];simp⟩) (nfr b o q nb),λb o q n hb _=>?_,λb o q n _=>U.free b o q n (by simp),λb o q _=>?_,U.tups,U.frzs,U.tbls⟩
 ·obtain⟨sl,e⟩:=U.slot b o q n hb (by simp);obtain⟨sl',e'⟩:=sJ I us (by rw[fr];exact Ql _ hb) e;exact⟨sl',e'⟩
 ·obtain⟨o1,e1⟩:=U.there b o q (by simp);by_cases hb:b∈frs X.stack
  ·obtain⟨sl,e⟩:=sJ I us hb e1;exact⟨_,e⟩
  ·exact⟨o1,k b o1 e1 (.inl ⟨⟨o,q⟩,by rw[hx];simp⟩) hb⟩
end
theorem Ig{P:Uc}{w:Ub}{K:Sn}{mg:bU}{base:Ue}{N:ax}{qual:Str}{scope:Uk}{f:T7}{cd:T5}{A:Uj}{outer:List Env}{s:Ua}{H:Hp}{E:XK}{σ:St}{O O':aH}{H':Hp}{x:Ex}
  (hx:NB K H O x E) (sm:aQ H H') (hs:∀a∈O,a∈O'):GZ (jg (kX P w) P w K mg base N qual scope f cd A outer s H E) σ O' H' x:=by
 rintro pins s1 u H1 I s2 ⟨e,C,dx,rfl,hd,hdx,B,a0,b1,b2,b3,b4,b5⟩;have fin:∀h',Tv B outer e (.ref C) a0 h'->s1.heap.UpToSlots h'->DS s1.heap h'->kX P w outer H s E (.ref e) {s1 with heap:=h'}:=λh' fl us ds=>by
  have k:∀b o,s1.heap.get? b=some o->jl (jg (kX P w) P w K mg base N qual scope f cd A outer s H E) H1 b->b∉frs (jg (kX P w) P w K mg base N qual scope f cd A outer s H E).stack->h'.get? b=some o:=λb o q kb nf=>fl.1 b o (b5 b o q kb nf);have un:=Ci I rfl rfl rfl us k;have hok:=xW I k;refine⟨e,C,dx,H1,B,a0,rfl,λoe' q=>?_,I.os,I.bare,un,hok,fl,λb o q hb nf=>?_,hx C dx H1 (sm.trans s2) (hd.mono (gX hs))⟩
  ·obtain⟨oe,q1⟩:∃oe,s1.heap.get? e=some oe:=by
    rcases b4 with⟨oe,_,_,_,_,h1,_⟩|⟨oe,_,h1,_⟩
    ·exact⟨oe,h1⟩
    ·exact⟨oe,h1⟩
   exact(ds.dict q1 q).trans (hdx oe q1)
  have nf2:b∉frs (jg (kX P w) P w K mg base N qual scope f cd A outer s H E).stack:=λz=>by
   rcases List.mem_cons.mp (show b∈s.heap.objs.size::frs outer from z)with z|z
   ·rcases hb with hb|hb
    ·obtain⟨o',hb⟩:=hb
     have:=To hb
     rw[z]at this;exact Qf _ this
    ·rw[z]at hb;exact hb I.free
   ·exact nf z
  have kb:jl (jg (kX P w) P w K mg base N qual scope f cd A outer s H E) H1 b:=hb.elim (λz=>.inl ⟨z,λy=>nomatch y⟩) λz=>.inr (.inl z);obtain⟨o1,e1⟩:∃o1,s1.heap.get? b=some o1:=by
   rcases hb with⟨o',hb⟩|hb
   ·exact I.base.there b o' hb (λz=>nomatch z)
   ·cases q0:H1 b with
    |none=>exact absurd q0 hb
    |some ob=>exact wB (I.hok b ob q0)
  have:=k b o1 e1 kb nf2
  rw[q]at this;cases this;exact b5 b _ e1 kb nf2
 show Um _ _ (leaving (TH qual scope s.heap.objs.size f cd) (.ref e)) _ _ s1;refine DP.go (vE _ _) (P:=λh'=>Tv B outer e (.ref C) a0 h'/\s1.heap.UpToSlots h') ?_ λh' z ds=>fin h' z.1 z.2 ds;rcases b4 with b4|⟨oe,vs,c1,c2,c3,c4,c5⟩
 ·exact wpAny_leaves_onW I.ok.frames rfl ⟨b1,b2,b3,b4⟩ λh' fl us=>⟨h',rfl,fl,us⟩
 ·refine wpAny_leaving_firstW I.ok.frames b3 rfl c1 b1 b2 c3 c4 c5 λh' hL=>?_;obtain⟨k1,⟨_,_,k2⟩,k3,k4⟩:=hL;exact⟨h',rfl,⟨k1,b2,k2,c2 ▸ k3⟩,k4⟩
end TG
namespace TG
open PySem PySem.Spec L2
variable[ay]
noncomputable def fi(X:Cx)(σ:St)(O:aH)(H:Hp){α:Type}(r:R α)(Q:α->Prop):Prop:=match r with
 |.ok a=>Q a
 |.error (some x)=>GZ X σ O H x
 |.error none=>False
section
variable{X:Cx}{σ:St}{O:aH}{H H':Hp}{α β:Type}
theorem fi.bind{r:R α}{G:α->R β}{Q:β->Prop}(h:fi X σ O H (r.bind G) Q):fi X σ O H r λa=>fi X σ O H (G a) Q:=by
 match r,h with
 |.ok a,h=>exact h
 |.error (some x),h=>exact h
 |.error none,h=>exact h
theorem fi.imp{r:R α}{Q Q':α->Prop}(h:fi X σ O H r Q)(f:∀a,Q a->Q' a):fi X σ O H r Q':=by
 match r,h with
 |.ok a,h=>exact f a h
 |.error (some x),h=>exact h
 |.error none,h=>exact h
theorem fi.mono{r:R α}{Q:α->Prop}(h:fi X σ O H r Q)(s:aQ H H'):fi X σ O H' r Q:=by
 match r,h with
 |.ok a,h=>exact h
 |.error (some x),h=>exact GZ.mono h s
 |.error none,h=>exact h
theorem fi.rO{o:Option α}{Q:α->Prop}(h:fi X σ O H (rO o) Q):∃a,o=some a/\Q a:=by
 match o,h with
 |some a,h=>exact⟨a,rfl,h⟩
 |none,h=>exact h.elim
end
noncomputable abbrev FX:=av->R D
noncomputable def tF(X:Cx)(F:FX):TE:=λσ H Q=>∃O ρ,dz X.K O H ρ σ/\fi X σ O H (F ρ) λd=>∀v H',aQ H H'->cf X.K (hid H' O) d v->Q v H'
noncomputable def KR(X:Cx)(F:bZ):TT:=λσ H Q=>∃O ρ,dz X.K O H ρ σ/\fi X σ O H (F ρ) λb=>∀H',aQ H H'->Q b H'
noncomputable def L7(X:Cx)(F:aO):TA:=λσ H Q=>∃O ρ,dz X.K O H ρ σ/\fi X σ O H (F ρ) λds=>∀vs H',aQ H H'->aN X.K (hid H' O) ds vs->Q vs H'
noncomputable def FE(X:Cx)(e:T8)(F:FX):Prop:=PE X e (tF X F)
noncomputable def FT(X:Cx)(e:T8)(F:bZ):Prop:=PT X e (KR X F)
noncomputable def FW(X:Cx)(e:T8)(F:bZ):Prop:=PW X e (KR X F)
noncomputable def FA(X:Cx)(es:bi)(F:aO):Prop:=PA X es (L7 X F)
theorem PE.weak{X:Cx}{e:T8}{t t':TE}(h:PE X e t)(w:∀σ H Q,t' σ H Q->t σ H Q):PE X e t':=λpins s σ H Q I q=>h pins s σ H Q I (w σ H Q q)
theorem PT.weak{X:Cx}{e:T8}{t t':TT}(h:PT X e t)(w:∀σ H Q,t' σ H Q->t σ H Q):PT X e t':=λpins s σ H Q I q=>h pins s σ H Q I (w σ H Q q)
theorem PW.weak{X:Cx}{e:T8}{t t':TT}(h:PW X e t)(w:∀σ H Q,t' σ H Q->t σ H Q):PW X e t':=λwhole pins s σ H Q I q=>h whole pins s σ H Q I (w σ H Q q)
theorem PA.weak{X:Cx}{es:bi}{t t':TA}(h:PA X es t)(w:∀σ H Q,t' σ H Q->t σ H Q):PA X es t':=λpos pins s σ H Q I q=>h pos pins s σ H Q I (w σ H Q q)
theorem PS.weak{X:Cx}{st:T9}{t t':TS}(h:PS X st t)(w:∀D σ H,t' D σ H->t D σ H):PS X st t':=λpins s σ H Q I q=>h pins s σ H Q I (w Q σ H q)
theorem uf.weak{X:Cx}{st:dE}{t t':TS}(h:uf X st t)(w:∀D σ H,t' D σ H->t D σ H):uf X st t':=λpins s σ H Q I q=>h pins s σ H Q I (w Q σ H q)
noncomputable def qC(ρ:av)(i:Nat):R D:=match ρ[i]? with
 |some (some (.val d))=>.ok d
 |_=>un
theorem Fl{ρ:av}{i:Nat}{d:D}(h:qC ρ i=.ok d):ρ[i]?=some (some (.val d)):=by
 unfold qC at h;split at h
 ·rename_i e;cases h;exact e
 ·cases h
noncomputable def af(i:Nat):FX:=λρ=>qC ρ i
noncomputable def fC(d:D):FX:=λ_=>.ok d
section
variable{X:Cx}
theorem zW{σ:St}{O:aH}{H:Hp}{ρ:av}{i:Nat}{Q:D->Prop}(h:fi X σ O H (qC ρ i) Q):∃d,ρ[i]?=some (some (.val d))/\Q d:=by
 cases e:qC ρ i with
 |ok d=>rw[e]at h;exact⟨d,Fl e,h⟩
 |error z=>
  rw[e]at h;cases z with
  |none=>exact h.elim
  |some x=>
   exfalso;unfold qC at e;split at e
   ·cases e
   ·have:=Except.error.inj e;cases this
theorem j8{e:T8}{d:D}{v:V}(h:PE X e (tC v))(hd:∀K H,cf K H d v):FE X e (fC d):=
 PE.weak h λσ H Q ⟨O,ρ,E,q⟩=>q v H (aQ.refl H) (hd _ _)
noncomputable def noStar:T8->Bool
 |.Starred _ _=>false
 |_=>true
theorem bS{e:T8}{es:bi}{env:Env}(h:noStar e=true):Uo (e::es) env=(false,eval e env)::Uo es env:=by
 cases e<;>first|rfl|cases h
theorem cG{pos:Pos}{env:Env}:∀{es:bi},es.all noStar=true->(backTo pos (Uo es env)).any (·.1)=false
 |[],_=>rfl
 |e::es,h=>by
  rw[Rg,QN]at h;rw[bS h.1];exact cG h.2
noncomputable def ah:aO:=λ_=>.ok []
noncomputable def aa(f:FX)(g:aO):aO:=λρ=>(f ρ).bind λx=>(g ρ).bind λxs=>.ok (x::xs)
theorem Nf:FA X [] ah:=PA.weak mZ λσ H Q ⟨O,ρ,E,q⟩=>q [] H (aQ.refl H) (cj.mpr rfl)
theorem bind_some{α β:Type}{o:Option α}{f:α->Option β}{b:β}(h:o.bind f=some b):∃a,o=some a/\f a=some b:=by
 cases o with
 |none=>cases h
 |some a=>exact⟨a,rfl,h⟩
theorem oH{ε α β:Type}{o:Except ε α}{f:α->Except ε β}{b:β}(h:o.bind f=.ok b):∃a,o=.ok a/\f a=.ok b:=by
 cases o with
 |error _=>cases h
 |ok a=>exact⟨a,rfl,h⟩
theorem Kq{e:T8}{es:bi}{f:FX}{g:aO}(he:FE X e f)(hs:FA X es g)(hns:noStar e=true:=by rfl):FA X (e::es) (aa f g):=
 PA.weak (fS he hs (bS hns)) λσ H Q ⟨O,ρ,E,h⟩=>
  ⟨O,ρ,E,(fi.bind h).imp λx h v H1 s1 d1=>⟨O,ρ,E.same s1,((fi.bind h).mono s1).imp λxs q vs H2 s2 d2=>q (v::vs) H2 (s1.trans s2) (aX.mpr ⟨v,vs,rfl,d1.mono (bQ s2),d2⟩)⟩⟩
noncomputable def small(n:Nat):Bool:=decide (n<=100000)
theorem cD{n:Nat}(h:small n=true):n<=Ug:=Qh (of_decide_eq_true h) (by decide)
theorem lY{n:Nat}(h:n<=100000):small n=true:=decide_eq_true h
noncomputable def ql(xs:List D):bx:=if small xs.length then some (.tup xs)else none
noncomputable def n8(xs:List D):bx:=if small xs.length then some (.lst xs)else none
noncomputable def aT(g:aO):FX:=λρ=>(g ρ).bind λxs=>rO (ql xs)
noncomputable def dh(g:aO):FX:=λρ=>(g ρ).bind λxs=>rO (n8 xs)
theorem aY{α:Type}{c:Bool}{a b:α}(h:(if c then some a else none)=some b):c=true/\a=b:=by
 cases c with
 |true=>exact⟨rfl,Option.some.inj h⟩
 |false=>cases h
theorem eD{K:Sn}{H:Hp}{O:aH}{p:T7}{ds:List D}{vs:aI}(hO:dM H O)(hp:H p=none)(d:aN K (hid H O) ds vs):cf K (hid (upd H p (.tup vs)) O) (.tup ds) (.ref p):=
 cg.mpr ⟨p,vs,rfl,by rw[jQ (hO.not hp),aA],d.mono (xE hp)⟩
theorem kd{K:Sn}{H:Hp}{O:aH}{p:T7}{ds:List D}{vs:aI}(hO:dM H O)(hp:H p=none)(d:aN K (hid H O) ds vs):cf K (hid (upd H p (.lst vs)) O) (.lst ds) (.ref p):=
 b7.mpr ⟨p,vs,rfl,lI.of (by rw[jQ (hO.not hp),aA]),d.mono (xE hp)⟩
noncomputable def Ej(K:Sn)(r:V->Hp->VK->Prop)(g:D->bx):Prop:=
 ∀(a d:D)(x:V)(O:aH)(H:Hp)(Q:VK),dM H O->g a=some d->cf K (hid H O) a x->(∀v H',aQ H H'->cf K (hid H' O) d v->Q v H')->r x H Q
noncomputable def f1(g:D->bx)(f:FX):FX:=λρ=>(f ρ).bind λa=>rO (g a)
noncomputable def cZ(K:Sn)(r:R2)(g:D->D->bx):Prop:=
 ∀(a b d:D)(x y:V)(O:aH)(H:Hp)(Q:VK),dM H O->g a b=some d->cf K (hid H O) a x->cf K (hid H O) b y->(∀v H',aQ H H'->cf K (hid H' O) d v->Q v H')->r x y H Q
noncomputable def f2(g:D->D->bx)(f1 f2:FX):FX:=λρ=>(f1 ρ).bind λa=>(f2 ρ).bind λb=>rO (g a b)
theorem tm{r:R2}{g:D->D->bx}{fa fb:FX}(s:cZ X.K r g):∀σ H Q,tF X (f2 g fa fb) σ H Q->JM r (tF X fa) (tF X fb) σ H Q:=λσ H Q ⟨O,ρ,E,hF⟩=>
 ⟨O,ρ,E,(fi.bind hF).imp fun a hF x H1 s1 d1=>⟨O,ρ,E.same s1,((fi.bind hF).mono s1).imp fun b hF y H2 s2 d2=>by
  obtain⟨d,e,q⟩:=fi.rO hF;exact s a b d x y O H2 Q (E.all.same (s1.trans s2)) e (d1.mono (bQ s2)) d2 λv H3 s3 d3=>q v H3 ((s1.trans s2).trans s3) d3⟩⟩
noncomputable def Mh:D->Option Bool
 |.bl b=>some b
 |_=>none
noncomputable def fB(f:FX):bZ:=λρ=>(f ρ).bind λd=>rO (Mh d)
theorem pp{t:TE}{f:FX}(h:∀σ H Q,tF X f σ H Q->t σ H Q):∀σ H Q,KR X (fB f) σ H Q->Cb t σ H Q:=λσ H Q ⟨O,ρ,E,hF⟩=>
 h σ H _ ⟨O,ρ,E,(fi.bind hF).imp λd hF v H1 s1 d1=>by
  obtain⟨b,e,q⟩:=fi.rO hF;cases d with
  |bl b'=>
   cases e;exact⟨b,ju.mp d1,q H1 s1⟩
  |_=>cases e⟩
noncomputable def xX(K:Sn)(r:aI->Hp->VK->Prop)(g:List D->bx):Prop:=
 ∀(ds:List D)(d:D)(xs:aI)(O:aH)(H:Hp)(Q:VK),dM H O->g ds=some d->aN K (hid H O) ds xs->(∀v H',aQ H H'->cf K (hid H' O) d v->Q v H')->r xs H Q
noncomputable def fL(g:List D->bx)(f:aO):FX:=λρ=>(f ρ).bind λds=>rO (g ds)
noncomputable def fR(g:bD)(f:aO):FX:=λρ=>(f ρ).bind g
theorem B9{r:aI->Hp->VK->Prop}{g:List D->bx}{f:aO}(s:xX X.K r g):∀σ H Q,tF X (fL g f) σ H Q->Kx r (L7 X f) σ H Q:=λσ H Q ⟨O,ρ,E,hF⟩=>
 ⟨O,ρ,E,(fi.bind hF).imp fun ds hF vs H1 s1 d1=>by
  obtain⟨d,e,q⟩:=fi.rO hF;exact s ds d vs O H1 Q (E.all.same s1) e d1 λv H2 s2 d2=>q v H2 (s1.trans s2) d2⟩
noncomputable def mY(f:bZ):bZ:=λρ=>(f ρ).bind λb=>.ok (!b)
noncomputable def nG(f g:bZ):bZ:=λρ=>(f ρ).bind λb=>if b then g ρ else .ok false
noncomputable def vC(f g:bZ):bZ:=λρ=>(f ρ).bind λb=>if b then .ok true else g ρ
variable{a b c:T8}{rest:bi}{pos:Pos}{f g:bZ}
theorem FW.ft{e:T8}(h:FW X e f):FT X e f:=PW.pt h
noncomputable def truth:D->Option Bool
 |.non=>some false
 |.bl b=>some b
 |.int i=>some (i !=0)
 |.str x=>if small x.length then some (x.length !=0)else none
 |.tup xs=>some (!xs.isEmpty)
 |.lst xs=>some (!xs.isEmpty)
 |_=>none
noncomputable def aZ(f:FX):bZ:=λρ=>(f ρ).bind λd=>rO (truth d)
noncomputable def wA(d:D)(k:R D):R D:=match d with
 |.bl true=>k
 |.bl false=>.ok (.bl false)
 |_=>un
noncomputable def Kf(d:D)(k:R D):R D:=match d with
 |.bl false=>k
 |.bl true=>.ok (.bl true)
 |_=>un
noncomputable def Iq:D->bx
 |.bl b=>some (.bl (!b))
 |_=>none
noncomputable def iR(f g:FX):FX:=λρ=>(f ρ).bind λd=>wA d (g ρ)
noncomputable def Bk(f g:FX):FX:=λρ=>(f ρ).bind λd=>Kf d (g ρ)
noncomputable def uw(f:FX):FX:=f1 Iq f
variable{fa fb:FX}
noncomputable def vX(t:bZ)(f g:FX):FX:=λρ=>(t ρ).bind λc=>if c then f ρ else g ρ
end
end TG
namespace TG
open PySem PySem.Spec L2
variable[ay]
open PySem.SeqAt (EqAt RcAt RcNeAt)
mutual
noncomputable def pyEq:D->D->Bool
 |.non,.non=>true
 |.bl a,.bl b=>a==b
 |.bl a,.int b=>(if a then 1 else 0)==b
 |.int a,.bl b=>a==(if b then 1 else 0)
 |.int a,.int b=>a==b
 |.str a,.str b=>a==b
 |.tup xs,.tup ys=>iS xs ys
 |.lst xs,.lst ys=>iS xs ys
 |.dct _ _,.dct _ _=>true
 |.obj _ _ _,.obj _ _ _=>true
 |.exc _ _ _,.exc _ _ _=>true
 |_,_=>false
noncomputable def iS:List D->List D->Bool
 |[],[]=>true
 |x::xs,y::ys=>pyEq x y&&iS xs ys
 |_,_=>false
end
mutual
theorem nE:∀d:D,pyEq d d=true
 |.non=>by unfold pyEq;rfl
 |.bl b=>by unfold pyEq;simp
 |.int i=>by unfold pyEq;simp
 |.str x=>by unfold pyEq;simp
 |.tup xs=>by unfold pyEq;exact lJ xs
 |.lst xs=>by unfold pyEq;exact lJ xs
 |.dct _ _=>by unfold pyEq;rfl
 |.obj _ _ _=>by unfold pyEq;rfl
 |.exc _ _ _=>by unfold pyEq;rfl
theorem lJ:∀ds:List D,iS ds ds=true
 |[]=>by unfold iS;rfl
 |d::ds=>by unfold iS;rw[nE d,lJ ds];rfl
end
noncomputable def wK(xs ys:List D)(j:Nat):Bool:=match xs[j]?,ys[j]? with
 |some a,some b=>pyEq a b
 |_,_=>false
theorem fP:∀xs ys:List D,((List.range (min xs.length ys.length)).all (wK xs ys)&&xs.length==ys.length)=iS xs ys
 |[],[]=>by unfold iS;rfl
 |[],_::_=>by unfold iS;simp
 |_::_,[]=>by unfold iS;simp
 |x::xs,y::ys=>by
  have ih:=fP xs ys
  conv=>rhs;unfold iS
  rw[<-ih];have e:min (x::xs).length (y::ys).length=min xs.length ys.length+1:=by simp only[Qv];omega
  rw[e,Rh,Rg,List.all_map];have e2:((x::xs).length==(y::ys).length)=(xs.length==ys.length):=by simp
  rw[e2,Bool.and_assoc];have e3:(List.range (min xs.length ys.length)).all (wK (x::xs) (y::ys)∘Nat.succ)=(List.range (min xs.length ys.length)).all (wK xs ys):=by
   congr 1
  rw[e3];rfl
mutual
noncomputable def pl:D->Bool
 |.tup xs=>lu xs
 |.lst xs=>lu xs
 |.dct _ _=>false
 |.obj _ _ _=>false
 |.exc _ _ _=>false
 |_=>true
noncomputable def lu:List D->Bool
 |[]=>true
 |x::xs=>pl x&&lu xs
end
theorem fH{ks vs:List D}(h:pl (.dct ks vs)=true):False:=by unfold pl at h;cases h
theorem fz{c:Str}{fs:ax}{vs:List D}(h:pl (.obj c fs vs)=true):False:=by unfold pl at h;cases h
theorem fq{c:Str}{fs:ax}{vs:List D}(h:pl (.exc c fs vs)=true):False:=by unfold pl at h;cases h
theorem ik:∀{xs:List D},lu xs=true->∀x∈xs,pl x=true
 |[],_,_,h=>nomatch h
 |x::xs,h,y,hy=>by
  unfold lu at h;rw[QN]at h;rcases List.mem_cons.mp hy with z|z
  ·rw[z];exact h.1
  ·exact ik h.2 y z
theorem dN{xs:List D}:pl (.tup xs)=lu xs:=by rw[pl]
theorem dP{xs:List D}:pl (.lst xs)=lu xs:=by rw[pl]
noncomputable def cV:Nat->D->Bool
 |n+1,.tup xs=>xs.all (cV n)
 |n+1,.lst xs=>xs.all (cV n)
 |0,.tup _=>false
 |0,.lst _=>false
 |_,.dct _ _=>false
 |_,.obj _ _ _=>false
 |_,.exc _ _ _=>false
 |_,_=>true
section
variable{X:Cx}{pins:aU}{σ:St}{H:Hp}{s:Ua}
theorem Inv.not_both(I:Inv X pins σ H s){a:T7}{xs ys:aI}(h:n0 X.K H a xs)(h':lI X.K H a ys):False:=by
 obtain⟨its,_,ht,_⟩:=I.tuple h;obtain⟨its2,_,hl,_⟩:=I.list h';exact absurd rfl (SeqAt.ne_of_list_tuple hl.isList (show s.heap.IsTuple a its.toArray from ht))
mutual
theorem Inv.den_inj(I:Inv X pins σ H s):∀{a b:D}{v:V},pl a=true->pl b=true->cf X.K H a v->cf X.K H b v->a=b
 |.non,b,v,pa,pb,h,h'=>by
  rw[jm]at h;subst h;cases b with
  |non=>rfl
  |bl _=>rw[ju]at h';cases h'
  |int _=>rw[eZ]at h';cases h'
  |str _=>rw[eV]at h';cases h'
  |tup _=>rw[cg]at h';obtain⟨_,_,e,_⟩:=h';cases e
  |lst _=>rw[b7]at h';obtain⟨_,_,e,_⟩:=h';cases e
  |dct _ _=>exact(fH pb).elim
  |obj _ _ _=>exact(fz pb).elim
  |exc _ _ _=>exact(fq pb).elim
 |.bl x,b,v,pa,pb,h,h'=>by
  rw[ju]at h;subst h;cases b with
  |non=>rw[jm]at h';cases h'
  |bl _=>rw[ju]at h';cases h';rfl
  |int _=>rw[eZ]at h';cases h'
  |str _=>rw[eV]at h';cases h'
  |tup _=>rw[cg]at h';obtain⟨_,_,e,_⟩:=h';cases e
  |lst _=>rw[b7]at h';obtain⟨_,_,e,_⟩:=h';cases e
  |dct _ _=>exact(fH pb).elim
  |obj _ _ _=>exact(fz pb).elim
  |exc _ _ _=>exact(fq pb).elim
 |.int x,b,v,pa,pb,h,h'=>by
  rw[eZ]at h;subst h;cases b with
  |non=>rw[jm]at h';cases h'
  |bl _=>rw[ju]at h';cases h'
  |int _=>rw[eZ]at h';cases h';rfl
  |str _=>rw[eV]at h';cases h'
  |tup _=>rw[cg]at h';obtain⟨_,_,e,_⟩:=h';cases e
  |lst _=>rw[b7]at h';obtain⟨_,_,e,_⟩:=h';cases e
  |dct _ _=>exact(fH pb).elim
  |obj _ _ _=>exact(fz pb).elim
  |exc _ _ _=>exact(fq pb).elim
 |.str x,b,v,pa,pb,h,h'=>by
  rw[eV]at h;subst h;cases b with
  |non=>rw[jm]at h';cases h'
  |bl _=>rw[ju]at h';cases h'
  |int _=>rw[eZ]at h';cases h'
  |str _=>rw[eV]at h';cases h';rfl
  |tup _=>rw[cg]at h';obtain⟨_,_,e,_⟩:=h';cases e
  |lst _=>rw[b7]at h';obtain⟨_,_,e,_⟩:=h';cases e
  |dct _ _=>exact(fH pb).elim
  |obj _ _ _=>exact(fz pb).elim
  |exc _ _ _=>exact(fq pb).elim
 |.tup xs,b,v,pa,pb,h,h'=>by
  rw[cg]at h;obtain⟨a,vs,e,h1,h2⟩:=h;subst e;cases b with
  |non=>rw[jm]at h';cases h'
  |bl _=>rw[ju]at h';cases h'
  |int _=>rw[eZ]at h';cases h'
  |str _=>rw[eV]at h';cases h'
  |tup ys=>
   rw[cg]at h';obtain⟨a',vs',e,h1',h2'⟩:=h';cases e;have ev:=I.tuple_inj (n0.of h1) (n0.of h1');subst ev;rw[Inv.denL_inj I (by first|rw[<-dN];exact pa|rw[<-dP];exact pa) (by first|rw[<-dN];exact pb|rw[<-dP];exact pb) h2 h2']
  |lst _=>rw[b7]at h';obtain⟨_,_,e,h1',_⟩:=h';cases e;exact(Inv.not_both I (n0.of h1) h1').elim
  |dct _ _=>exact(fH pb).elim
  |obj _ _ _=>exact(fz pb).elim
  |exc _ _ _=>exact(fq pb).elim
 |.lst xs,b,v,pa,pb,h,h'=>by
  rw[b7]at h;obtain⟨a,vs,e,h1,h2⟩:=h;subst e;cases b with
  |non=>rw[jm]at h';cases h'
  |bl _=>rw[ju]at h';cases h'
  |int _=>rw[eZ]at h';cases h'
  |str _=>rw[eV]at h';cases h'
  |lst ys=>
   rw[b7]at h';obtain⟨a',vs',e,h1',h2'⟩:=h';cases e;have ev:=I.list_inj h1 h1';subst ev;rw[Inv.denL_inj I (by first|rw[<-dN];exact pa|rw[<-dP];exact pa) (by first|rw[<-dN];exact pb|rw[<-dP];exact pb) h2 h2']
  |tup _=>rw[cg]at h';obtain⟨_,_,e,h1',_⟩:=h';cases e;exact(Inv.not_both I (n0.of h1') h1).elim
  |dct _ _=>exact(fH pb).elim
  |obj _ _ _=>exact(fz pb).elim
  |exc _ _ _=>exact(fq pb).elim
 |.dct _ _,_,_,pa,_,_,_=>(fH pa).elim
 |.obj _ _ _,_,_,pa,_,_,_=>(fz pa).elim
 |.exc _ _ _,_,_,pa,_,_,_=>(fq pa).elim
theorem Inv.denL_inj(I:Inv X pins σ H s):∀{as bs:List D}{vs:aI},lu as=true->lu bs=true->aN X.K H as vs->aN X.K H bs vs->as=bs
 |[],bs,vs,pa,pb,h,h'=>by
  rw[cj]at h;subst h;cases bs with
  |nil=>rfl
  |cons b bs=>rw[aX]at h';obtain⟨_,_,e,_⟩:=h';cases e
 |a::as,bs,vs,pa,pb,h,h'=>by
  rw[aX]at h;obtain⟨v,r,e,h1,h2⟩:=h;subst e;cases bs with
  |nil=>rw[cj]at h';cases h'
  |cons b bs=>
   rw[aX]at h';obtain⟨v',r',e,h1',h2'⟩:=h';cases e;unfold lu at pa pb;rw[QN]at pa pb;rw[Inv.den_inj I pa.1 pb.1 h1 h1',Inv.denL_inj I pa.2 pb.2 h2 h2']
end
noncomputable def lh:D->Option V
 |.non=>some .non
 |.bl b=>some (.bl b)
 |.int i=>some (.int i)
 |.str x=>some (.str x)
 |_=>none
theorem mR{K:Sn}{d:D}{v x:V}(h:lh d=some x)(hd:cf K H d v):v=x/\Cz x=true:=by
 cases d with
 |non=>cases h;exact⟨jm.mp hd,rfl⟩
 |bl b=>cases h;exact⟨ju.mp hd,rfl⟩
 |int i=>cases h;exact⟨eZ.mp hd,rfl⟩
 |str y=>cases h;exact⟨eV.mp hd,rfl⟩
 |_=>cases h
theorem DL{a b:D}{x y:V}(ha:lh a=some x)(hb:lh b=some y):K5 x y=pyEq a b:=by
 cases a<;>cases ha<;>cases b<;>cases hb<;>(unfold pyEq K5;rfl)
theorem vd{a:D}{x:V}(n:Nat)(h:lh a=some x):cV n a=true:=by
 cases a with
 |tup _=>cases h
 |lst _=>cases h
 |dct _ _=>cases h
 |obj _ _ _=>cases h
 |exc _ _ _=>cases h
 |_=>cases n<;>rfl
theorem uZ{a:D}(h:lh a=none):cV 0 a=false:=by
 cases a with
 |tup _=>rfl
 |lst _=>rfl
 |dct _ _=>rfl
 |obj _ _ _=>rfl
 |exc _ _ _=>rfl
 |_=>cases h
theorem in1_units(A:Uj):A.in1.units=A.units+1:=rfl
theorem kN{vs:aI}{us:aS}(r:Vals vs us){j:Nat}(h:j<us.toArray.size):∃x,vs[j]?=some x/\RelV x us.toArray[j]:=by
 have hj:j<us.length:=by simpa using h
 have hl:=r.length;have hv:j<vs.length:=by omega
 obtain⟨u,e,ru⟩:=r.get (i:=j) (x:=vs[j]) (by simp[hv]);refine⟨vs[j],by simp[hv],?_⟩;have e2:us.toArray[j]=u:=by
  rw[Ri hj]at e
  simpa using Option.some.inj e
 rw[e2];exact ru
theorem kJ{K:Sn}{ds:List D}{vs:aI}(h:aN K H ds vs){j:Nat}{x:V}(e:vs[j]?=some x):∃d,ds[j]?=some d/\cf K H d x:=by
 have hj:j<vs.length:=(List.getElem?_eq_some_iff.mp e).1;have hl:=h.length;have hd:j<ds.length:=by omega
 obtain⟨v,e1,e2⟩:=h.get (i:=j) (d:=ds[j]) (by simp[hd]);rw[e]at e1;cases e1;exact⟨ds[j],by simp[hd],e2⟩
theorem vQ(I:Inv X pins σ H s):∀(n:Nat)(a b:D)(x y:V)(u v:T5)(A:Uj),pl a=true->pl b=true->(cV n a=true\/cV n b=true)->cf X.K H a x->cf X.K H b y->RelV x u->RelV y v->A.units+n<UO->EqAt A s u v (pyEq a b):=by
 intro n
 induction n with
 |zero=>
  intro a b x y u v A pa pb hd ha hb ru rv hA;have hu:A.units<UO:=hA;cases ha':lh a with
  |some x'=>
   obtain⟨e,f⟩:=mR ha' ha;subst e;cases hb':lh b with
   |some y'=>
    obtain⟨e,f'⟩:=mR hb' hb;subst e;rw[<-DL ha' hb'];exact G6 ru rv f f'
   |none=>
    cases b with
    |tup ys=>
     rw[cg]at hb;obtain⟨p,vs,e,h1,h2⟩:=hb;subst e;cases rv;obtain⟨its,_,ht,_⟩:=I.tuple (n0.of h1);have ht':s.heap.IsTuple p its.toArray:=ht;cases a with
     |non=>cases ha';cases ru;unfold pyEq;exact .none_tuple ht' hu
     |bl z=>cases ha';cases ru;unfold pyEq;exact .bool_tuple z ht' hu
     |int z=>cases ha';obtain⟨t,rfl⟩:=ru;unfold pyEq;exact .int_tuple z t ht' hu
     |str z=>cases ha';obtain⟨t,rfl⟩:=ru;unfold pyEq;exact .str_tuple z t ht' hu
     |_=>cases ha'
    |lst ys=>
     rw[b7]at hb;obtain⟨p,vs,e,h1,h2⟩:=hb;subst e;cases rv;obtain⟨its,_,ht,_⟩:=I.list h1;have ht':s.heap.IsList p its.toArray:=ht.isList;cases a with
     |non=>cases ha';cases ru;unfold pyEq;exact .none_list ht' hu
     |bl z=>cases ha';cases ru;unfold pyEq;exact .bool_list z ht' hu
     |int z=>cases ha';obtain⟨t,rfl⟩:=ru;unfold pyEq;exact .int_list z t ht' hu
     |str z=>cases ha';obtain⟨t,rfl⟩:=ru;unfold pyEq;exact .str_list z t ht' hu
     |_=>cases ha'
    |dct _ _=>exact(fH pb).elim
    |obj _ _ _=>exact(fz pb).elim
    |exc _ _ _=>exact(fq pb).elim
    |_=>cases hb'
  |none=>
   have hdb:cV 0 b=true:=by
    rcases hd with hd|hd
    ·rw[uZ ha']at hd;cases hd
    ·exact hd
   cases hb':lh b with
   |none=>rw[uZ hb']at hdb;cases hdb
   |some y'=>
    obtain⟨e,f'⟩:=mR hb' hb;subst e;cases a with
    |tup xs=>
     rw[cg]at ha;obtain⟨p,vs,e,h1,h2⟩:=ha;subst e;cases ru;obtain⟨its,_,ht,_⟩:=I.tuple (n0.of h1);have ht':s.heap.IsTuple p its.toArray:=ht;cases b with
     |non=>cases hb';cases rv;unfold pyEq;exact .tuple_none ht' hu
     |bl z=>cases hb';cases rv;unfold pyEq;exact .tuple_bool z ht' hu
     |int z=>cases hb';obtain⟨t,rfl⟩:=rv;unfold pyEq;exact .tuple_int z t ht' hu
     |str z=>cases hb';obtain⟨t,rfl⟩:=rv;unfold pyEq;exact .tuple_str z t ht' hu
     |_=>cases hb'
    |lst xs=>
     rw[b7]at ha;obtain⟨p,vs,e,h1,h2⟩:=ha;subst e;cases ru;obtain⟨its,_,ht,_⟩:=I.list h1;have ht':s.heap.IsList p its.toArray:=ht.isList;cases b with
     |non=>cases hb';cases rv;unfold pyEq;exact .list_none ht' hu
     |bl z=>cases hb';cases rv;unfold pyEq;exact .list_bool z ht' hu
     |int z=>cases hb';obtain⟨t,rfl⟩:=rv;unfold pyEq;exact .list_int z t ht' hu
     |str z=>cases hb';obtain⟨t,rfl⟩:=rv;unfold pyEq;exact .list_str z t ht' hu
     |_=>cases hb'
    |dct _ _=>exact(fH pa).elim
    |obj _ _ _=>exact(fz pa).elim
    |exc _ _ _=>exact(fq pa).elim
    |_=>cases ha'
 |succ n ih=>
  intro a b x y u v A pa pb hd ha hb ru rv hA;have hu:A.units<UO:=by omega
  have flatWay:(∀xs ys,¬(a=.tup xs/\b=.tup ys))->(∀xs ys,¬(a=.lst xs/\b=.lst ys))->EqAt A s u v (pyEq a b):=by
   intro n1 n2;cases ha':lh a with
   |some x'=>exact ih a b x y u v A pa pb (.inl (vd n ha')) ha hb ru rv ‹0›
   |none=>
    cases hb':lh b with
    |some y'=>exact ih a b x y u v A pa pb (.inr (vd n hb')) ha hb ru rv ‹0›
    |none=>
     cases a with
     |tup xs=>
      cases b with
      |tup ys=>exact absurd ⟨rfl,rfl⟩ (n1 xs ys)
      |lst ys=>
       rw[cg]at ha;obtain⟨p,vs,e,h1,h2⟩:=ha;subst e;rw[b7]at hb;obtain⟨p',vs',e,h1',h2'⟩:=hb;subst e;cases ru;cases rv;obtain⟨its,_,ht,_⟩:=I.tuple (n0.of h1);obtain⟨its2,_,ht2,_⟩:=I.list h1';unfold pyEq;exact .tuple_list (show s.heap.IsTuple p its.toArray from ht) ht2.isList hu
      |dct _ _=>exact(fH pb).elim
      |obj _ _ _=>exact(fz pb).elim
      |exc _ _ _=>exact(fq pb).elim
      |_=>cases hb'
     |lst xs=>
      cases b with
      |lst ys=>exact absurd ⟨rfl,rfl⟩ (n2 xs ys)
      |tup ys=>
       rw[b7]at ha;obtain⟨p,vs,e,h1,h2⟩:=ha;subst e;rw[cg]at hb;obtain⟨p',vs',e,h1',h2'⟩:=hb;subst e;cases ru;cases rv;obtain⟨its,_,ht,_⟩:=I.list h1;obtain⟨its2,_,ht2,_⟩:=I.tuple (n0.of h1');unfold pyEq;exact .list_tuple ht.isList (show s.heap.IsTuple p' its2.toArray from ht2) hu
      |dct _ _=>exact(fH pb).elim
      |obj _ _ _=>exact(fz pb).elim
      |exc _ _ _=>exact(fq pb).elim
      |_=>cases hb'
     |dct _ _=>exact(fH pa).elim
     |obj _ _ _=>exact(fz pa).elim
     |exc _ _ _=>exact(fq pa).elim
     |_=>cases ha'
  have items:∀(xs ys:List D)(vs vs':aI)(its its':aS),lu xs=true->lu ys=true->(cV (n+1) (.tup xs)=true\/cV (n+1) (.tup ys)=true)->aN X.K H xs vs->aN X.K H ys vs'->Vals vs its->Vals vs' its'->
    ∀j (h1:j<its.toArray.size) (h2:j<its'.toArray.size),EqAt A.in1 s its.toArray[j] its'.toArray[j] (wK xs ys j):=by
   intro xs ys vs vs' its its' px py hdd hx hy rx ry j h1 h2;obtain⟨w1,e1,r1⟩:=kN rx h1;obtain⟨w2,e2,r2⟩:=kN ry h2;obtain⟨d1,f1,g1⟩:=kJ hx e1;obtain⟨d2,f2,g2⟩:=kJ hy e2;have e3:wK xs ys j=pyEq d1 d2:=(by unfold wK;rw[f1,f2]);rw[e3];refine ih d1 d2 w1 w2 _ _ A.in1 (ik px _ (QJ f1)) (ik py _ (QJ f2)) ?_ g1 g2 r1 r2 (by rw[in1_units];omega);rcases hdd with hdd|hdd
   ·exact .inl (List.all_eq_true.mp hdd d1 (QJ f1))
   ·exact .inr (List.all_eq_true.mp hdd d2 (QJ f2))
  by_cases hT:∃xs ys,a=.tup xs/\b=.tup ys
  ·obtain⟨xs,ys,rfl,rfl⟩:=hT;have da:=ha;have db:=hb;rw[cg]at ha hb;obtain⟨p,vs,e,h1,h2⟩:=ha;subst e;obtain⟨p',vs',e,h1',h2'⟩:=hb;subst e;cases ru;cases rv;by_cases hp:p=p'
   ·subst hp;have e:=Inv.den_inj I pa pb da db;rw[e,nE];exact EqAt.same _
   ·obtain⟨its,rv1,ht,_⟩:=I.tuple (n0.of h1);obtain⟨its2,rv2,ht2,_⟩:=I.tuple (n0.of h1');refine EqAt.of_refs hp ?_;have q:=RcAt.tuples (e:=wK xs ys) (show s.heap.IsTuple p its.toArray from ht) (show s.heap.IsTuple p' its2.toArray from ht2) hu (items xs ys vs vs' its its2 (by first|rw[<-dN];exact pa|rw[<-dP];exact pa) (by first|rw[<-dN];exact pb|rw[<-dP];exact pb) hd h2 h2' rv1 rv2);have z1:its.toArray.size=xs.length:=(by rw[Qs,<-rv1.length,<-h2.length]);have z2:its2.toArray.size=ys.length:=(by rw[Qs,<-rv2.length,<-h2'.length]);rw[z1,z2,fP]at q;unfold pyEq;exact q
  ·by_cases hL:∃xs ys,a=.lst xs/\b=.lst ys
   ·obtain⟨xs,ys,rfl,rfl⟩:=hL;have da:=ha;have db:=hb;rw[b7]at ha hb;obtain⟨p,vs,e,h1,h2⟩:=ha;subst e;obtain⟨p',vs',e,h1',h2'⟩:=hb;subst e;cases ru;cases rv;by_cases hp:p=p'
    ·subst hp;have e:=Inv.den_inj I pa pb da db;rw[e,nE];exact EqAt.same _
    ·obtain⟨its,rv1,ht,_⟩:=I.list h1;obtain⟨its2,rv2,ht2,_⟩:=I.list h1';refine EqAt.of_refs hp ?_;have z1:its.toArray.size=xs.length:=(by rw[Qs,<-rv1.length,<-h2.length]);have z2:its2.toArray.size=ys.length:=(by rw[Qs,<-rv2.length,<-h2'.length]);have er:=fP xs ys;by_cases hz:its.toArray.size=its2.toArray.size
     ·have q:=RcAt.lists (e:=wK xs ys) ht.isList ht2.isList hz hu (items xs ys vs vs' its its2 (by first|rw[<-dN];exact pa|rw[<-dP];exact pa) (by first|rw[<-dN];exact pb|rw[<-dP];exact pb) hd h2 h2' rv1 rv2);rw[z1]at q;have hz':xs.length=ys.length:=(by omega);rw[<-hz',Rj]at er;simp only[beq_self_eq_true,Rk]at er;rw[er]at q;unfold pyEq;exact q
     ·have hne:(its.toArray.size !=its2.toArray.size)=true:=(by simpa using hz);have q:=RcAt.lists_lengths (A:=A) ht.isList ht2.isList hne hu;have hz':(xs.length==ys.length)=false:=by
       rw[z1,z2]at hz
       simpa using hz
      rw[hz',Rl]at er;unfold pyEq;rw[<-er];exact q
   ·exact flatWay (λxs ys z=>hT ⟨xs,ys,z⟩) λxs ys z=>hL ⟨xs,ys,z⟩
end
end TG
namespace TG
open PySem PySem.Spec L2
variable[ay]
open PySem.SeqAt (EqAt RcAt RcNeAt)
section
variable{X:Cx}{pins:aU}{σ:St}{H:Hp}{s:Ua}
theorem oK(I:Inv X pins σ H s){n:Nat}{xs ys:List D}{vs vs':aI}{its its':aS}{A:Uj}(px:lu xs=true)(py:lu ys=true)(hdd:cV (n+1) (.tup xs)=true\/cV (n+1) (.tup ys)=true)(hx:aN X.K H xs vs)(hy:aN X.K H ys vs')(rx:Vals vs its)(ry:Vals vs' its')(hA:A.units+n<UO):
  ∀j (h1:j<its.toArray.size) (h2:j<its'.toArray.size),EqAt A s its.toArray[j] its'.toArray[j] (wK xs ys j):=by
 intro j h1 h2;obtain⟨w1,e1,r1⟩:=kN rx h1;obtain⟨w2,e2,r2⟩:=kN ry h2;obtain⟨d1,f1,g1⟩:=kJ hx e1;obtain⟨d2,f2,g2⟩:=kJ hy e2;have e3:wK xs ys j=pyEq d1 d2:=by unfold wK;rw[f1,f2]
 rw[e3];refine vQ I n d1 d2 w1 w2 _ _ A (ik px _ (QJ f1)) (ik py _ (QJ f2)) ?_ g1 g2 r1 r2 hA;rcases hdd with hdd|hdd
 ·exact .inl (List.all_eq_true.mp hdd d1 (QJ f1))
 ·exact .inr (List.all_eq_true.mp hdd d2 (QJ f2))
inductive Way(I:Inv X pins σ H s):D->T5->Prop where
 |non:Way I .non .none
 |bl (b:Bool):Way I (.bl b) (.bool b)
 |int (i:Int) (t:Tok):Way I (.int i) (.int i t)
 |str (x:Str) (t:Tok):Way I (.str x) (.str x t)
 |tup {xs:List D} {p:T7} {vs:aI} {its:aS} (h:aN X.K H xs vs) (r:Vals vs its) (t:s.heap.IsTuple p its.toArray):Way I (.tup xs) (.ref p)
 |lst {xs:List D} {p:T7} {vs:aI} {its:aS} (h:aN X.K H xs vs) (r:Vals vs its) (t:s.heap.IsList p its.toArray):Way I (.lst xs) (.ref p)
noncomputable def top:D->Bool
 |.dct _ _=>false
 |.obj _ _ _=>false
 |.exc _ _ _=>false
 |_=>true
theorem fg{d:D}(h:pl d=true):top d=true:=by
 cases d with
 |dct _ _=>exact(fH h).elim
 |obj _ _ _=>exact(fz h).elim
 |exc _ _ _=>exact(fq h).elim
 |_=>rfl
theorem eA(I:Inv X pins σ H s){d:D}{v:V}{u:T5}(pd:top d=true)(h:cf X.K H d v)(r:RelV v u):Way I d u:=by
 cases d with
 |non=>rw[jm]at h;subst h;cases r;exact .non
 |bl b=>rw[ju]at h;subst h;cases r;exact .bl b
 |int i=>rw[eZ]at h;subst h;obtain⟨t,rfl⟩:=r;exact .int i t
 |str x=>rw[eV]at h;subst h;obtain⟨t,rfl⟩:=r;exact .str x t
 |tup xs=>
  rw[cg]at h;obtain⟨p,vs,e,h1,h2⟩:=h;subst e;cases r;obtain⟨its,rv,ht,_⟩:=I.tuple (n0.of h1);exact .tup h2 rv ht
 |lst xs=>
  rw[b7]at h;obtain⟨p,vs,e,h1,h2⟩:=h;subst e;cases r;obtain⟨its,rv,ht,_⟩:=I.list h1;exact .lst h2 rv ht.isList
 |dct _ _=>cases pd
 |obj _ _ _=>cases pd
 |exc _ _ _=>cases pd
theorem Gr(I:Inv X pins σ H s){n:Nat}{a b:D}{x y:V}{u v:T5}{A:Uj}(pa:pl a=true)(pb:pl b=true)(hd:cV (n+1) a=true\/cV (n+1) b=true)(ha:cf X.K H a x)(hb:cf X.K H b y)(ru:RelV x u)(rv:RelV y v)(hA:A.units+n+1<UO):RcAt A s u v (pyEq a b):=by
 have hu:A.units<UO:=by omega
 cases eA I (fg pa) ha ru with
 |non=>cases eA I (fg pb) hb rv with
  |non=>unfold pyEq;exact .none_none
  |bl b=>unfold pyEq;exact .none_bool b
  |int i t=>unfold pyEq;exact .none_int i t
  |str x t=>unfold pyEq;exact .none_str x t
  |tup h r t=>unfold pyEq;exact .none_tuple t hu
  |lst h r t=>unfold pyEq;exact .none_list t hu
 |bl z=>cases eA I (fg pb) hb rv with
  |non=>unfold pyEq;exact .bool_none z
  |bl b=>unfold pyEq;exact .bool_bool z b
  |int i t=>unfold pyEq;exact .bool_int z i t
  |str x t=>unfold pyEq;exact .bool_str z x t
  |tup h r t=>unfold pyEq;exact .bool_tuple z t hu
  |lst h r t=>unfold pyEq;exact .bool_list z t hu
 |int z tz=>cases eA I (fg pb) hb rv with
  |non=>unfold pyEq;exact .int_none z tz
  |bl b=>unfold pyEq;exact .int_bool z tz b
  |int i t=>unfold pyEq;exact .int_int z tz i t
  |str x t=>unfold pyEq;exact .int_str z tz x t
  |tup h r t=>unfold pyEq;exact .int_tuple z tz t hu
  |lst h r t=>unfold pyEq;exact .int_list z tz t hu
 |str z tz=>cases eA I (fg pb) hb rv with
  |non=>unfold pyEq;exact .str_none z tz
  |bl b=>unfold pyEq;exact .str_bool z tz b
  |int i t=>unfold pyEq;exact .str_int z tz i t
  |str x t=>unfold pyEq;exact .str_str z tz x t
  |tup h r t=>unfold pyEq;exact .str_tuple z tz t hu
  |lst h r t=>unfold pyEq;exact .str_list z tz t hu
 |@tup xs p vs its h1 r1 t1=>cases eA I (fg pb) hb rv with
  |non=>unfold pyEq;exact .tuple_none t1 hu
  |bl b=>unfold pyEq;exact .tuple_bool b t1 hu
  |int i t=>unfold pyEq;exact .tuple_int i t t1 hu
  |str x t=>unfold pyEq;exact .tuple_str x t t1 hu
  |@tup ys p' vs' its' h2 r2 t2=>
   have q:=RcAt.tuples (e:=wK xs ys) t1 t2 hu (oK (A:=A.in1) I (by first|rw[<-dN];exact pa|rw[<-dP];exact pa) (by first|rw[<-dN];exact pb|rw[<-dP];exact pb) hd h1 h2 r1 r2 (by rw[in1_units];omega));have z1:its.toArray.size=xs.length:=(by rw[Qs,<-r1.length,<-h1.length]);have z2:its'.toArray.size=ys.length:=(by rw[Qs,<-r2.length,<-h2.length]);rw[z1,z2,fP]at q;unfold pyEq;exact q
  |lst h r t=>unfold pyEq;exact .tuple_list t1 t hu
 |@lst xs p vs its h1 r1 t1=>cases eA I (fg pb) hb rv with
  |non=>unfold pyEq;exact .list_none t1 hu
  |bl b=>unfold pyEq;exact .list_bool b t1 hu
  |int i t=>unfold pyEq;exact .list_int i t t1 hu
  |str x t=>unfold pyEq;exact .list_str x t t1 hu
  |tup h r t=>unfold pyEq;exact .list_tuple t1 t hu
  |@lst ys p' vs' its' h2 r2 t2=>
   have z1:its.toArray.size=xs.length:=(by rw[Qs,<-r1.length,<-h1.length]);have z2:its'.toArray.size=ys.length:=(by rw[Qs,<-r2.length,<-h2.length]);have er:=fP xs ys;by_cases hz:its.toArray.size=its'.toArray.size
   ·have q:=RcAt.lists (e:=wK xs ys) t1 t2 hz hu (oK (A:=A.in1) I (by first|rw[<-dN];exact pa|rw[<-dP];exact pa) (by first|rw[<-dN];exact pb|rw[<-dP];exact pb) hd h1 h2 r1 r2 (by rw[in1_units];omega));rw[z1]at q;have hz':xs.length=ys.length:=(by omega);rw[<-hz',Rj]at er;simp only[beq_self_eq_true,Rk]at er;rw[er]at q;unfold pyEq;exact q
   ·have q:=RcAt.lists_lengths (A:=A) t1 t2 (by simpa using hz) hu;have hz':(xs.length==ys.length)=false:=by
     rw[z1,z2]at hz
     simpa using hz
    rw[hz',Rl]at er;unfold pyEq;rw[<-er];exact q
theorem A8(I:Inv X pins σ H s){n:Nat}{a b:D}{x y:V}{u v:T5}{A:Uj}(pa:pl a=true)(pb:pl b=true)(hd:cV (n+1) a=true\/cV (n+1) b=true)(ha:cf X.K H a x)(hb:cf X.K H b y)(ru:RelV x u)(rv:RelV y v)(hA:A.units+n+1<UO):RcNeAt A s u v (!pyEq a b):=by
 have hu:A.units<UO:=by omega
 cases eA I (fg pa) ha ru with
 |non=>cases eA I (fg pb) hb rv with
  |non=>unfold pyEq;exact .none_none
  |bl b=>unfold pyEq;exact .none_bool b
  |int i t=>unfold pyEq;exact .none_int i t
  |str x t=>unfold pyEq;exact .none_str x t
  |tup h r t=>unfold pyEq;exact .none_tuple t hu
  |lst h r t=>unfold pyEq;exact .none_list t hu
 |bl z=>cases eA I (fg pb) hb rv with
  |non=>unfold pyEq;exact .bool_none z
  |bl b=>unfold pyEq;exact .bool_bool z b
  |int i t=>unfold pyEq;exact .bool_int z i t
  |str x t=>unfold pyEq;exact .bool_str z x t
  |tup h r t=>unfold pyEq;exact .bool_tuple z t hu
  |lst h r t=>unfold pyEq;exact .bool_list z t hu
 |int z tz=>cases eA I (fg pb) hb rv with
  |non=>unfold pyEq;exact .int_none z tz
  |bl b=>unfold pyEq;exact .int_bool z tz b
  |int i t=>unfold pyEq;exact .int_int z tz i t
  |str x t=>unfold pyEq;exact .int_str z tz x t
  |tup h r t=>unfold pyEq;exact .int_tuple z tz t hu
  |lst h r t=>unfold pyEq;exact .int_list z tz t hu
 |str z tz=>cases eA I (fg pb) hb rv with
  |non=>unfold pyEq;exact .str_none z tz
  |bl b=>unfold pyEq;exact .str_bool z tz b
  |int i t=>unfold pyEq;exact .str_int z tz i t
  |str x t=>unfold pyEq;exact .str_str z tz x t
  |tup h r t=>unfold pyEq;exact .str_tuple z tz t hu
  |lst h r t=>unfold pyEq;exact .str_list z tz t hu
 |@tup xs p vs its h1 r1 t1=>cases eA I (fg pb) hb rv with
  |non=>unfold pyEq;exact .tuple_none t1 hu
  |bl b=>unfold pyEq;exact .tuple_bool b t1 hu
  |int i t=>unfold pyEq;exact .tuple_int i t t1 hu
  |str x t=>unfold pyEq;exact .tuple_str x t t1 hu
  |@tup ys p' vs' its' h2 r2 t2=>
   have q:=RcNeAt.tuples (e:=wK xs ys) t1 t2 hu (oK (A:=A.in1) I (by first|rw[<-dN];exact pa|rw[<-dP];exact pa) (by first|rw[<-dN];exact pb|rw[<-dP];exact pb) hd h1 h2 r1 r2 (by rw[in1_units];omega));have z1:its.toArray.size=xs.length:=(by rw[Qs,<-r1.length,<-h1.length]);have z2:its'.toArray.size=ys.length:=(by rw[Qs,<-r2.length,<-h2.length]);rw[z1,z2,fP]at q;unfold pyEq;exact q
  |lst h r t=>unfold pyEq;exact .tuple_list t1 t hu
 |@lst xs p vs its h1 r1 t1=>cases eA I (fg pb) hb rv with
  |non=>unfold pyEq;exact .list_none t1 hu
  |bl b=>unfold pyEq;exact .list_bool b t1 hu
  |int i t=>unfold pyEq;exact .list_int i t t1 hu
  |str x t=>unfold pyEq;exact .list_str x t t1 hu
  |tup h r t=>unfold pyEq;exact .list_tuple t1 t hu
  |@lst ys p' vs' its' h2 r2 t2=>
   have z1:its.toArray.size=xs.length:=(by rw[Qs,<-r1.length,<-h1.length]);have z2:its'.toArray.size=ys.length:=(by rw[Qs,<-r2.length,<-h2.length]);have er:=fP xs ys;by_cases hz:its.toArray.size=its'.toArray.size
   ·have q:=RcNeAt.lists (e:=wK xs ys) t1 t2 hz hu (oK (A:=A.in1) I (by first|rw[<-dN];exact pa|rw[<-dP];exact pa) (by first|rw[<-dN];exact pb|rw[<-dP];exact pb) hd h1 h2 r1 r2 (by rw[in1_units];omega));rw[z1]at q;have hz':xs.length=ys.length:=(by omega);rw[<-hz',Rj]at er;simp only[beq_self_eq_true,Rk]at er;rw[er]at q;unfold pyEq;exact q
   ·have q:=RcNeAt.lists_lengths (A:=A) t1 t2 (by simpa using hz) hu;have hz':(xs.length==ys.length)=false:=by
     rw[z1,z2]at hz
     simpa using hz
    rw[hz',Rl]at er;unfold pyEq;rw[<-er];exact q
end
section
variable{X:Cx}
noncomputable def rD(K:Sn)(g:D->D->bx):R2:=λx y H Q=>∃O a b d,dM H O/\cf K (hid H O) a x/\cf K (hid H O) b y/\g a b=some d/\∀v H',aQ H H'->cf K (hid H' O) d v->Q v H'
theorem bR{K:Sn}{g:D->D->bx}:cZ K (rD K g) g:=λa b d x y O H Q hO hg ha hb q=>⟨O,a,b,d,hO,ha,hb,hg,q⟩
theorem my{f : T5 -> T5 -> Sem T5}{g : D -> D -> bx}(h : ∀ (pins : aU) (s : Ua) (σ : St) (H : Hp) (a b d : D) (x y : V) (u v : T5), Inv X pins σ H s -> cf X.K H a x -> cf X.K H b y -> RelV x u -> RelV y v -> g a b = some d ->
      ∃c,d=.bl c/\∀(Q:bL),Q (.bool c) s->Um (model X.prog X.w) X.A (f u v) Q X.xe s):iQ X f (rD X.K g):=by
  rintro pins s σ H x y u v Q I rx ry ⟨O,a,b,d,hO,ha,hb,hg,q⟩;obtain⟨c,rfl,hq⟩:=h pins s σ H a b d x y u v I (ha.mono (aB H O)) (hb.mono (aB H O)) rx ry hg;exact hq _ ⟨.bl c,H,I,rfl,q _ H (aQ.refl H) (ju.mpr rfl)⟩
noncomputable def gk(a b:D):bx:=if(pl a&&pl b)&&(cV 8 a||cV 8 b)then some (.bl (pyEq a b))else none
noncomputable def lg(a b:D):bx:=if(pl a&&pl b)&&(cV 8 a||cV 8 b)then some (.bl (!pyEq a b))else none
theorem Bw(hu:X.A.units+64<UO):iQ X (Ur .Eq) (rD X.K gk):=my λpins s σ H a b d x y u v I ha hb ru rv hg=>by
 obtain⟨h1,h2⟩:=aY hg;subst h2;rw[QN,QN,Rm]at h1;exact⟨_,rfl,λQ q=>Gr (n:=7) (A:=X.A) I h1.1.1 h1.1.2 h1.2 ha hb ru rv ‹0› X.prog X.w X.xe Q q⟩
theorem CL(hu:X.A.units+64<UO):iQ X (Ur .NotEq) (rD X.K lg):=my λpins s σ H a b d x y u v I ha hb ru rv hg=>by
 obtain⟨h1,h2⟩:=aY hg;subst h2;rw[QN,QN,Rm]at h1;exact⟨_,rfl,λQ q=>A8 (n:=7) (A:=X.A) I h1.1.1 h1.1.2 h1.2 ha hb ru rv ‹0› X.prog X.w X.xe Q q⟩
noncomputable def inD(x:D)(ys:List D):Bool:=ys.any λy=>pyEq y x
noncomputable def t9(x y:D):bx:=match y with
 |.tup ys=>if(pl x&&lu ys)&&cV 8 x then some (.bl (inD x ys))else none
 |.lst ys=>if(pl x&&lu ys)&&cV 8 x then some (.bl (inD x ys))else none
 |_=>none
noncomputable def lG(x y:D):bx:=match y with
 |.tup ys=>if(pl x&&lu ys)&&cV 8 x then some (.bl (!inD x ys))else none
 |.lst ys=>if(pl x&&lu ys)&&cV 8 x then some (.bl (!inD x ys))else none
 |_=>none
open Classical in
theorem xc{pins:aU}{σ:St}{H:Hp}{s:Ua}(I:Inv X pins σ H s){xd:D}{x:V}{u:T5}{A:Uj}(px:pl xd=true)(hd:cV 8 xd=true)(hx:cf X.K H xd x)(ru:RelV x u)(hA:A.units+8<UO){ys:List D}{vs:aI}{its:aS}(py:lu ys=true)(hy:aN X.K H ys vs)(rv:Vals vs its):
  ∃e:T5->Bool,(∀y,y∈its.toArray->EqAt A s y u (e y))/\its.toArray.any e=inD xd ys:=by
 let e:T5->Bool:=λy=>decide (∃d w,pl d=true/\cf X.K H d w/\RelV w y/\pyEq d xd=true)
 have he:∀d w y,pl d=true->cf X.K H d w->RelV w y->e y=pyEq d xd:=λd w y h0 h1 h2=>by
  cases hq:pyEq d xd with
  |true=>exact decide_eq_true ⟨d,w,h0,h1,h2,hq⟩
  |false=>
   refine decide_eq_false ?_;rintro⟨d',w',g0,g1,g2,g3⟩;have ew:=RelV.inj h2 g2;subst ew;rw[Inv.den_inj I h0 g0 h1 g1,g3]at hq;cases hq
 refine⟨e,λy hy'=>?_,?_⟩
 ·have hm:y∈its:=by simpa using hy'
  obtain⟨j,hj,rfl⟩:=Rn hm;obtain⟨w,e1,r1⟩:=kN rv (j:=j) (by simpa using hj);obtain⟨d,f1,g1⟩:=kJ hy e1;have r1':RelV w its[j]:=by simpa using r1
  have pd:=ik py _ (QJ f1);rw[he d w _ pd g1 r1'];exact vQ I 8 d xd w x _ u A pd px (.inr hd) g1 hx r1' ru hA
 ·unfold inD;have go:∀(ys:List D)(vs:aI)(its:aS),lu ys=true->aN X.K H ys vs->Vals vs its->its.any e=ys.any λy=>pyEq y xd:=by
   intro ys
   induction ys with
   |nil=>
    intro vs its py h r;rw[cj]at h;subst h;cases r;rfl
   |cons y ys ih=>
    intro vs its py h r;unfold lu at py;rw[QN]at py;rw[aX]at h;obtain⟨v,r',e1,h1,h2⟩:=h;subst e1;cases r with
    |cons q1 q2=>rw[QU,QU,he y v _ py.1 h1 q1,ih _ _ py.2 h2 q2]
  rw[List.any_toArray];exact go ys vs its py hy rv
theorem Ct(hu:X.A.units+64<UO):iQ X (Ur .In) (rD X.K t9):=my λpins s σ H a b d x y u v I ha hb ru rv hg=>by
 cases b with
 |tup ys=>
  obtain⟨h1,h2⟩:=aY hg;subst h2;rw[QN,QN]at h1;rw[cg]at hb;obtain⟨p,vs,e,g1,g2⟩:=hb;subst e;cases rv;obtain⟨its,r,t,_⟩:=I.tuple (n0.of g1);obtain⟨e,he,ea⟩:=xc (A:=X.A.in1) I h1.1.1 h1.2 ha ru (by rw[in1_units];omega) h1.1.2 g2 r;exact⟨_,rfl,λQ q=>SeqAt.in_tupleAt e (show s.heap.IsTuple p its.toArray from t) he (by rw[ea];exact q)⟩
 |lst ys=>
  obtain⟨h1,h2⟩:=aY hg;subst h2;rw[QN,QN]at h1;rw[b7]at hb;obtain⟨p,vs,e,g1,g2⟩:=hb;subst e;cases rv;obtain⟨its,r,t,_⟩:=I.list g1;obtain⟨e,he,ea⟩:=xc (A:=X.A.in1) I h1.1.1 h1.2 ha ru (by rw[in1_units];omega) h1.1.2 g2 r;exact⟨_,rfl,λQ q=>SeqAt.in_listAt e t.isList he (by rw[ea];exact q)⟩
 |_=>cases hg
theorem rF(hu:X.A.units+64<UO):iQ X (Ur .NotIn) (rD X.K lG):=my λpins s σ H a b d x y u v I ha hb ru rv hg=>by
 cases b with
 |tup ys=>
  obtain⟨h1,h2⟩:=aY hg;subst h2;rw[QN,QN]at h1;rw[cg]at hb;obtain⟨p,vs,e,g1,g2⟩:=hb;subst e;cases rv;obtain⟨its,r,t,_⟩:=I.tuple (n0.of g1);obtain⟨e,he,ea⟩:=xc (A:=X.A.in1) I h1.1.1 h1.2 ha ru (by rw[in1_units];omega) h1.1.2 g2 r;exact⟨_,rfl,λQ q=>SeqAt.notIn_tupleAt e (show s.heap.IsTuple p its.toArray from t) he (by rw[ea];exact q)⟩
 |lst ys=>
  obtain⟨h1,h2⟩:=aY hg;subst h2;rw[QN,QN]at h1;rw[b7]at hb;obtain⟨p,vs,e,g1,g2⟩:=hb;subst e;cases rv;obtain⟨its,r,t,_⟩:=I.list g1;obtain⟨e,he,ea⟩:=xc (A:=X.A.in1) I h1.1.1 h1.2 ha ru (by rw[in1_units];omega) h1.1.2 g2 r;exact⟨_,rfl,λQ q=>SeqAt.notIn_listAt e t.isList he (by rw[ea];exact q)⟩
 |_=>cases hg
noncomputable def H0(p:Int->Int->D)(a b:D):bx:=match a,b with
 |.int i,.int j=>some (p i j)
 |_,_=>none
noncomputable def PQ:=H0 λi j=>.bl (decide (i<j))
noncomputable def u9:=H0 λi j=>.bl (decide (i<=j))
noncomputable def IQ:=H0 λi j=>.bl (decide (j<i))
noncomputable def Jt:=H0 λi j=>.bl (decide (j<=i))
theorem cC{K:Sn}{g:Int->Int->Bool}:cZ K (BO λi j=>.bl (g i j)) (H0 λi j=>.bl (g i j)):=λa b d x y O H Q hO hg ha hb q=>by
 cases a with
 |int i=>
  cases b with
  |int j=>cases hg;exact⟨i,j,eZ.mp ha,eZ.mp hb,q _ H (aQ.refl H) (ju.mpr rfl)⟩
  |_=>cases hg
 |_=>cases hg
theorem vU{K:Sn}{g:Int->Int->Int}:cZ K (BO λi j=>.int (g i j)) (H0 λi j=>.int (g i j)):=λa b d x y O H Q hO hg ha hb q=>by
 cases a with
 |int i=>
  cases b with
  |int j=>cases hg;exact⟨i,j,eZ.mp ha,eZ.mp hb,q _ H (aQ.refl H) (eZ.mpr rfl)⟩
  |_=>cases hg
 |_=>cases hg
noncomputable def JL(c:Int->Int->Bool)(p:Int->Int->Int)(a b:D):bx:=match a,b with
 |.int i,.int j=>if c i j then some (.int (p i j))else none
 |_,_=>none
theorem kU{K:Sn}{C:Int->Int->Prop}{c:Int->Int->Bool}{g:Int->Int->Int}(hc:∀i j,c i j=true->C i j):cZ K (rI C λi j=>.int (g i j)) (JL c g):=λa b d x y O H Q hO hg ha hb q=>by
 cases a with
 |int i=>
  cases b with
  |int j=>
   obtain⟨h1,h2⟩:=aY hg;subst h2;exact⟨i,j,eZ.mp ha,eZ.mp hb,hc i j h1,q _ H (aQ.refl H) (eZ.mpr rfl)⟩
  |_=>cases hg
 |_=>cases hg
noncomputable def pT:=H0 λi j=>.int (i-j)
noncomputable def gE:=JL (λi j=>decide ((-(2^64)<i/\i<2^64)\/(-(2^64)<j/\j<2^64))) (·*·)
noncomputable def Fz(_ j:Int):Prop:=0<j/\j<10^200
theorem CP:iQ X (UB .FloorDiv) (rI Fz λi j=>.int (i/j)):=KG λi j _ _ _ _ _ hc q=>by
 have h1:(0:Int)<j:=hc.1;have h2:j<10^200:=hc.2;refine PyProof.Rows.floordiv_int ‹0› (by rw[Int.fdiv_eq_ediv_of_nonneg i ‹0›];exact q) (.inl (PyProof.noPylong_of_log2 ?_));have h3:j.natAbs<10^200:=by omega
 rw[Nat.log2_lt ‹0›];exact QV h3 (by decide +kernel)
noncomputable def gR:=JL (λ_ j=>decide (0<j/\j<10^200)) (·/·)
noncomputable def cT:=JL (λ_ j=>decide (0<j)) (·%·)
noncomputable def yP:=JL (λi j=>decide (0<=j/\j<=1000000/\i.natAbs<2^64)) λi j=>i^j.toNat
theorem GK{K:Sn}:cZ K (BO λi j=>.int (i-j)) pT:=vU
theorem AH{K:Sn}:cZ K (rI Ie λi j=>.int (i*j)) gE:=kU λi j h=>by have q:=of_decide_eq_true h;exact q
theorem Io{K:Sn}:cZ K (rI Fz λi j=>.int (i/j)) gR:=kU λi j h=>by have q:=of_decide_eq_true h;exact q
theorem HL{K:Sn}:cZ K (rI (λ_ j=>0<j) λi j=>.int (i%j)) cT:=kU λ_ _ h=>of_decide_eq_true h
theorem Gq{K:Sn}:cZ K (rI JO λi j=>.int (i^j.toNat)) yP:=kU λi j h=>by have q:=of_decide_eq_true h;exact q
noncomputable def JF(K:Sn):R2:=λx y H Q=>∃l b xs zs,x=.ref l/\y=.ref b/\lI K H l xs/\lI K H b zs/\xs.length+zs.length<=Ug/\∀p,H p=none->Q (.ref p) (upd H p (.lst (xs++zs)))
theorem xK:iQ X (UB .Add) (JF X.K):=by
 intro pins s σ H x y v u Q I rx ry h;obtain⟨l,b,xs,zs,rfl,rfl,hH,hB,hz,q⟩:=h;cases rx;cases ry;obtain⟨its,r,t1,_⟩:=I.list hH;obtain⟨its2,r2,t2,_⟩:=I.list hB;obtain⟨⟨c1,d1,dt1,sl1⟩,n1,ho,hc,hd,hdt⟩:=t1;obtain⟨⟨c2,d2,dt2,sl2⟩,n2,ho2,hc2,hd2,hdt2⟩:=t2;simp only at hc hd hdt hc2 hd2 hdt2;subst hc hd hdt hc2 hd2 hdt2;have z1:=r.length;have z2:=r2.length;refine UY ⟨_,ho,rfl⟩ ⟨_,ho2,rfl⟩ noFill_list_add seq_list_add F.slot_list_add F.entry_list_add (F.args_list_add_2 _ _) (PyProof.Rows.list_addW l b its.toArray its2.toArray n1 n2 none none sl1 sl2 (by rw[Qs,Qs];omega)) ⟨ho,ho2,?_⟩;have ea:its.toArray++its2.toArray=(its++its2).toArray:=by simp
 rw[ea];exact⟨.ref _,_,I.lnew (t':=s.toks) (r.append r2) (by rw[QK];omega),rfl,q _ I.fresh⟩
noncomputable def HG(K:Sn):R2:=λx y H Q=>∃a b xs ys,x=.ref a/\y=.ref b/\n0 K H a xs/\n0 K H b ys/\xs.length+ys.length<=Ug/\
 (xs=[]->Q (.ref b) H)/\(xs≠[]->ys=[]->Q (.ref a) H)/\(xs≠[]->ys≠[]->∀p,H p=none->Q (.ref p) (upd H p (.tup (xs++ys))))
theorem AI:iQ X (UB .Add) (HG X.K):=by
 intro pins s σ H x y v u Q I rx ry h;obtain⟨a,b,xs,ys,ex,ey,ha,hb,hz,q0,q1,q2⟩:=h;by_cases hx:xs=[]
 ·subst ex ey;cases rx;cases ry;obtain⟨its,r1,p1,_⟩:=I.tuple ha;obtain⟨its2,r2,p2,_⟩:=I.tuple hb;obtain⟨⟨cls,dd,data,sl⟩,ho,hc,n,hd⟩:=id p1;obtain⟨⟨cls2,dd2,data2,sl2⟩,ho2,hc2,n2,hd2⟩:=id p2;simp only at hc hd hc2 hd2;subst hc hd hc2 hd2;have e:its=[]:=r1.nil_iff.mpr hx;exact UY ⟨_,ho,rfl⟩ ⟨_,ho2,rfl⟩ UZ U0 F.slot_tuple_add F.entry_tuple_add (F.args_tuple_add_2 _ _)
   (PyProof.Rows.tuple_addW0 a b its.toArray its2.toArray n n2 dd dd2 sl sl2 (by rw[e];rfl)) ⟨ho,ho2,⟨.ref b,H,I,rfl,q0 hx⟩⟩
 ·exact EQ pins s σ H x y v u Q I rx ry ⟨a,b,xs,ys,ex,ey,ha,hb,hx,hz,q1 hx,q2 hx⟩
noncomputable def bE(a b:D):bx:=match a,b with
 |.int i,.int j=>some (.int (i+j))
 |.str x,.str y=>if small (x.length+y.length)then some (.str (x++y))else none
 |.lst xs,.lst ys=>if small (xs.length+ys.length)then some (.lst (xs++ys))else none
 |.tup xs,.tup ys=>if small (xs.length+ys.length)then some (.tup (xs++ys))else none
 |_,_=>none
theorem EK:iQ X (UB .Add) (rD X.K bE):=by
 rintro pins s σ H x y u v Q I rx ry ⟨O,a,b,d,hO,ha,hb,hg,q⟩;cases a with
 |int i=>
  cases b with
  |int j=>
   cases hg;exact HY pins s σ H x y u v Q I rx ry ⟨i,j,eZ.mp ha,eZ.mp hb,q _ H (aQ.refl H) (eZ.mpr rfl)⟩
  |_=>cases hg
 |str i=>
  cases b with
  |str j=>
   obtain⟨h1,h2⟩:=aY hg;subst h2;exact wn pins s σ H x y u v Q I rx ry ⟨i,j,eV.mp ha,eV.mp hb,cD h1,q _ H (aQ.refl H) (eV.mpr rfl)⟩
  |_=>cases hg
 |lst xs=>
  cases b with
  |lst ys=>
   obtain⟨h1,h2⟩:=aY hg;subst h2;rw[b7]at ha hb;obtain⟨p,vs,ex,g1,g2⟩:=ha;obtain⟨p',vs',ey,g1',g2'⟩:=hb;refine xK pins s σ H x y u v Q I rx ry ⟨p,p',vs,vs',ex,ey,(aB H O).seq g1,(aB H O).seq g1',?_,λr hr=>?_⟩
   ·rw[<-g2.length,<-g2'.length];exact cD h1
   ·exact q _ _ (cQ hr _) (kd hO hr (g2.append g2'))
  |_=>cases hg
 |tup xs=>
  cases b with
  |tup ys=>
   obtain⟨h1,h2⟩:=aY hg;subst h2;have da:=ha;have db:=hb;rw[cg]at ha hb;obtain⟨p,vs,ex,g1,g2⟩:=ha;obtain⟨p',vs',ey,g1',g2'⟩:=hb;have l1:=g2.length;have l2:=g2'.length;refine AI pins s σ H x y u v Q I rx ry ⟨p,p',vs,vs',ex,ey,cy (aB H O) g1,cy (aB H O) g1',?_,λz=>?_,λz z'=>?_,λz z' r hr=>?_⟩
   ·rw[<-l1,<-l2];exact cD h1
   ·have e:xs=[]:=List.length_eq_zero_iff.mp (by rw[l1,z];rfl);rw[<-ey];refine q _ H (aQ.refl H) ?_;rw[e,Ro];exact db
   ·have e:ys=[]:=List.length_eq_zero_iff.mp (by rw[l2,z'];rfl);rw[<-ex];refine q _ H (aQ.refl H) ?_;rw[e,QB];exact da
   ·exact q _ _ (cQ hr _) (eD hO hr (g2.append g2'))
  |_=>cases hg
 |_=>cases hg
noncomputable def ap(a b:D):bx:=match a,b with
 |.tup xs,.int i=>nJ xs i
 |.lst xs,.int i=>nJ xs i
 |.str x,.int i=>if small x.length then(nJ x.cps.toList i).bind λc=>some (.str ⟨#[c]⟩)else none
 |_,_=>none
theorem wV{K:Sn}{H:Hp}{ds:List D}{vs:aI}{i:Int}{d:D}(h:aN K H ds vs)(e:nJ ds i=some d):∃v,nJ vs i=some v/\cf K H d v:=by
 unfold nJ at e ⊢;obtain⟨j,e1,e2⟩:=bind_some e;rw[<-h.length,e1];exact h.get e2
theorem M0:J6 X (rD X.K ap):=by
 rintro value slice pins s σ H x y u v Q I rx ry ⟨O,a,b,d,hO,ha,hb,hg,q⟩ hsub;cases a with
 |tup xs=>
  cases b with
  |int i=>
   rw[cg]at ha;obtain⟨p,vs,ex,g1,g2⟩:=ha;obtain⟨w,e1,e2⟩:=wV g2 hg;refine HH value slice pins s σ H x y u v Q I rx ry ?_ hsub;exact⟨p,vs,i,w,ex,eZ.mp hb,cy (aB H O) g1,e1,q w H (aQ.refl H) e2⟩
  |_=>cases hg
 |lst xs=>
  cases b with
  |int i=>
   rw[b7]at ha;obtain⟨p,vs,ex,g1,g2⟩:=ha;obtain⟨w,e1,e2⟩:=wV g2 hg;refine Dc value slice pins s σ H x y u v Q I rx ry ?_ hsub;exact⟨p,vs,i,w,ex,eZ.mp hb,(aB H O).seq g1,e1,q w H (aQ.refl H) e2⟩
  |_=>cases hg
 |str z=>
  cases b with
  |int i=>
   have hg':(if small z.length then(nJ z.cps.toList i).bind λc=>some (D.str ⟨#[c]⟩)else none)=some d:=hg;cases hs:small z.length with
   |false=>rw[hs]at hg';cases hg'
   |true=>
    rw[hs]at hg';obtain⟨c,e1,e2⟩:=bind_some hg';cases e2;refine G2 value slice pins s σ H x y u v Q I rx ry ?_ hsub;exact⟨z,i,c,eV.mp ha,eZ.mp hb,cD hs,e1,q _ H (aQ.refl H) (eV.mpr rfl)⟩
  |_=>cases hg
 |_=>cases hg
noncomputable def cutD{α:Type}(xs:List α)(lo hi:dr):List α:=(xs.drop (HT.sIx xs.length 0 lo)).take (HT.sIx xs.length xs.length hi-HT.sIx xs.length 0 lo)
theorem qJ{M:Ul}{A:Uj}{E:bL}{s:Ua}{t:T7}{items:Array T5}{Q:Bool->gZ}(ht:TJ s.heap t items)(h:Q true s):Um M A (Builtin.Tuple.tupleIsExact (.ref t)) Q E s:=by
 unfold Builtin.Tuple.tupleIsExact;refine Uw (U6 ht.typeIs ?_);exact Uv h
theorem kW{prog:Uc}{w:Ub}{A:Uj}{E:bL}{s:Ua}{t sl:T7}{items:Array T5}{vl vu:T5}{lo hi:dr}{Q:bL}(ht:TJ s.heap t items)(hs:s.heap.IsSliceOf sl vl vu .none)(pl:U1 vl lo)(pu:U1 vu hi)
  (hw:HT.sIx items.size 0 lo=0/\HT.sIx items.size items.size hi=items.size) (h:Q (.ref t) s):Um (model prog w) A (getItem (.ref t) (.ref sl)) Q E s:=by
 obtain⟨os,hos,hcs,hds⟩:=id hs;have hTs:s.TypeIs (.ref sl) "slice":=⟨os,hos,hcs⟩
 unfold getItem
 try with_reducible refine U3 ?_
 first|refine Uw (Uv ?_)|skip
 refine Uw (wpAny_sequenceKey ht.typeIs (by decide) ?_);refine Uw (U4 (name:=Str.ofString "__getitem__") ht.typeIs TF
  (U5 TF ht.typeIs PyProof.Rows.entry_tuple_getitem ?_ (PyProof.Rows.args_tuple_getitem _ _)))
 show Um _ _ (Builtin.Tuple.tupleItemsOf (.ref t) >>= _) _ _ s;refine Uw (PyProof.Rows.tupleItemsOf_ ht ?_);refine Uw (U6 hTs ?_);rw[if_pos (by decide)];refine Uw (HT.mE hs pl pu ?_);have hyes:(((HT.sIx items.size 0 lo:Nat):Int)==0&&(1:Int)==1&&(HT.sIx items.size items.size hi-HT.sIx items.size 0 lo)==items.size)=true:=by
  rw[hw.1,hw.2];simp
 show Um _ _ (if(((HT.sIx items.size 0 lo:Nat):Int)==0&&(1:Int)==1&&(HT.sIx items.size items.size hi-HT.sIx items.size 0 lo)==items.size)=true then _ else _) _ _ s;rw[if_pos hyes];refine Uw (qJ ht ?_);rw[if_pos rfl]
 first
  |exact Uw (U9 (Uv ⟨_,rfl,Uv h⟩))
  |exact Uw (U9 (Uw (Uv (Uv ⟨_,rfl,Uv h⟩))))
noncomputable def pX(a:D)(lo hi:dr):bx:=match a with
 |.lst xs=>some (.lst (cutD xs lo hi))
 |.tup xs=>some (.tup (cutD xs lo hi))
 |.str x=>if small x.length then some (.str ⟨(cutD x.cps.toList lo hi).toArray⟩)else none
 |_=>none
theorem Gf(v:dr)(d n:Nat)(hd:d<=n):(match v with|none=>(d:Int)|some i=>if(1:Int)>0 then max 0 (min (if i<0 then i+(n:Int)else i) (n:Int))else max (-1) (min (if i<0 then i+(n:Int)else i) ((n:Int)-1)))=((HT.sIx n d v:Nat):Int):=by
 cases v with
 |none=>rfl
 |some i=>
  show(if(1:Int)>0 then max 0 (min (if i<0 then i+(n:Int)else i) (n:Int))else max (-1) (min (if i<0 then i+(n:Int)else i) ((n:Int)-1)))=(((if i<0 then(i+(n:Int)).toNat else min i.toNat n):Nat):Int)
  rw[if_pos (by decide)];by_cases h:i<0
  ·rw[if_pos h,if_pos h];omega
  ·rw[if_neg h,if_neg h];omega
theorem B1(lo hi:dr)(n:Nat):Builtin.Str.strSliceIndices lo hi 1 n=(List.range (HT.sIx n n hi-HT.sIx n 0 lo)).map λk=>HT.sIx n 0 lo+k:=by
 have e1:=Gf lo 0 n (QA _);have e2:=Gf hi n n (Qq _);have e:Builtin.Str.strSliceIndices lo hi 1 n=sliceRange ((HT.sIx n 0 lo:Nat):Int) ((HT.sIx n n hi:Nat):Int) 1:=by
  rw[<-e1,<-e2];cases lo<;>cases hi<;>rfl
 rw[e];unfold sliceRange;dsimp only;rw[if_pos (by decide:(1:Int)>0)];have e3:(if((HT.sIx n 0 lo:Nat):Int)<((HT.sIx n n hi:Nat):Int)then(((HT.sIx n n hi:Nat):Int)-((HT.sIx n 0 lo:Nat):Int)+1-1)/1 else 0:Int).toNat=HT.sIx n n hi-HT.sIx n 0 lo:=by
  rw[Int.ediv_one];split<;>omega
 rw[e3];refine Rp λk _=>?_;omega
theorem Ba{α:Type}(l:List α)(a:Nat):∀n:Nat,((List.range n).map λk=>a+k).filterMap (λi=>l[i]?)=(l.drop a).take n
 |0=>by simp
 |n+1=>by
  rw[List.range_succ,Rq,List.filterMap_append,Ba l a n,List.take_add_one,List.getElem?_drop];cases e:l[a+n]?<;>simp[e]
theorem zD(x:Str)(lo hi:dr):Txt.slice x lo hi=⟨(cutD x.cps.toList lo hi).toArray⟩:=by
 have hl:x.cps.toList.length=x.length:=by simp[Str.length]
 have pick:(Builtin.Str.strSliceIndices lo hi 1 x.length).filterMap (x.cps[·]?)=cutD x.cps.toList lo hi:=by
  rw[B1];have q:=Ba x.cps.toList (HT.sIx x.length 0 lo) (HT.sIx x.length x.length hi-HT.sIx x.length 0 lo);unfold cutD;rw[hl,<-q];congr 1;funext i;simp
 unfold Txt.slice;split
 ·rename_i h;have h':(Builtin.Str.strSliceIndices lo hi 1 x.length).length=x.length:=by simpa using h
  rw[B1,Qx,Rr]at h';have h1:=HT.Gp x.length x.length (Qq _) hi;have z1:HT.sIx x.length 0 lo=0\/x.length=0:=by omega
  have e:cutD x.cps.toList lo hi=x.cps.toList:=by
   unfold cutD;rw[hl,h'];rcases z1 with z1|z1
   ·rw[z1,Rc,<-hl,Rt]
   ·have:x.cps.toList=[]:=List.length_eq_zero_iff.mp (by rw[hl];exact z1)
    rw[this];simp
  rw[e]
 ·rw[pick]
noncomputable def NF(K:Sn):V->dr->dr->Hp->VK->Prop:=λx lo hi H Q=>∃O a d,dM H O/\cf K (hid H O) a x/\pX a lo hi=some d/\∀v H',aQ H H'->cf K (hid H' O) d v->Q v H'
theorem aN.cut{K:Sn}{H:Hp}{ds:List D}{vs:aI}(h:aN K H ds vs)(lo hi:dr):aN K H (cutD ds lo hi) (vv vs lo hi):=by
 unfold cutD vv;rw[h.length];exact(h.drop _).take _
theorem MA:KJ X (NF X.K):=by
 rintro pins s σ H x v vl vu lo hi sl Q I rx hs pl pu ⟨O,a,d,hO,ha,hg,q⟩;cases a with
 |lst xs=>
  cases hg;rw[b7]at ha;obtain⟨p,vs,ex,g1,g2⟩:=ha;exact D3 pins s σ H x v vl vu lo hi sl Q I rx hs pl pu ⟨p,vs,ex,(aB H O).seq g1,λr hr=>q _ _ (cQ hr _) (kd hO hr (g2.cut lo hi))⟩
 |tup xs=>
  cases hg;have da:=ha;rw[cg]at ha;obtain⟨p,vs,ex,g1,g2⟩:=ha;by_cases hw:HT.sIx vs.length 0 lo=0/\HT.sIx vs.length vs.length hi=vs.length
  ·subst ex;cases rx;obtain⟨its,r,ht,hz⟩:=I.tuple (cy (aB H O) g1);have hlen:its.toArray.size=vs.length:=(by rw[Qs];exact r.length.symm);refine⟨"tuple",_,PyProof.Rows.slot_tuple_getitem.lookup,ht.typeIs,kW ht hs pl pu (by rw[hlen];exact hw) ⟨.ref p,H,I,rfl,q _ H (aQ.refl H) ?_⟩⟩;have e:cutD xs lo hi=xs:=by
    unfold cutD;rw[g2.length,hw.1,hw.2,Ru,Rc,<-g2.length,Rt]
   rw[e];exact da
  ·exact Gv pins s σ H x v vl vu lo hi sl Q I rx hs pl pu ⟨p,vs,ex,cy (aB H O) g1,hw,λr hr=>q _ _ (cQ hr _) (eD hO hr (g2.cut lo hi))⟩
 |str z=>
  obtain⟨h1,h2⟩:=aY hg;subst h2;rw[eV]at ha;subst ha;obtain⟨t,rfl⟩:=rx;have fin:∀t' tk,EP X pins σ Q (.str (Txt.slice z lo hi) t') {s with toks:=tk}:=λt' tk=>by
   rw[zD];exact⟨.str _,H,I.tok _,⟨_,rfl⟩,q _ H (aQ.refl H) (eV.mpr rfl)⟩
  obtain⟨os,hos,hcs,hds⟩:=id hs;have hz:=cD h1;refine⟨"str",_,F.slot_str_getitem.lookup,typeIs_str _ _ _,?_⟩;cases pl with
  |none=>
   cases pu with
   |none=>exact Va (l:=none) (u:=none) (st:=none) ⟨os,hos,hcs,hds⟩ rfl (Vb ⟨Qh (Txt.slice_le z _ _) hz,λt' k=>fin t' k⟩)
   |int j tj=>exact Va (l:=none) (u:=some (j,tj)) (st:=none) ⟨os,hos,hcs,hds⟩ rfl (Vb ⟨Qh (Txt.slice_le z _ _) hz,λt' k=>fin t' k⟩)
  |int i ti=>
   cases pu with
   |none=>exact Va (l:=some (i,ti)) (u:=none) (st:=none) ⟨os,hos,hcs,hds⟩ rfl (Vb ⟨Qh (Txt.slice_le z _ _) hz,λt' k=>fin t' k⟩)
   |int j tj=>exact Va (l:=some (i,ti)) (u:=some (j,tj)) (st:=none) ⟨os,hos,hcs,hds⟩ rfl (Vb ⟨Qh (Txt.slice_le z _ _) hz,λt' k=>fin t' k⟩)
 |_=>cases hg
noncomputable def gx:av->R (dr):=λ_=>.ok none
noncomputable def vY:D->Option (dr)
 |.int i=>some (some i)
 |_=>none
noncomputable def lQ(f:FX):av->R (dr):=λρ=>(f ρ).bind λd=>rO (vY d)
noncomputable def OI(X:Cx)(F:av->R dr):TO:=λσ H Q=>∃O ρ,dz X.K O H ρ σ/\fi X σ O H (F ρ) λo=>∀H',aQ H H'->Q o H'
noncomputable def FO(X:Cx)(e:Option T8)(F:av->R dr):Prop:=PO X e (OI X F)
noncomputable def jc(f:FX)(l h:av->R dr):FX:=λρ=>(f ρ).bind λa=>(l ρ).bind λlo=>(h ρ).bind λhi=>rO (pX a lo hi)
end
end TG
namespace TG
open PySem PySem.Spec L2
variable[ay]
noncomputable def CT(K:Sn)(g:List D->bx):aI->Hp->VK->Prop:=λxs H Q=>∃O ds d,dM H O/\aN K (hid H O) ds xs/\g ds=some d/\∀v H',aQ H H'->cf K (hid H' O) d v->Q v H'
theorem pz{K:Sn}{g:List D->bx}:xX K (CT K g) g:=λds d xs O H Q hO hg hd q=>⟨O,ds,d,hO,hd,hg,q⟩
section
variable{X:Cx}{x:Str}{p pos:Pos}{e:T8}{es:bi}{id T:String}{g:List D->bx}{f:aO}
noncomputable def fj:List D->bx
 |[.lst xs]=>some (.int xs.length)
 |[.tup xs]=>some (.int xs.length)
 |[.str x]=>if small x.length then some (.int x.length)else none
 |_=>none
theorem yD:eG X (.builtin "len") (CT X.K fj):=by
 rintro pins s σ H xs us Q I r ⟨O,ds,d,hO,hd,hg,q⟩;unfold fj at hg;split at hg
 ·rename_i ys;cases hg;obtain⟨v,ev,h1⟩:=hd.one;rw[b7]at h1;obtain⟨p,vs,ep,g1,g2⟩:=h1;exact md pins s σ H xs us Q I r ⟨p,vs,by rw[ev,ep],.inl ((aB H O).seq g1),q _ H (aQ.refl H) (eZ.mpr (by rw[g2.length]))⟩
 ·rename_i ys;cases hg;obtain⟨v,ev,h1⟩:=hd.one;rw[cg]at h1;obtain⟨p,vs,ep,g1,g2⟩:=h1;exact md pins s σ H xs us Q I r ⟨p,vs,by rw[ev,ep],.inr (cy (aB H O) g1),q _ H (aQ.refl H) (eZ.mpr (by rw[g2.length]))⟩
 ·rename_i z;obtain⟨h1,h2⟩:=aY hg;subst h2;obtain⟨v,ev,h1'⟩:=hd.one;exact sV pins s σ H xs us Q I r ⟨z,by rw[ev,eV.mp h1'],cD h1,q _ H (aQ.refl H) (eZ.mpr rfl)⟩
 ·cases hg
noncomputable def gh:List D->bx
 |[.lst xs]=>some (.tup xs)
 |[.tup xs]=>some (.tup xs)
 |_=>none
theorem uE:eG X (.type "tuple") (CT X.K gh):=by
 rintro pins s σ H xs us Q I r ⟨O,ds,d,hO,hd,hg,q⟩;unfold gh at hg;split at hg
 ·rename_i ys;cases hg;obtain⟨v,ev,h1⟩:=hd.one;rw[b7]at h1;obtain⟨p,vs,ep,g1,g2⟩:=h1;exact ly pins s σ H xs us Q I r ⟨p,vs,by rw[ev,ep],.inl ⟨(aB H O).seq g1,λl hl=>q _ _ (cQ hl _) (eD hO hl g2)⟩⟩
 ·rename_i ys;cases hg;obtain⟨v,ev,h1⟩:=hd.one;have h0:=h1;rw[cg]at h1;obtain⟨p,vs,ep,g1,g2⟩:=h1;rw[ep]at h0;exact ly pins s σ H xs us Q I r ⟨p,vs,by rw[ev,ep],.inr ⟨cy (aB H O) g1,q _ H (aQ.refl H) h0⟩⟩
 ·cases hg
noncomputable def oh:List D->bx
 |[.int i,.int j]=>some (.int (if j>i then j else i))
 |_=>none
noncomputable def n6:List D->bx
 |[.int i,.int j]=>some (.int (if j<i then j else i))
 |_=>none
theorem v6(hc:X.calm=true):eG X (.builtin "max") (CT X.K oh):=by
 rintro pins s σ H xs us Q I r ⟨O,ds,d,hO,hd,hg,q⟩;unfold oh at hg;split at hg
 ·rename_i i j;cases hg;obtain⟨v,w,ev,h1,h2⟩:=hd.two;exact yR hc pins s σ H xs us Q I r ⟨i,j,by rw[ev,eZ.mp h1,eZ.mp h2],q _ H (aQ.refl H) (eZ.mpr rfl)⟩
 ·cases hg
theorem v9(hc:X.calm=true):eG X (.builtin "min") (CT X.K n6):=by
 rintro pins s σ H xs us Q I r ⟨O,ds,d,hO,hd,hg,q⟩;unfold n6 at hg;split at hg
 ·rename_i i j;cases hg;obtain⟨v,w,ev,h1,h2⟩:=hd.two;exact yy hc pins s σ H xs us Q I r ⟨i,j,by rw[ev,eZ.mp h1,eZ.mp h2],q _ H (aQ.refl H) (eZ.mpr rfl)⟩
 ·cases hg
noncomputable def GN:D->String
 |.non=>"NoneType"
 |.bl _=>"bool"
 |.int _=>"int"
 |.str _=>"str"
 |.tup _=>"tuple"
 |.lst _=>"list"
 |.dct _ _=>"dict"
 |_=>""
noncomputable def ER(T:String)(d:D):Bool:=match d with
 |.bl _=>T=="bool"||T=="int"
 |.non=>T=="NoneType"
 |.int _=>T=="int"
 |.str _=>T=="str"
 |.tup _=>T=="tuple"
 |.lst _=>T=="list"
 |.dct _ _=>T=="dict"
 |_=>false
noncomputable def vG(K:Sn)(T:String):Prop:=∀d:D,top d=true->S4 K (.type (GN d)) (.type T)=some (ER T d)
noncomputable def MG(K:Sn)(T:String):aI->Hp->VK->Prop:=λxs H Q=>∃O x d,xs=[x,.ty T]/\top d=true/\cf K (hid H O) d x/\Q (.bl (ER T d)) H
theorem A4(ok:vG X.K T):eG X (.builtin "isinstance") (MG X.K T):=by
 rintro pins s σ H xs us Q I r ⟨O,x,d,ex,td,hd,q⟩;subst ex;obtain⟨u,w',rfl,rx,rt⟩:=vals2 r;cases rt;have e:=ok d td;have fin:∀tk,EP X pins σ Q (.bool (ER T d)) {s with toks:=tk}:=λtk=>⟨.bl _,H,I.tok _,rfl,q⟩
 cases eA I td (hd.mono (aB H O)) rx with
 |non=>exact S5 PySem.W.kitx_none I.kIn True.intro e (λz=>nomatch z) fin
 |bl b=>exact S5 PySem.W.kitx_bool I.kIn True.intro e (λz=>nomatch z) fin
 |int i t=>exact S5 PySem.W.kitx_int I.kIn True.intro e (λz=>nomatch z) fin
 |str y t=>exact S5 PySem.W.kitx_str I.kIn True.intro e (λz=>nomatch z) fin
 |tup h rv t=>
  obtain⟨o,h1,h2,_⟩:=t;exact S5 PySem.W.kitx_tuple I.kIn ⟨o,h1,h2⟩ e (λz=>nomatch z) fin
 |lst h rv t=>
  obtain⟨o,h1,h2,_⟩:=t;exact S5 PySem.W.kitx_list I.kIn ⟨o,h1,h2⟩ e (λz=>nomatch z) fin
theorem lO:Ui "isinstance"=some (.builtin "isinstance"):=by first|rfl|decide +kernel
noncomputable def Ak(T:String)(d:D):bx:=if top d then some (.bl (ER T d))else none
noncomputable def oA(T:String)(f:FX):FX:=f1 (Ak T) f
end
section
variable{X:Cx}{a:T8}{f:FX}{pos:Pos}
noncomputable def isNon:D->Bool
 |.non=>true
 |_=>false
theorem zK{K:Sn}{H:Hp}{d:D}{v:V}(h:cf K H d v):decide (v=.non)=isNon d:=by
 cases d with
 |non=>rw[jm.mp h];rfl
 |bl b=>rw[ju.mp h];rfl
 |int i=>rw[eZ.mp h];rfl
 |str x=>rw[eV.mp h];rfl
 |tup xs=>obtain⟨_,_,e,_⟩:=cg.mp h;rw[e];rfl
 |lst xs=>obtain⟨_,_,e,_⟩:=b7.mp h;rw[e];rfl
 |dct _ _=>obtain⟨_,_,e,_⟩:=KN.mp h;rw[e];rfl
 |obj _ _ _=>obtain⟨_,_,e,_⟩:=Ku.mp h;rw[e];rfl
 |exc _ _ _=>obtain⟨_,_,e,_⟩:=Kt.mp h;rw[e];rfl
noncomputable def M5(d:D):bx:=some (.bl (isNon d))
noncomputable def J8(d:D):bx:=some (.bl (!isNon d))
noncomputable def uz(f:FX):FX:=f1 M5 f
noncomputable def Jv(f:FX):FX:=f1 J8 f
theorem wN:∀σ H Q,tF X (uz f) σ H Q->tF X f σ H λv H'=>Q (.bl (decide (v=.non))) H':=λσ H Q ⟨O,ρ,E,hF⟩=>⟨O,ρ,E,(fi.bind hF).imp λa hF v H1 s1 d1=>by
 obtain⟨d,e,q⟩:=fi.rO hF;cases e;rw[zK d1];exact q _ H1 s1 (ju.mpr rfl)⟩
end
noncomputable def Walk(K:Sn)(Hd:Hp)(J:It)(ds:List D):Prop:=
 ∀(Hn:Hp)(O':aH)(i:Nat),dM Hn O'->aQ Hd (hid Hn O')->(∀d,ds[i]?=some d->J.go i Hn/\∀x H2,J.yld i Hn x H2->aQ Hn H2/\cf K (hid H2 O') d x)/\(i=ds.length->J.stop i Hn)
noncomputable def Ls(X:Cx)(G:aO):TI:=λσ H RR=>∃O ρ,dz X.K O H ρ σ/\fi X σ O H (G ρ) λds=>∀J H1,aQ H H1->Walk X.K (hid H1 O) J ds->RR J H1
noncomputable def FI(X:Cx)(tg iter:T8)(G:aO):Prop:=PI X tg iter (Ls X G)
noncomputable def pS:D->Option (List D)
 |.lst xs=>some xs
 |.tup xs=>some xs
 |_=>none
noncomputable def bV(f:FX):aO:=λρ=>(f ρ).bind λd=>rO (pS d)
section
variable{X:Cx}{tg:T8}
theorem yq{K:Sn}{Hd:Hp}{a:T7}{ds:List D}{vs:aI}(h:lI K Hd a vs)(g:aN K Hd ds vs):Walk K Hd (MH K a) ds:=λHn O' i hO s=>
  have s':aQ Hd Hn:=s.trans (aB Hn O')
  ⟨fun d e=>by
    obtain⟨v,ev,dv⟩:=g.get e;refine⟨⟨vs,v,s'.seq h,ev⟩,λx H2 ⟨e2,y⟩=>?_⟩;have q:=y vs (s'.seq h);rw[ev]at q;cases q;subst e2;exact⟨aQ.refl _,dv.mono s⟩,
   λhl=>⟨vs,s'.seq h,by rw[<-g.length];exact Qy hl.symm⟩⟩
theorem BJ{K:Sn}{Hd:Hp}{a:T7}{ds:List D}{vs:aI}(h:Hd a=some (.tup vs))(g:aN K Hd ds vs):Walk K Hd (LR K a) ds:=λHn O' i hO s=>
  have s':aQ Hd Hn:=s.trans (aB Hn O')
  ⟨fun d e=>by
    obtain⟨v,ev,dv⟩:=g.get e;refine⟨⟨vs,v,cy s' h,ev⟩,λx H2 ⟨e2,y⟩=>?_⟩;have q:=y vs (cy s' h);rw[ev]at q;cases q;subst e2;exact⟨aQ.refl _,dv.mono s⟩,
   λhl=>⟨vs,cy s' h,by rw[<-g.length];exact Qy hl.symm⟩⟩
noncomputable def dF(lo:Int)(n:Nat):List D:=(List.range n).map λ(k:Nat)=>D.int (lo+(k:Int))
theorem qE(lo:Int)(n:Nat):(dF lo n).length=n:=by unfold dF;rw[Qx,Rr]
theorem pG{K:Sn}{Hd:Hp}(lo:Int)(n:Nat):Walk K Hd (JQ lo n) (dF lo n):=λHn O' i hO s=>
  ⟨fun d e=>by
    unfold dF at e;rw[QI]at e;cases hi:(List.range n)[i]? with
    |none=>rw[hi]at e;cases e
    |some k=>
      rw[hi]at e;cases e;have hlt:i<n:=by
        have:=(List.getElem?_eq_some_iff.mp hi).1
        rwa [Rr]at this
      have ek:k=i:=by
        rw[Rv hlt]at hi;exact(Option.some.inj hi).symm
      subst ek;exact⟨hlt,λx H2 ⟨e1,e2⟩=>by subst e1;exact⟨aQ.refl _,eZ.mpr e2⟩⟩,
   λhl=>by rw[qE]at hl;exact Qy hl.symm⟩
noncomputable def okR(j:Int):Bool:=decide (-(2^62)<=j/\j<2^62)
noncomputable def kK:List D->Option (List D)
 |[.int j]=>if okR j then some (dF 0 j.toNat)else none
 |_=>none
noncomputable def lX:List D->Option (List D)
 |[.int i,.int j]=>if okR i&&okR j then some (dF i (j-i).toNat)else none
 |_=>none
noncomputable def du(f:aO):aO:=λρ=>(f ρ).bind λds=>rO (kK ds)
noncomputable def ml(f:aO):aO:=λρ=>(f ρ).bind λds=>rO (lX ds)
end
noncomputable abbrev GF:=D->av->Option av
noncomputable def Kk(K:Sn)(g:GF):TG:=λv σ H Q=>∃O ρ d ρ',dz K O H ρ σ/\cf K (hid H O) d v/\g d ρ=some ρ'/\∀σ',dz K O H ρ' σ'->(∀(i:Nat) x,ρ'[i]?=some (some x)->(∀d,x≠.val d)->σ'[i]?=σ[i]?/\ρ[i]?=some (some x))->Q σ' H
noncomputable def FG(X:Cx)(tg:T8)(g:GF):Prop:=PG X tg (Kk X.K g)
noncomputable def setV(i:Nat)(d:D)(ρ:av):av:=ρ.set i (some (.val d))
theorem bc{α:Type}{l:List α}{i j:Nat}{a b:α}(h:(l.set i a)[j]?=some b):(j=i/\b=a)\/(j≠i/\l[j]?=some b):=by
 by_cases e:j=i
 ·subst e;left;have hj:j<(l.set j a).length:=(List.getElem?_eq_some_iff.mp h).1;rw[List.length_set]at hj;rw[Qn hj]at h;exact⟨rfl,(Option.some.inj h).symm⟩
 ·right;rw[Qo (Ne.symm e)]at h;exact⟨e,h⟩
theorem dz.setV{K:Sn}{O:aH}{H:Hp}{ρ:av}{σ:St}(E:dz K O H ρ σ){i:Nat}{d:D}{v:V}(hi:i<σ.length)(hd:cf K (hid H O) d v):dz K O H (setV i d ρ) (σ.set i (some v)):=
  ⟨fun j d' e=>by
    rcases bc e with⟨hj,eq⟩|⟨ne,eq⟩
    ·cases eq;rw[hj];exact⟨v,Qn hi,hd⟩
    · obtain⟨w,e1,e2⟩:=E.val j d' eq
      exact⟨w,by rw[Qo (Ne.symm ne)];exact e1,e2⟩,
   λj xs e=>by
    rcases bc e with⟨_,eq⟩|⟨ne,eq⟩
    ·cases eq
    · obtain⟨a,e1,e2⟩:=E.own j xs eq
      exact⟨a,by rw[Qo (Ne.symm ne)];exact e1,e2⟩,
   λj k xs ys a e1 e2 e3 e4=>by
    rcases bc e1 with⟨_,q1⟩|⟨ne1,q1⟩
    ·cases q1
    · rcases bc e2 with⟨_,q2⟩|⟨ne2,q2⟩
      ·cases q2
      · rw[Qo (Ne.symm ne1)]at e3
        rw[Qo (Ne.symm ne2)]at e4;exact E.one j k xs ys a q1 q2 e3 e4,E.all⟩
section
variable{X:Cx}{pos:Pos}
noncomputable def gN(i:Nat):GF:=λd ρ=>some (setV i d ρ)
noncomputable abbrev Ae:=List D->av->Option av
noncomputable def MY(K:Sn)(g:Ae):Gb:=λvs σ H Q=>∃O ρ ds ρ',dz K O H ρ σ/\aN K (hid H O) ds vs/\g ds ρ=some ρ'/\∀σ',dz K O H ρ' σ'->(∀(i:Nat) x,ρ'[i]?=some (some x)->(∀d,x≠.val d)->σ'[i]?=σ[i]?/\ρ[i]?=some (some x))->Q σ' H
noncomputable def PP(X:Cx)(ts:bi)(g:Ae):Prop:=Jq X ts (MY X.K g)
noncomputable def Gd:Ae:=λds ρ=>match ds with
 |[]=>some ρ
 |_=>none
noncomputable def Aw(g:GF)(h:Ae):Ae:=λds ρ=>match ds with
 |d::r=>(g d ρ).bind λρ1=>h r ρ1
 |_=>none
noncomputable def gT(n:Nat)(g:Ae):GF:=λd ρ=>match d with
 |.tup xs=>if xs.length=n then g xs ρ else none
 |_=>none
end
noncomputable def zE{α:Type}(r:R α):R α:=match r with
 |.ok a=>.ok a
 |.error _=>un
theorem A6{α:Type}{r:R α}{a:α}(h:zE r=.ok a):r=.ok a:=by
 cases r with
 |ok b=>exact h
 |error z=>cases h
noncomputable def inB(ix:fZ)(ρ:av):av:=ix.map λo=>match o with
 |some i=>match ρ[i]? with
  |some (some (.val d))=>some (.val d)
  |_=>none
 |none=>none
noncomputable def yF(ρ:av)(g:GF)(C:bZ)(Fe:FX):List D->R (List D)
 |[]=>.ok []
 |d::ds=>(rO (g d ρ)).bind λρ1=>(zE (C ρ1)).bind λc=>if c then(zE (Fe ρ1)).bind λv=>(yF ρ g C Fe ds).bind λr=>.ok (v::r)else yF ρ g C Fe ds
theorem lZ(ρ:av)(g:GF)(C:bZ)(Fe:FX)(d:D)(ds:List D):yF ρ g C Fe (d::ds)=(rO (g d ρ)).bind λρ1=>(zE (C ρ1)).bind λc=>if c then(zE (Fe ρ1)).bind λv=>(yF ρ g C Fe ds).bind λr=>.ok (v::r)else yF ρ g C Fe ds:=rfl
noncomputable def fU(ix:fZ)(G:aO)(g:GF)(C:bZ)(Fe:FX):FX:=λρ=>(G ρ).bind λds=>if small ds.length then zE ((yF (inB ix ρ) g C Fe ds).bind λr=>.ok (.lst r))else un
noncomputable def NV(X:Cx)(ifs:bi)(F:bZ):Prop:=GR X ifs (KR X F)
noncomputable def bX:bZ:=λ_=>.ok true
theorem lM{ix:fZ}{ρ:av}{j:Nat}{x:S}(e:(inB ix ρ)[j]?=some (some x)):∃i d,ix[j]?=some (some i)/\ρ[i]?=some (some (.val d))/\x=.val d:=by
 unfold inB at e;rw[QI]at e;cases q:ix[j]? with
 |none=>rw[q]at e;cases e
 |some o=>
  rw[q]at e;cases o with
  |none=>cases e
  |some i=>
   have e':(match ρ[i]? with|some (some (.val d))=>some (S.val d)|_=>none)=some x:=Option.some.inj e;split at e'
   ·rename_i d hd;cases e';exact⟨i,d,rfl,hd,rfl⟩
   ·cases e'
theorem DC{K:Sn}{O:aH}{H:Hp}{ρ:av}{σ:St}(ix:fZ)(E:dz K O H ρ σ):dz K O H (inB ix ρ) (inBlock ix σ):=by
 refine⟨λj d e=>?_,λj xs e=>?_,λj k xs ys a e=>?_,E.all⟩
 ·obtain⟨i,d',q1,q2,q3⟩:=lM e;cases q3;obtain⟨v,e1,e2⟩:=E.val i d q2;refine⟨v,?_,e2⟩;unfold inBlock;rw[QI,q1];show some ((σ[i]?).getD none)=some (some v);rw[e1];rfl
 ·obtain⟨_,_,_,_,q3⟩:=lM e;cases q3
 ·obtain⟨_,_,_,_,q3⟩:=lM e;cases q3
theorem uq{H:Hp}{O:aH}{p:T7}{o:HO}(hp:H p=none):aQ (hid H O) (hid (upd H p o) (p::O)):=λb u h=>by
 unfold hid at h ⊢;by_cases hb:b∈O
 ·rw[if_pos hb]at h;cases h
 ·rw[if_neg hb]at h;have ne:=aP h hp;rw[if_neg (by intro z;rcases List.mem_cons.mp z with z|z;exact ne z;exact hb z),aw ne];exact h
theorem dz.hideNew{K:Sn}{O:aH}{H:Hp}{ρ:av}{σ:St}{p:T7}{o:HO}(m:tV o)(E:dz K O H ρ σ)(hp:H p=none):dz K (p::O) (upd H p o) ρ σ:=by
 have s:aQ (hid H O) (hid (upd H p o) (p::O)):=uq hp;refine⟨λi d e=>let ⟨v,a,b⟩:=E.val i d e;⟨v,a,b.mono s⟩,λi xs e=>?_,E.one,(E.all.same (cQ hp o)).cons aA m⟩;obtain⟨a,e1,e2,e3⟩:=E.own i xs e;obtain⟨u,hu⟩:=e3.some;exact⟨a,e1,Ql _ e2,e3.mono (by rw[aw (aP hu hp)]) s⟩
theorem dz.rewrite{K:Sn}{O:aH}{H:Hp}{ρ:av}{σ:St}{p:T7}{o:HO}(m:tV o)(E:dz K O H ρ σ)(hp:p∈O)(hs:∀(i:Nat) xs,ρ[i]?=some (some (.own xs))->σ[i]?≠some (some (.ref p))):dz K O (upd H p o) ρ σ:=by
 have s:aQ (hid H O) (hid (upd H p o) O):=kO hp;refine⟨λi d e=>let ⟨v,a,b⟩:=E.val i d e;⟨v,a,b.mono s⟩,λi xs e=>?_,E.one,E.all.upd hp m⟩;obtain⟨a,e1,e2,e3⟩:=E.own i xs e;have ne:a≠p:=λz=>hs i xs e (by rw[<-z];exact e1);exact⟨a,e1,e2,e3.mono (by rw[aw ne]) s⟩
theorem dz.forget{K:Sn}{O:aH}{H:Hp}{ρ ρ':av}{σ:St}(E:dz K O H ρ σ)(h:∀(i:Nat) x,ρ'[i]?=some (some x)->ρ[i]?=some (some x)):dz K O H ρ' σ:=
 ⟨λi d e=>E.val i d (h i _ e),λi xs e=>E.own i xs (h i _ e),λi j xs ys a e1 e2=>E.one i j xs ys a (h i _ e1) (h j _ e2),E.all⟩
noncomputable def Fills(ρ:av)(g:GF):Prop:=∀d ρ1,g d ρ=some ρ1->∀(i:Nat) x,ρ[i]?=some (some x)->ρ1[i]?=some (some x)
theorem qP(ix:fZ)(ρ:av):∀(i:Nat) xs,(inB ix ρ)[i]?≠some (some (.own xs)):=by
 intro j xs e;obtain⟨_,_,_,_,q3⟩:=lM e;cases q3
theorem J1{α:Type}{o:Option α}{a:α}(h:rO o=.ok a):o=some a:=by
 cases o with
 |none=>cases h
 |some b=>cases h;rfl
end TG
namespace TG
open PySem PySem.Spec L2
variable[ay]
section
variable{X:Cx}{elt tg iter:T8}{ifs:bi}{scope:Uk}{pos:Pos}{N:ax}{ix:fZ}{G:aO}{g:GF}{C:bZ}{Fe:FX}
structure oC(ix:fZ)(g:GF):Prop where
 fill:∀ρ,Fills (inB ix ρ) g
 own:∀ρ d ρ1,g d (inB ix ρ)=some ρ1->∀(i:Nat) xs,ρ1[i]?≠some (some (.own xs))
theorem vh{ρ:av}{i:Nat}(h:ix[i]?=some none):∀x,(inB ix ρ)[i]?≠some (some x):=λx e=>by
 obtain⟨_,_,q,_⟩:=lM e;rw[h]at q;cases q
theorem kn{i:Nat}(h:ix[i]?=some none):oC ix (gN i):=
  ⟨fun ρ d ρ1 e j x q=>by
    cases e;by_cases z:j=i
    ·subst z;exact absurd q (vh h x)
    ·unfold setV;rw[Qo (Ne.symm z)];exact q,
   λρ d ρ1 e j xs q=>by
    cases e;rcases bc q with⟨_,z⟩|⟨_,z⟩
    ·cases z
    ·exact qP ix ρ j xs z⟩
noncomputable def Eg(ix:fZ)(is:List Nat):Bool:=is.all λi=>match ix[i]? with
 |some none=>true
 |_=>false
noncomputable def qt:List Nat->Ae
 |[]=>Gd
 |i::is=>Aw (gN i) (qt is)
theorem xk:∀(is:List Nat)(ds:List D)(ρ ρ1:av),qt is ds ρ=some ρ1->∀(k:Nat)(x:S),ρ1[k]?=some (some x)->(k∈is/\∃d,x=.val d)\/ρ[k]?=some (some x)
 |[],ds,ρ,ρ1,h,k,x,e=>by
  cases ds with
  |nil=>cases h;exact .inr e
  |cons _ _=>cases h
 |i::is,ds,ρ,ρ1,h,k,x,e=>by
  cases ds with
  |nil=>cases h
  |cons d ds=>
   rcases xk is ds (setV i d ρ) ρ1 h k x e with⟨a,b⟩|q
   ·exact .inl ⟨Ql _ a,b⟩
   ·rcases bc q with⟨z,w⟩|⟨_,w⟩
    ·exact .inl ⟨by rw[z];exact Qk,d,Option.some.inj w⟩
    ·exact .inr w
theorem vk:∀(is:List Nat)(ds:List D)(ρ ρ1:av),qt is ds ρ=some ρ1->∀(k:Nat)(x:S),k∉is->ρ[k]?=some (some x)->ρ1[k]?=some (some x)
 |[],ds,ρ,ρ1,h,k,x,_,e=>by
  cases ds with
  |nil=>cases h;exact e
  |cons _ _=>cases h
 |i::is,ds,ρ,ρ1,h,k,x,n,e=>by
  cases ds with
  |nil=>cases h
  |cons d ds=>
   refine vk is ds (setV i d ρ) ρ1 h k x (λz=>n (Ql _ z)) ?_;unfold setV;rw[Qo (λz=>n (by rw[z];exact Qk))];exact e
theorem jf{is:List Nat}{n:Nat}(h:Eg ix is=true):oC ix (gT n (qt is)):=by
 have hn:∀i∈is,ix[i]?=some none:=λi hi=>by
  have:=List.all_eq_true.mp h i hi
  cases e:ix[i]? with
  |none=>rw[e]at this;cases this
  |some o=>cases o with
   |none=>rfl
   |some _=>rw[e]at this;cases this
 have shape:∀ρ d ρ1,gT n (qt is) d ρ=some ρ1->∃ds,qt is ds ρ=some ρ1:=λρ d ρ1 e=>by
  cases d with
  |tup xs=>
   have e':(if xs.length=n then qt is xs ρ else none)=some ρ1:=e;by_cases hl:xs.length=n
   ·rw[if_pos hl]at e';exact⟨xs,e'⟩
   ·rw[if_neg hl]at e';cases e'
  |_=>cases e
 refine⟨λρ d ρ1 e k x q=>?_,λρ d ρ1 e k xs q=>?_⟩
 ·obtain⟨ds,e⟩:=shape _ d ρ1 e;exact vk is ds _ ρ1 e k x (λz=>vh (hn k z) x q) q
 ·obtain⟨ds,e⟩:=shape _ d ρ1 e;rcases xk is ds _ ρ1 e k _ q with⟨_,d,z⟩|z
  ·cases z
  ·exact qP ix ρ k xs z
structure mw(X:Cx)(scope:Uk)(N:ax)(ix:fZ):Prop where
 cell:∀y∈scope.names,y.2≠.cell
 kind:scope.kind=.function
 names:∀y∈scope.names,y.2=.local->scope.names.lookup y.1=some .local
 free:∀y∈scope.names,y.2=.free->X.env.scope.names.lookup y.1=some .cell\/X.env.scope.names.lookup y.1=some .free
 ix:tG X.N N scope.names ix=true
noncomputable def kh(XS:pR)(XN:ax)(scope:Uk)(N:ax)(ix:fZ):Bool:=
 scope.names.all (λy=>decide (y.2≠.cell))&&decide (scope.kind=.function)&&scope.names.all (λy=>decide (y.2≠.local)||decide (scope.names.lookup y.1=some .local)) &&
  scope.names.all (λy=>decide (y.2≠.free)||(decide (XS.lookup y.1=some .cell)||decide (XS.lookup y.1=some .free)))&&tG XN N scope.names ix
theorem mw.of(h:kh X.env.scope.names X.N scope N ix=true):mw X scope N ix:=by
 unfold kh at h;simp only[QN]at h;obtain⟨⟨⟨⟨h1,h2⟩,h3⟩,h4⟩,h5⟩:=h;refine⟨λy hy=>of_decide_eq_true (List.all_eq_true.mp h1 y hy),of_decide_eq_true h2,λy hy e=>?_,λy hy e=>?_,h5⟩
 ·rcases Rm _ _ ▸ List.all_eq_true.mp h3 y hy with q|q
  ·exact absurd e (of_decide_eq_true q)
  ·exact of_decide_eq_true q
 ·rcases Rm _ _ ▸ List.all_eq_true.mp h4 y hy with q|q
  ·exact absurd e (of_decide_eq_true q)
  ·rcases Rm _ _ ▸ q with q|q
   ·exact .inl (of_decide_eq_true q)
   ·exact .inr (of_decide_eq_true q)
noncomputable def NZ(X:Cx)(scope:Uk)(N:ax)(tg elt:T8)(ifs:bi)(g:GF)(C:bZ)(Fe:FX):Prop:=
 ∀cl C' fp s H E,FG (b9 X scope N cl C' fp s H E) tg g/\NV (b9 X scope N cl C' fp s H E) ifs C/\FE (b9 X scope N cl C' fp s H E) elt Fe
noncomputable def Ih(K:Sn)(F:bZ):TT:=λσ H Q=>∃O ρ b,dz K O H ρ σ/\F ρ=.ok b/\∀H',aQ H H'->Q b H'
noncomputable def KZ(K:Sn)(F:FX):TE:=λσ H Q=>∃O ρ d,dz K O H ρ σ/\F ρ=.ok d/\∀v H',aQ H H'->cf K (hid H' O) d v->Q v H'
theorem NZ.k(hb:NZ X scope N tg elt ifs g C Fe):∀cl C' fp s H E,PG (b9 X scope N cl C' fp s H E) tg (Kk X.K g)/\GR (b9 X scope N cl C' fp s H E) ifs (Ih X.K C)/\PE (b9 X scope N cl C' fp s H E) elt (KZ X.K Fe):=λcl C' fp s H E=>by
 obtain⟨h1,h2,h3⟩:=hb cl C' fp s H E;refine⟨h1,λpins s σ H Q I ⟨O,ρ,b,e1,e2,q⟩=>h2 pins s σ H Q I ⟨O,ρ,e1,by rw[e2];exact q⟩,λpins s σ H Q I ⟨O,ρ,d,e1,e2,q⟩=>h3 pins s σ H Q I ⟨O,ρ,e1,by rw[e2];exact q⟩⟩
noncomputable def M3(X:Cx)(F:FX):TE:=λσ H Q=>∃O ρ,dz X.K O H ρ σ/\fi X σ O H (F ρ) λd=>∀D H' total acc,d=.lst total->aQ H H'->H D=none->H' D=some (.lst acc)->aN X.K (hid H' (D::O)) total acc->Q (.ref D) H'
theorem L6{F:FX}:∀σ H Q,tF X F σ H Q->M3 X F σ H Q:=λσ H Q ⟨O,ρ,E,hF⟩=>⟨O,ρ,E,hF.imp λd q D H' total acc e sm hD hD' dn=>by
 subst e;have DO:D∉O:=E.all.not hD;exact q _ H' sm (b7.mpr ⟨D,acc,rfl,lI.of (by rw[jQ DO];exact hD'),dn.mono (gX λa ha=>Ql _ ha)⟩)⟩
theorem BG(tk:oC ix g):∀σ H Q,M3 X (fU ix G g C Fe) σ H Q->Kp (Ls X G) (Kk X.K g) (Ih X.K C) (KZ X.K Fe) ix σ H Q:=λσ H Q ⟨O,ρ,E,hF⟩=>by
 refine⟨O,ρ,E,(fi.bind hF).imp λds hF=>?_⟩;have hz:small ds.length=true:=by
  cases e:small ds.length with
  |true=>rfl
  |false=>rw[e]at hF;exact hF.elim
 rw[hz,if_pos rfl]at hF;cases hL:yF (inB ix ρ) g C Fe ds with
 |error z=>rw[hL]at hF;exact hF.elim
 |ok total=>
 rw[hL]at hF;have q:∀D H' total' acc,TG.D.lst total=.lst total'->aQ H H'->H D=none->H' D=some (.lst acc)->aN X.K (hid H' (D::O)) total' acc->Q (.ref D) H':=hF;have e2:=hL;have hfill:=tk.fill;have hown:=tk.own;refine λJ H1 s1 wk D hD=>?_;have E1:dz X.K (D::O) (upd H1 D (.lst [])) (inB ix ρ) (inBlock ix σ):=((DC ix E).same s1).hideNew trivial hD;have DO:D∉O:=(E.all.same s1).not hD;refine⟨λi m σ' H'=>m=ds.length-i/\i<=ds.length/\aQ H1 H'/\dz X.K (D::O) H' (inB ix ρ) σ'/\∃acc dn rest,H' D=some (.lst acc)/\acc.length<=i/\aN X.K (hid H' (D::O)) dn acc/\yF (inB ix ρ) g C Fe (ds.drop i)=.ok rest/\dn++rest=total,
  ⟨ds.length,by rw[Ru],QA _,cQ hD _,E1,[],[],total,aA,Qq _,cj.mpr rfl,by rw[Rc];exact e2,rfl⟩,?_⟩
 rintro i m σ' H' ⟨rfl,hi,sm,E',acc,dn,rest,hacc,hlen,hdn,hrest,htot⟩;have sH:aQ (hid H1 O) (hid H' (D::O)):=λb o h=>by
  have h2:=sm b o (aB H1 O b o h);unfold hid at h ⊢;by_cases hb:b∈O
  ·rw[if_pos hb]at h;cases h
  ·rw[if_neg hb]at h;have ne:b≠D:=aP h hD;rw[if_neg (by intro z;rcases List.mem_cons.mp z with z|z;exact ne z;exact hb z)];exact h2
 by_cases hlt:i<ds.length
 ·right;obtain⟨go,yl⟩:=(wk H' (D::O) i E'.all sH).1 ds[i] (by simp[hlt]);refine⟨go,λx H2 y=>?_⟩;obtain⟨s2,dx'⟩:=yl x H2 y;have E':=E'.same s2;have sm:=sm.trans s2;have hacc:=s2 _ _ hacc;have hdn:=hdn.mono (bQ s2);rw[Rw hlt,lZ]at hrest;obtain⟨ρ1,g1,hrest⟩:=oH hrest;have g1:=J1 g1;obtain⟨c,c1,hrest⟩:=oH hrest;have c1:=A6 c1;refine⟨D::O,inB ix ρ,ds[i],ρ1,E',dx',g1,λσ3 E3 _=>?_⟩;refine⟨D::O,ρ1,c,E3,c1,λH4 s4=>?_⟩;have E4:=E3.same s4;have back:∀{H5:Hp},dz X.K (D::O) H5 ρ1 σ3->dz X.K (D::O) H5 (inB ix ρ) σ3:=λz=>z.forget λj x e=>hfill ρ _ _ g1 j x e;cases c with
  |true=>
   refine uQ ?_;rw[if_pos rfl]at hrest;obtain⟨v,v1,hrest⟩:=oH hrest;have v1:=A6 v1;obtain⟨r,r1,hrest⟩:=oH hrest;cases hrest;refine⟨D::O,ρ1,v,E4,v1,λw H5 s5 dw=>?_⟩;have s45:=s4.trans s5;have ha5:H5 D=some (.lst acc):=s45 _ _ hacc;have hzl:ds.length<Ug:=Nat.lt_of_le_of_lt (of_decide_eq_true hz) (by decide);refine⟨acc,ha5,by omega,ds.length-(i+1),by omega,rfl,hlt,?_,?_,acc++[w],dn++[v],r,aA,by rw[QK,QQ];omega,?_,r1,by rw[Rx];exact htot⟩
   ·intro b o h;rw[aw (aP h hD)];exact s45 _ _ (sm _ _ h)
   ·exact back ((E3.same s45).rewrite trivial Qk λj xs e=>absurd e (hown ρ _ _ g1 j xs))
   ·have s6:aQ (hid H5 (D::O)) (hid (upd H5 D (.lst (acc++[w]))) (D::O)):=kO Qk;exact(hdn.mono ((bQ s45).trans s6)).snoc (dw.mono s6)
  |false=>
   refine uV ?_;rw[if_neg Qu]at hrest;exact⟨ds.length-(i+1),by omega,rfl,hlt,sm.trans s4,back E4,acc,dn,rest,s4 _ _ hacc,by omega,hdn.mono (bQ s4),hrest,htot⟩
 ·left;have ei:i=ds.length:=by omega
  subst ei;refine⟨(wk H' (D::O) ds.length E'.all sH).2 rfl,?_⟩;rw[List.drop_length]at hrest;cases hrest;rw[QB]at htot;subst htot;exact q D H' _ acc rfl (s1.trans sm) (s1.free hD) hacc hdn
theorem Fx(tk:oC ix g):∀σ H Q,tF X (fU ix G g C Fe) σ H Q->Kp (Ls X G) (Kk X.K g) (Ih X.K C) (KZ X.K Fe) ix σ H Q:=λσ H Q h=>BG tk σ H Q (L6 σ H Q h)
end
structure Ks where
 nx:av->R D
 bk:av->R D:=λ_=>un
 ct:av->R D:=λ_=>un
 ex:Ex->av->R D:=λx _=>.error (some x)
noncomputable abbrev bw:=Ks->av->R D
noncomputable def oW{α:Type}(r:R α)(k:Ks)(ρ:av)(f:α->R D):R D:=match r with
 |.ok a=>f a
 |.error (some x)=>k.ex x ρ
 |.error none=>un
structure Base(Hb:Hp)(Ob:aH)(H:Hp)(O:aH):Prop where
 same:aQ Hb H
 sub:∀a∈Ob,a∈O
 new:∀a∈O,a∈Ob\/Hb a=none
noncomputable def BQ(K:Sn)(H:Hp)(O:aH):aH->List D->Prop
 |[],[]=>True
 |b::bs,x::xs=>ka K H O b x/\BQ K H O bs xs
 |_,_=>False
noncomputable def xD(K:Sn)(H:Hp)(O:aH)(a:T7)(bs:aH)(d:D):Prop:=
 ∃xs,BQ K H O bs xs/\((d=.lst xs/\H a=some (.lst (bs.map .ref)))\/(∃kvs:List (List Key×V),d=.dct (kvs.map λp=>.tup (p.1.map dU)) xs/\H a=some (.dT kvs)/\kvs.map (·.2)=bs.map .ref)\/(d=.dct [] xs/\bs=[]/\H a=some (.dK [])))
noncomputable def CB(K:Sn)(Hb:Hp)(Ob O:aH)(H:Hp)(ρ:av)(σ:St)(i:Nat)(d:D):Prop:=
 ∃a bs,σ[i]?=some (some (.ref a))/\xD K H O a bs d/\(a::bs).Nodup/\(∀b∈a::bs,b∈O/\Hb b=none/\b∉Ob/\∀(j:Nat) d',ρ[j]?=some (some (.own d'))->σ[j]?≠some (some (.ref b)))/\∀(j:Nat) d',ρ[j]?=some (some (.nest d'))->j=i
theorem BQ.mono{K:Sn}{H H':Hp}{O O':aH}(s:aQ (hid H O) (hid H' O')):∀{bs:aH}{xs:List D},BQ K H O bs xs->(∀b∈bs,(∃o,H b=some o)->H' b=H b)->BQ K H' O' bs xs
 |[],[],_,_=>trivial
 |b::bs,x::xs,h,e=>⟨h.1.mono (e b Qk h.1.some).symm s,BQ.mono s h.2 λb' hb=>e b' (Ql _ hb)⟩
 |[],_::_,h,_=>h.elim
 |_::_,[],h,_=>h.elim
theorem BQ.some{K:Sn}{H:Hp}{O:aH}:∀{bs:aH}{xs:List D},BQ K H O bs xs->∀b∈bs,∃o,H b=some o
 |[],_,_,_,hb=>nomatch hb
 |b::bs,x::xs,h,b',hb=>by
  rcases List.mem_cons.mp hb with z|z
  ·rw[z];exact h.1.some
  ·exact BQ.some h.2 b' z
 |_::_,[],h,_,_=>h.elim
theorem xD.some{K:Sn}{H:Hp}{O:aH}{a:T7}{bs:aH}{d:D}(h:xD K H O a bs d):∀b∈a::bs,∃o,H b=some o:=λb hb=>by
 obtain⟨xs,h1,h2⟩:=h;rcases List.mem_cons.mp hb with z|z
 ·rw[z];rcases h2 with⟨_,q⟩|⟨_,_,q,_⟩|⟨_,_,q⟩<;>exact⟨_,q⟩
 ·exact h1.some b z
theorem xD.mono{K:Sn}{H H':Hp}{O O':aH}{a:T7}{bs:aH}{d:D}(h:xD K H O a bs d)(s:aQ (hid H O) (hid H' O'))(e:∀b∈a::bs,(∃o,H b=Option.some o)->H' b=H b):xD K H' O' a bs d:=by
 have ea:=e a Qk (h.some a Qk);obtain⟨xs,h1,h2⟩:=h;refine⟨xs,h1.mono s λb hb=>e b (Ql _ hb),?_⟩;rw[ea];exact h2
theorem CB.to{K:Sn}{Hb Hb':Hp}{Ob O O':aH}{H H':Hp}{ρ ρ':av}{σ σ':St}{i:Nat}{d:D}(h:CB K Hb Ob O H ρ σ i d)(hσ:σ'[i]?=σ[i]?)(s:aQ (hid H O) (hid H' O'))
  (k:∀b,b∈O->Hb b=none->b∉Ob->(∀(j:Nat) d',ρ[j]?=some (some (.own d'))->σ[j]?≠some (some (.ref b)))->(∃o,H b=some o)->H' b=H b/\b∈O'/\Hb' b=none/\∀(j:Nat) d',ρ'[j]?=some (some (.own d'))->σ'[j]?≠some (some (.ref b)))
  (n:∀(j:Nat) d',ρ'[j]?=some (some (.nest d'))->∃d2,ρ[j]?=some (some (.nest d2))):CB K Hb' Ob O' H' ρ' σ' i d:=by
 obtain⟨a,bs,h1,h2,h3,h4,h5⟩:=h;refine⟨a,bs,hσ.trans h1,h2.mono s λb hb ho=>?_,h3,λb hb=>?_,λj d' q=>?_⟩
 ·obtain⟨q1,q2,q3,q4⟩:=h4 b hb;exact(k b q1 q2 q3 q4 ho).1
 ·obtain⟨q1,q2,q3,q4⟩:=h4 b hb;obtain⟨_,w2,w3,w4⟩:=k b q1 q2 q3 q4 (h2.some b hb);exact⟨w2,w3,q3,w4⟩
 ·obtain⟨d2,q⟩:=n j d' q;exact h5 j d2 q
structure dQ(K:Sn)(Hb:Hp)(Ob O:aH)(H:Hp)(ρ:av)(σ:St):Prop where
 env:dz K O H ρ σ
 base:Base Hb Ob H O
 mine:∀(i:Nat) xs a,ρ[i]?=some (some (.own xs))->σ[i]?=some (some (.ref a))->Hb a=none/\a∉Ob
 nst:∀(i:Nat) d,ρ[i]?=some (some (.nest d))->CB K Hb Ob O H ρ σ i d
theorem Base.same'{Hb:Hp}{Ob:aH}{H H':Hp}{O:aH}(b:Base Hb Ob H O)(s:aQ H H'):Base Hb Ob H' O:=⟨b.same.trans s,b.sub,b.new⟩
theorem dQ.same{K:Sn}{Hb:Hp}{Ob O:aH}{H H':Hp}{ρ:av}{σ:St}(h:dQ K Hb Ob O H ρ σ)(s:aQ H H'):dQ K Hb Ob O H' ρ σ:=⟨h.env.same s,h.base.same' s,h.mine,λi d q=>(h.nst i d q).to rfl (bQ s) (λb q1 q2 q3 q4 ⟨o,ho⟩=>⟨by rw[ho,s _ _ ho],q1,q2,q4⟩) λj d' z=>⟨d',z⟩⟩
theorem dQ.after{K:Sn}{Hb:Hp}{Ob O:aH}{H:Hp}{ρ ρ':av}{σ σ':St}(S:dQ K Hb Ob O H ρ σ)(E':dz K O H ρ' σ')(own:∀(i:Nat) x,ρ'[i]?=some (some x)->(∀d,x≠.val d)->σ'[i]?=σ[i]?/\ρ[i]?=some (some x)):dQ K Hb Ob O H ρ' σ':=
 ⟨E',S.base,fun i xs a q1 q2=>by
  obtain⟨w1,w2⟩:=own i _ q1 (λ_ z=>nomatch z);rw[w1]at q2;exact S.mine i xs a w2 q2,λi d q=>by
  obtain⟨w1,w2⟩:=own i _ q (λ_ z=>nomatch z);refine(S.nst i d w2).to w1 (λ_ _ z=>z) (λb q1 q2 q3 q4 _=>⟨rfl,q1,q2,λl d' w=>?_⟩) λl d' w=>⟨d',(own l _ w (λ_ z=>nomatch z)).2⟩
  obtain⟨z1,z2⟩:=own l _ w (λ_ z=>nomatch z);rw[z1];exact q4 l d' z2⟩
structure Kv(X:Cx)(Hb:Hp)(Ob:aH)(E:Ends)(k:Ks)(r:R D):Prop where
 ne:r≠un
 nx:∀O ρ σ H,dQ X.K Hb Ob O H ρ σ->k.nx ρ=r->E.nx σ H
 bk:∀O ρ σ H,dQ X.K Hb Ob O H ρ σ->k.bk ρ=r->E.bk σ H
 ct:∀O ρ σ H,dQ X.K Hb Ob O H ρ σ->k.ct ρ=r->E.ct σ H
 rt:∀d O v H,r=.ok d->Base Hb Ob H O->cf X.K (hid H O) d v->E.rt v H
 ex:∀O ρ σ H x,dQ X.K Hb Ob O H ρ σ->k.ex x ρ=r->GZ X σ O H x
noncomputable def L8(X:Cx)(Hb:Hp)(Ob:aH)(F:bw):TS:=λE σ H=>∃O ρ k r,dQ X.K Hb Ob O H ρ σ/\F k ρ=r/\Kv X Hb Ob E k r
noncomputable def FS(X:Cx)(st:T9)(F:bw):Prop:=∀Hb Ob,PS X st (L8 X Hb Ob F)
noncomputable def Ke(X:Cx)(st:dE)(F:bw):Prop:=∀Hb Ob,uf X st (L8 X Hb Ob F)
theorem fi.on{X:Cx}{Hb:Hp}{Ob O:aH}{H:Hp}{ρ:av}{σ:St}{E:Ends}{k:Ks}{r:R D}{α:Type}{fr:R α}{G:α->R D}{Q:α->Prop}(h:oW fr k ρ G=r)(hk:Kv X Hb Ob E k r)(S:dQ X.K Hb Ob O H ρ σ)(q:∀a,G a=r->Q a):fi X σ O H fr Q:=by
 match fr,h with
 |.ok a,h=>exact q a h
 |.error (some x),h=>exact hk.ex O ρ σ H x S h
 |.error none,h=>exact absurd h.symm hk.ne
section
variable{X:Cx}{st:T9}{rest body:dE}{pos:Pos}
noncomputable def bb:bw:=λk ρ=>k.nx ρ
noncomputable def aq(F1 F2:bw):bw:=λk ρ=>F1 {k with nx:=F2 k} ρ
noncomputable def aJ(f:FX):bw:=λk ρ=>oW (f ρ) k ρ .ok
noncomputable def J0:bw:=λ_ _=>.ok .non
noncomputable def lx(f:FX):bw:=λk ρ=>oW (f ρ) k ρ λ_=>k.nx ρ
noncomputable def dy(c:bZ)(A B:bw):bw:=λk ρ=>oW (c ρ) k ρ λb=>if b then A k ρ else B k ρ
noncomputable def aM(i:Nat)(f:FX):bw:=λk ρ=>oW (f ρ) k ρ λd=>k.nx (setV i d ρ)
theorem dQ.setV{K:Sn}{Hb:Hp}{Ob O:aH}{H:Hp}{ρ:av}{σ:St}(E:dQ K Hb Ob O H ρ σ){i:Nat}{d:D}{v:V}(hi:i<σ.length)(hd:cf K (hid H O) d v):dQ K Hb Ob O H (setV i d ρ) (σ.set i (some v)):=
  ⟨E.env.setV hi hd,E.base,fun j xs a e1 e2=>by
    rcases bc e1 with⟨_,q⟩|⟨ne,q⟩
    ·cases q
    · rw[Qo (Ne.symm ne)]at e2
      exact E.mine j xs a q e2,
   λj dn e=>by
    rcases bc e with⟨_,q⟩|⟨ne,q⟩
    ·cases q
    · refine(E.nst j dn q).to (Qo (Ne.symm ne)) (λ_ _ z=>z) (λb q1 q2 q3 q4 _=>⟨rfl,q1,q2,λl d' w=>?_⟩) λl d' w=>?_
      · rcases bc w with⟨_,z⟩|⟨nl,z⟩
        ·cases z
        ·rw[Qo (Ne.symm nl)];exact q4 l d' z
      · rcases bc w with⟨_,z⟩|⟨_,z⟩
        ·cases z
        ·exact⟨d',z⟩⟩
theorem rK{f:FX}{i:Nat}(hi:i<X.N.length)(h:PS X st (Ag (tF X f) (rj i))):FS X st (aM i f):=λHb Ob pins s σ H E I ⟨O,ρ,k,r,S,hF,hk⟩=>
 h pins s σ H E I ⟨O,ρ,S.env,fi.on hF hk S λd e v H1 s1 d1=>hk.nx O _ _ H1 ((S.same s1).setV (by rw[I.len];exact hi) d1) e⟩
noncomputable def uh(f:FX)(g:GF):bw:=λk ρ=>oW (f ρ) k ρ λd=>(rO (g d ρ)).bind k.nx
noncomputable def kill(is:List Nat)(ρ:av):av:=is.foldl (λρ i=>ρ.set i none) ρ
theorem iU:∀(is:List Nat)(ρ:av)(i:Nat)(x:S),(kill is ρ)[i]?=some (some x)->ρ[i]?=some (some x)
 |[],ρ,i,x,e=>e
 |j::is,ρ,i,x,e=>by
  rcases bc (iU is (ρ.set j none) i x e)with⟨_,q⟩|⟨_,q⟩
  ·cases q
  ·exact q
theorem dQ.kill{K:Sn}{Hb:Hp}{Ob O:aH}{H:Hp}{ρ:av}{σ:St}(E:dQ K Hb Ob O H ρ σ)(is:List Nat):dQ K Hb Ob O H (kill is ρ) σ:=
 ⟨E.env.forget (iU is ρ),E.base,λi xs a e1 e2=>E.mine i xs a (iU is ρ i _ e1) e2,λi d q=>(E.nst i d (iU is ρ i _ q)).to rfl (λ_ _ z=>z) (λb q1 q2 q3 q4 _=>⟨rfl,q1,q2,λl d' w=>q4 l d' (iU is ρ l _ w)⟩) λl d' w=>⟨d',iU is ρ l _ w⟩⟩
noncomputable def gM(is:List Nat)(F:bw):bw:=λk ρ=>F k (kill is ρ)
end
noncomputable def fN(g:GF)(B:bw)(k:Ks):List D->av->R D
 |[],ρ=>k.nx ρ
 |d::ds,ρ=>(rO (g d ρ)).bind λρ1=>B ⟨fN g B k ds,k.nx,fN g B k ds,k.ex⟩ ρ1
noncomputable def o5(G:aO)(g:GF)(B:bw):bw:=λk ρ=>oW (G ρ) k ρ λds=>fN g B k ds ρ
noncomputable def lb(H:Hp)(O Ob:aH):Hp:=λb=>if b∈O/\b∉Ob then none else H b
theorem tZ{H:Hp}{O Ob:aH}{b:T7}(h1:b∈O)(h2:b∉Ob):lb H O Ob b=none:=by unfold lb;rw[if_pos ⟨h1,h2⟩]
theorem Eu{H:Hp}{O Ob:aH}{b:T7}{o:HO}(h:lb H O Ob b=some o):H b=some o/\¬(b∈O/\b∉Ob):=by
 unfold lb at h;split at h
 ·cases h
 ·rename_i n;exact⟨h,n⟩
theorem AF{H:Hp}{O Ob:aH}{b:T7}{o:HO}(h:H b=some o)(n:¬(b∈O/\b∉Ob)):lb H O Ob b=some o:=by unfold lb;rw[if_neg n];exact h
theorem Base.loop{Hb:Hp}{Ob:aH}{H:Hp}{O:aH}(b:Base Hb Ob H O):Base (lb H O Ob) Ob H O:=
 ⟨fun c o h=>(Eu h).1,b.sub,fun a ha=>by
  by_cases h:a∈Ob
  ·exact .inl h
  ·exact .inr (tZ ha h)⟩
theorem Base.back{Hb:Hp}{Ob:aH}{H H':Hp}{O O':aH}(b:Base Hb Ob H O)(b':Base (lb H O Ob) Ob H' O'):Base Hb Ob H' O':=by
 have up:aQ Hb (lb H O Ob):=λc o h=>AF (b.same c o h) λ⟨z1,z2⟩=>by
  rcases b.new c z1 with z|z
  ·exact z2 z
  ·rw[z]at h;cases h
 exact⟨up.trans b'.same,b'.sub,λa ha=>(b'.new a ha).imp id up.free⟩
theorem dQ.loop{K:Sn}{Hb:Hp}{Ob O:aH}{H:Hp}{ρ:av}{σ:St}(E:dQ K Hb Ob O H ρ σ):dQ K (lb H O Ob) Ob O H ρ σ:=
 ⟨E.env,E.base.loop,fun i xs a e1 e2=>by
  obtain⟨_,n⟩:=E.mine i xs a e1 e2;obtain⟨a',e3,e4,_⟩:=E.env.own i xs e1;rw[e2]at e3;cases e3;exact⟨tZ e4 n,n⟩,λi d q=>(E.nst i d q).to rfl (λ_ _ z=>z) (λb q1 q2 q3 q4 _=>⟨rfl,q1,tZ q1 q3,q4⟩) λl d' w=>⟨d',w⟩⟩
theorem dQ.back{K:Sn}{Hb:Hp}{Ob O O':aH}{H H':Hp}{ρ':av}{σ':St}(b:Base Hb Ob H O)(E:dQ K (lb H O Ob) Ob O' H' ρ' σ'):dQ K Hb Ob O' H' ρ' σ':=
 have up:aQ Hb (lb H O Ob):=λc o h=>AF (b.same c o h) λ⟨z1,z2⟩=>by
  rcases b.new c z1 with z|z
  ·exact z2 z
  ·rw[z]at h;cases h
 ⟨E.env,b.back E.base,fun i xs a e1 e2=>by
  obtain⟨z,n⟩:=E.mine i xs a e1 e2;exact⟨up.free z,n⟩,λi d q=>(E.nst i d q).to rfl (λ_ _ z=>z) (λb q1 q2 q3 q4 _=>⟨rfl,q1,up.free q2,q4⟩) λl d' w=>⟨d',w⟩⟩
theorem BX{Hb:Hp}{Ob O O':aH}{H H':Hp}(b:Base Hb Ob H O)(b':Base (lb H O Ob) Ob H' O'):aQ (hid H O) (hid H' O'):=λc o h=>by
 unfold hid at h ⊢;by_cases hc:c∈O
 ·rw[if_pos hc]at h;cases h
 ·rw[if_neg hc]at h;have h1:lb H O Ob c=some o:=AF h λz=>hc z.1;rw[if_neg]
  ·exact b'.same _ _ h1
  ·intro z;rcases b'.new c z with z|z
   ·exact hc (b.sub c z)
   ·rw[h1]at z;cases z
theorem Kv.loop{X:Cx}{Hb:Hp}{Ob O:aH}{H:Hp}{E E':Ends}{k k':Ks}{r:R D}(hk:Kv X Hb Ob E k r)(b:Base Hb Ob H O)(hn:∀O' ρ' σ' H',dQ X.K (lb H O Ob) Ob O' H' ρ' σ'->k'.nx ρ'=r->E'.nx σ' H')(hc:∀O' ρ' σ' H',dQ X.K (lb H O Ob) Ob O' H' ρ' σ'->k'.ct ρ'=r->E'.ct σ' H')
    (eb:k'.bk=k.nx) (ee:k'.ex=k.ex) (Eb:E'.bk=E.nx) (Er:E'.rt=E.rt):Kv X (lb H O Ob) Ob E' k' r:=
  ⟨hk.ne,hn,fun O' ρ' σ' H' S e=>by rw [Eb]; exact hk.nx O' ρ' σ' H' (S.back b) (by rw [<- eb]; exact e),hc,fun d O' v H' e b' dv=>by rw [Er]; exact hk.rt d O' v H' e (b.back b') dv,
   λO' ρ' σ' H' x S e=>hk.ex O' ρ' σ' H' x (S.back b) (by rw[<-ee];exact e)⟩
section
variable{X:Cx}{st:T9}{rest body:dE}{pos:Pos}
end
end TG
namespace TG
open PySem PySem.Spec L2
variable[ay]
theorem dQ.setO{K:Sn}{Hb:Hp}{Ob O:aH}{H:Hp}{ρ:av}{σ:St}(E:dQ K Hb Ob O H ρ σ){i:Nat}{d d':D}{a:T7}{o:HO}(hi:ρ[i]?=some (some (.own d)))(ha:σ[i]?=some (some (.ref a)))(m:tV o)(new:ka K (upd H a o) O a d'):
  dQ K Hb Ob O (upd H a o) (ρ.set i (some (.own d'))) σ:=by
 obtain⟨a',ha',haO,hat⟩:=E.env.own i d hi;rw[ha]at ha';cases ha';obtain⟨m1,m2⟩:=E.mine i d a hi ha;have s:aQ (hid H O) (hid (upd H a o) O):=kO haO;have own:∀(j:Nat) ys,(ρ.set i (some (.own d')))[j]?=some (some (.own ys))->∃ys',ρ[j]?=some (some (.own ys')):=λj ys q=>by
  rcases bc q with⟨hj,_⟩|⟨_,q⟩
  ·rw[hj];exact⟨d,hi⟩
  ·exact⟨ys,q⟩
 refine⟨⟨λj d1 e=>?_,λj ys e=>?_,λj l ys zs b q1 q2 q3 q4=>?_,E.env.all.upd haO m⟩,⟨λb u h=>?_,E.base.sub,E.base.new⟩,λj ys b q1 q2=>?_,λj dn q=>?_⟩
 ·rcases bc e with⟨_,q⟩|⟨ne,q⟩
  ·cases q
  ·obtain⟨w,q1,q2⟩:=E.env.val j d1 q;exact⟨w,q1,q2.mono s⟩
 ·rcases bc e with⟨hj,q⟩|⟨ne,q⟩
  ·cases q;rw[hj];exact⟨a,ha,haO,new⟩
  ·obtain⟨b,q1,q2,q3⟩:=E.env.own j ys q;have nb:b≠a:=λz=>ne (E.env.one j i ys d a q hi (by rw[<-z];exact q1) ha);exact⟨b,q1,q2,q3.mono (by rw[aw nb]) s⟩
 ·obtain⟨_,q1'⟩:=own j ys q1;obtain⟨_,q2'⟩:=own l zs q2;exact E.env.one j l _ _ b q1' q2' q3 q4
 ·have nb:b≠a:=λz=>by rw[z,m1]at h;cases h
  rw[aw nb];exact E.base.same b u h
 ·obtain⟨ys',q⟩:=own j ys q1;exact E.mine j ys' b q q2
 ·have q:ρ[j]?=some (some (.nest dn)):=by
   rcases bc q with⟨_,z⟩|⟨_,z⟩
   ·cases z
   ·exact z
  refine(E.nst j dn q).to rfl s (λb q1 q2 q3 q4 _=>⟨aw λz=>q4 i d hi (by rw[z];exact ha),q1,q2,λl d1 w=>?_⟩) λl d1 w=>?_
  ·obtain⟨_,w'⟩:=own l d1 w;exact q4 l _ w'
  ·rcases bc w with⟨_,z⟩|⟨_,z⟩
   ·cases z
   ·exact⟨d1,z⟩
theorem dQ.setNew{K:Sn}{Hb:Hp}{Ob O:aH}{H H':Hp}{ρ:av}{σ:St}(E:dQ K Hb Ob O H ρ σ){i:Nat}{d:D}{p:T7}(hi:i<σ.length)(sm:aQ H H')(hp:H p=none)(m:∃o,H' p=some o/\tV o)(new:ka K H' (p::O) p d):
  dQ K Hb Ob (p::O) H' (ρ.set i (some (.own d))) (σ.set i (some (.ref p))):=by
 have hpO:p∉O:=E.env.all.not hp;have s:aQ (hid H O) (hid H' (p::O)):=λb o h=>by
  unfold hid at h ⊢;by_cases hb:b∈O
  ·rw[if_pos hb]at h;cases h
  ·rw[if_neg hb]at h;have ne:=aP h hp;rw[if_neg (by intro z;rcases List.mem_cons.mp z with z|z;exact ne z;exact hb z)];exact sm _ _ h
 have other:∀(j:Nat) xs,ρ[j]?=some (some (.own xs))->σ[j]?≠some (some (.ref p)):=λj xs e z=>by
  obtain⟨a,e1,e2,e3⟩:=E.env.own j xs e;rw[z]at e1;cases e1;obtain⟨o,e3⟩:=e3.some;rw[hp]at e3;cases e3
 refine⟨⟨λj d' e=>?_,λj xs e=>?_,λj k xs ys a e1 e2 e3 e4=>?_,⟨(E.env.all.same sm).1,λa ha=>?_⟩⟩,⟨E.base.same.trans sm,λa ha=>Ql _ (E.base.sub a ha),λa ha=>?_⟩,λj xs a e1 e2=>?_,λj dn e=>?_⟩
 ·rcases bc e with⟨_,q⟩|⟨ne,q⟩
  ·cases q
  ·obtain⟨v,q1,q2⟩:=E.env.val j d' q;exact⟨v,by rw[Qo (Ne.symm ne)];exact q1,q2.mono s⟩
 ·rcases bc e with⟨hj,q⟩|⟨ne,q⟩
  ·cases q;rw[hj];exact⟨p,Qn hi,Qk,new⟩
  ·obtain⟨a,q1,q2,q3⟩:=E.env.own j xs q;obtain⟨o,ho⟩:=q3.some;exact⟨a,by rw[Qo (Ne.symm ne)];exact q1,Ql _ q2,q3.mono (xU sm ho) s⟩
 ·rcases bc e1 with⟨hj,q1⟩|⟨nj,q1⟩
  ·rcases bc e2 with⟨hk,q2⟩|⟨nk,q2⟩
   ·exact hj.trans hk.symm
   ·rw[hj,Qn hi]at e3;cases e3;rw[Qo (Ne.symm nk)]at e4;exact absurd e4 (other k ys q2)
  ·rcases bc e2 with⟨hk,q2⟩|⟨nk,q2⟩
   ·rw[hk,Qn hi]at e4;cases e4;rw[Qo (Ne.symm nj)]at e3;exact absurd e3 (other j xs q1)
   ·rw[Qo (Ne.symm nj)]at e3;rw[Qo (Ne.symm nk)]at e4;exact E.env.one j k xs ys a q1 q2 e3 e4
 ·rcases List.mem_cons.mp ha with rfl|ha
  ·exact m
  ·exact(E.env.all.same sm).2 a ha
 ·rcases List.mem_cons.mp ha with rfl|ha
  ·exact .inr (E.base.same.free hp)
  ·exact E.base.new a ha
 ·rcases bc e1 with⟨hj,q1⟩|⟨nj,q1⟩
  ·rw[hj,Qn hi]at e2;cases e2;exact⟨E.base.same.free hp,λz=>hpO (E.base.sub p z)⟩
  ·rw[Qo (Ne.symm nj)]at e2;exact E.mine j xs a q1 e2
 ·rcases bc e with⟨_,q⟩|⟨ne,q⟩
  ·cases q
  ·refine(E.nst j dn q).to (Qo (Ne.symm ne)) s (λb q1 q2 q3 q4 ⟨o,ho⟩=>⟨by rw[ho,sm _ _ ho],Ql _ q1,q2,λl d1 w=>?_⟩) λl d1 w=>?_
   ·rcases bc w with⟨hl,z⟩|⟨nl,z⟩
    ·rw[hl,Qn hi];intro z;cases z;rw[hp]at ho;cases ho
    ·rw[Qo (Ne.symm nl)];exact q4 l d1 z
   ·rcases bc w with⟨_,z⟩|⟨_,z⟩
    ·cases z
    ·exact⟨d1,z⟩
noncomputable def Nc(X:Cx)(F:FX):TE:=λσ H Q=>∃O ρ,dz X.K O H ρ σ/\fi X σ O H (F ρ) λd=>∀p H',aQ H H'->H p=none->(∃o,H' p=some o/\tV o)->ka X.K H' (p::O) p d->Q (.ref p) H'
noncomputable def FN(X:Cx)(e:T8)(F:FX):Prop:=PE X e (Nc X F)
section
variable{X:Cx}{pos:Pos}
theorem ou{K:Sn}{H:Hp}{O:aH}{p:T7}{ds:List D}{vs:aI}(hp:H p=none)(d:aN K (hid H O) ds vs):ka K (upd H p (.lst vs)) (p::O) p (.lst ds):=⟨_,vs,aA,rfl,d.mono (uq hp)⟩
noncomputable def ui(i:Nat)(f:FX):bw:=λk ρ=>oW (f ρ) k ρ λd=>k.nx (ρ.set i (some (.own d)))
theorem rA{st:T9}{f:FX}{i:Nat}(hi:i<X.N.length)(h:PS X st (Ag (Nc X f) (rj i))):FS X st (ui i f):=λHb Ob pins s σ H E I ⟨O,ρ,k,r,S,hF,hk⟩=>
 h pins s σ H E I ⟨O,ρ,S.env,fi.on hF hk S λd e p H1 s1 hp m o=>hk.nx _ _ _ H1 (S.setNew (by rw[I.len];exact hi) s1 hp m o) e⟩
end
theorem FP{X:Cx}{F:FX}:∀σ H Q,Nc X F σ H Q->M3 X F σ H Q:=λσ H Q ⟨O,ρ,E,hF⟩=>⟨O,ρ,E,hF.imp λd q D H' total acc e sm hD hD' dn=>by
 subst e;exact q D H' sm hD ⟨_,hD',trivial⟩ ⟨_,acc,hD',rfl,dn⟩⟩
noncomputable def KQ(i:Nat)(u:List D->List D->Option (List D))(f:aO):bw:=λk ρ=>match ρ[i]? with
 |some (some (.own (.lst xs)))=>oW (f ρ) k ρ λds=>(rO (u xs ds)).bind λys=>k.nx (ρ.set i (some (.own (.lst ys))))
 |_=>un
noncomputable def FL(K:Sn)(r:V->aI->Hp->VK->Prop)(u:List D->List D->Option (List D)):Prop:=
 ∀(H:Hp)(O:aH)(a:T7)(xs ys as:List D)(ws vs:aI)(Q:VK),dM H O->a∈O->H a=some (.lst ws)->aN K (hid H O) xs ws->aN K (hid H O) as vs->u xs as=some ys->(∀ws' v,aN K (hid H O) ys ws'->Q v (upd H a (.lst ws')))->r (.ref a) vs H Q
theorem vo{K:Sn}{H:Hp}{O:aH}{a:T7}{ys:List D}{ws:aI}(ha:a∈O)(h:aN K (hid H O) ys ws):ka K (upd H a (.lst ws)) O a (.lst ys):=⟨_,ws,aA,rfl,h.mono (kO ha)⟩
noncomputable def C9(xs:List D)(ds:List D):Option (List D):=match ds with
 |[y]=>if small (xs.length+1)then some (xs++[y])else none
 |_=>none
theorem yi{K:Sn}:FL K xR C9:=λH O a xs ys as ws vs Q hO haO ha dx da hu q=>by
 unfold C9 at hu;split at hu
 ·rename_i y;obtain⟨h1,h2⟩:=aY hu;subst h2;obtain⟨v,rfl,dv⟩:=da.one
  have:=cD h1
  rw[dx.length]at this;exact⟨a,ws,v,rfl,rfl,ha,by omega,q _ _ (dx.snoc dv)⟩
 ·cases hu
noncomputable def frz(i:Nat)(ρ:av):av:=match ρ[i]? with
 |some (some (.own d))=>setV i d ρ
 |_=>ρ
theorem dz.frz{K:Sn}{O:aH}{H:Hp}{ρ:av}{σ:St}(E:dz K O H ρ σ)(i:Nat):∃O',dz K O' H (frz i ρ) σ/\(∀b∈O',b∈O)/\∀b∈O,b∉O'->∃d,ρ[i]?=some (some (.own d))/\σ[i]?=some (some (.ref b)):=by
 unfold TG.frz;split
 ·rename_i d hd;obtain⟨a,ha,haO,hat⟩:=E.own i d hd;have sub:∀b∈O.filter (λb=>decide (b≠a)),b∈O:=λb hb=>(List.mem_filter.mp hb).1;have s:aQ (hid H O) (hid H (O.filter λb=>decide (b≠a))):=gX sub;have na:a∉O.filter λb=>decide (b≠a):=λz=>absurd rfl (of_decide_eq_true (List.mem_filter.mp z).2);refine⟨O.filter λb=>decide (b≠a),⟨λj d' e=>?_,λj ys e=>?_,λj l ys zs b q1 q2 q3 q4=>?_,⟨E.all.1,λb hb=>E.all.2 b (sub b hb)⟩⟩,sub,λb hb nb=>?_⟩
  ·rcases bc e with⟨hj,q⟩|⟨ne,q⟩
   ·cases q;rw[hj];exact⟨.ref a,ha,hat.den s na⟩
   ·obtain⟨w,q1,q2⟩:=E.val j d' q;exact⟨w,q1,q2.mono s⟩
  ·rcases bc e with⟨_,q⟩|⟨ne,q⟩
   ·cases q
   ·obtain⟨b,q1,q2,q3⟩:=E.own j ys q;have nb:b≠a:=λz=>ne (E.one j i ys d a q hd (by rw[<-z];exact q1) ha);exact⟨b,q1,List.mem_filter.mpr ⟨q2,decide_eq_true nb⟩,q3.mono rfl s⟩
  ·rcases bc q1 with⟨_,q⟩|⟨_,q⟩
   ·cases q
   ·rcases bc q2 with⟨_,q'⟩|⟨_,q'⟩
    ·cases q'
    ·exact E.one j l ys zs b q q' q3 q4
  ·by_cases z:b=a
   ·exact⟨d,hd,by rw[z];exact ha⟩
   ·exact absurd (List.mem_filter.mpr ⟨hb,decide_eq_true z⟩) nb
 ·exact⟨O,E,λ_ z=>z,λb hb nb=>absurd hb nb⟩
theorem dQ.frz{K:Sn}{Hb:Hp}{Ob O:aH}{H:Hp}{ρ:av}{σ:St}(E:dQ K Hb Ob O H ρ σ)(i:Nat):∃O',dQ K Hb Ob O' H (frz i ρ) σ:=by
 obtain⟨O',E',sub,gone⟩:=E.env.frz i;refine⟨O',E',⟨E.base.same,λa ha=>?_,λa ha=>E.base.new a (sub a ha)⟩,λj xs a q1 q2=>?_,λj dn q1=>?_⟩
 ·by_cases z:a∈O'
  ·exact z
  ·obtain⟨d,e1,e2⟩:=gone a (E.base.sub a ha) z;exact absurd ha (E.mine i d a e1 e2).2
 ·have q:ρ[j]?=some (some (.own xs)):=by
   unfold TG.frz at q1;split at q1
   ·rcases bc q1 with⟨_,q⟩|⟨_,q⟩
    ·cases q
    ·exact q
   ·exact q1
  exact E.mine j xs a q q2
 ·have bk:∀(l:Nat) x,(TG.frz i ρ)[l]?=some (some x)->(∀d,x≠.val d)->ρ[l]?=some (some x):=λl x e nv=>by
   unfold TG.frz at e;split at e
   ·rcases bc e with⟨_,q⟩|⟨_,q⟩
    ·cases q;exact absurd rfl (nv _)
    ·exact q
   ·exact e
  refine(E.nst j dn (bk j _ q1 (λ_ z=>nomatch z))).to rfl (gX sub) (λb w1 w2 w3 w4 _=>⟨rfl,?_,w2,λl d1 w=>w4 l d1 (bk l _ w (λ_ z=>nomatch z))⟩) λl d1 w=>⟨d1,bk l _ w (λ_ z=>nomatch z)⟩
  by_cases z:b∈O'
  ·exact z
  ·obtain⟨d,e1,e2⟩:=gone b w1 z;exact absurd e2 (w4 i d e1)
noncomputable def Ez(i:Nat)(F:bw):bw:=λk ρ=>F k (frz i ρ)
noncomputable def frzs(is:List Nat)(ρ:av):av:=is.foldl (λρ i=>frz i ρ) ρ
end TG
namespace TG
open PySem PySem.Spec L2
variable[ay]
noncomputable def wa(K:Sn)(n:Nat)(g:bD):Sp:=λvs H Q E=>∃O ds,vs.length=n/\dM H O/\aN K (hid H O) ds vs/\match g ds with
 |.ok d=>∀v H',aQ H H'->cf K (hid H' O) d v->Q v H'
 |.error (some x)=>NB K H O x E
 |.error none=>False
section
variable{X:Cx}{k:Nat}{f C:T7}{fd:UP}{ps:ax}{sp:Sp}{x m:Str}{p pos apos:Pos}{e o:T8}{es:bi}{ta:TE}{t:TA}
theorem tq{pins:aU}{σ:St}{H:Hp}{s:Ua}{Q:VK}{E:XK}{us:aS}{vs:aI}(F:gS X.prog X.w X.K X.mg X.base (kX X.prog X.w) k f fd ps sp)(hr:fM k X.A)(hb:Binds X.K fd ps [])(hx:iN (kX X.prog X.w) X σ E)
  (I:Inv X pins σ H s) (r:Vals vs us) (h:sp vs H Q E):Um (model X.prog X.w) X.A (call (.ref f) us) (EP X pins σ Q) X.xe s:=by
 have hl:(us++[]).length=ps.length:=by rw[QB,<-r.length];exact F.len _ _ _ _ h
 have hb':=hb s us I.kIn hl;rw[QB]at hb';refine UR (UT (F.run X.A X.stack s H ⟨us,[]⟩ us vs Q E hr I.env0 hb' r h) λr s' hq=>?_);cases r with
 |error e=>exact hx pins H s e s' I hq
 |ok fl=>
  cases fl with
  |ret u=>exact I.after hq
  |next=>exact False.elim hq
  |brk=>exact False.elim hq
  |cont=>exact False.elim hq
noncomputable def wH(X:Cx)(sp:Sp)(t:TA):TE:=λσ H Q=>t σ H λvs H1=>∃E,iN (kX X.prog X.w) X σ E/\sp vs H1 Q E
theorem AR(F:gS X.prog X.w X.K X.mg X.base (kX X.prog X.w) k f fd ps sp)(hr:fM k X.A)(hg:Gl X x)(hm:X.mg x=some (.ref f))(hk:SN X.K (.ref f)=true)(hb:Binds X.K fd ps [])
  (ha:PA X (e::es) t) (hdb:(x==("__debug__":Str))=false:=by decide) (he:Uo (e::es) X.env=(false,eval e X.env)::Uo es X.env:=by rfl) (hpl:(backTo pos (Uo es X.env)).any (·.1)=false:=by rfl):
  PE X (.Call (.Name x p) (e::es) [] pos) (wH X sp t):=by
 intro pins s σ H Q I h;refine UU (hW I hg hm ?_ hdb);refine SR (h₀:=X.base) I.ok.mod.kin hk (cu (ha pos pins s σ H _ I h) λus s1 ⟨vs,H1,I1,r,E,hx,q⟩=>⟨I1.kIn,?_⟩) he hpl;exact tq F hr hb hx I1 r q
theorem sI{n:Nat}{g:bD}{f:aO}(hn:∀ds,g ds≠un->ds.length=n):∀σ H Q,tF X (fR g f) σ H Q->wH X (wa X.K n g) (L7 X f) σ H Q:=λσ H Q ⟨O,ρ,E,hF⟩=>
 ⟨O,ρ,E,(fi.bind hF).imp fun ds hF vs H1 s1 d1=>by
  cases hg:g ds with
  |ok d=>
   rw[hg]at hF;refine⟨E0,xH,O,ds,by rw[<-d1.length];exact hn ds (by rw[hg];intro z;cases z),E.all.same s1,d1,?_⟩;rw[hg];exact λv H2 s2 d2=>hF v H2 (s1.trans s2) d2
  |error z=>
   rw[hg]at hF;cases z with
   |none=>exact hF.elim
   |some x=>
    refine⟨xu X O H1 x,wM (GZ.mono hF s1),O,ds,by rw[<-d1.length];exact hn ds (by rw[hg];intro z;cases z),E.all.same s1,d1,?_⟩;rw[hg];exact vc⟩
end
noncomputable def Callee(P:Uc)(w:Ub)(K:Sn)(mg:bU)(base:Ue)(k:Nat)(x:Str)(ps:ax)(g:bD):Prop:=
 ∃f fd,gS P w K mg base (kX P w) k f fd ps (wa K ps.length g)/\Binds K fd ps []/\SN K (.ref f)=true/\mg x=some (.ref f)
noncomputable def Ar(n:Nat)(g:bD):Prop:=∀ds,g ds≠un->ds.length=n
noncomputable def K0:Ks:={nx:=λ_=>.ok .non}
noncomputable def env0(n:Nat)(ds:List D):av:=ds.map (λd=>some (.val d))++List.replicate (n-ds.length) none
noncomputable def ao(B:bw)(np n:Nat):bD:=λds=>if ds.length=np then B K0 (env0 n ds)else un
theorem et{B:bw}{np n:Nat}:Ar np (ao B np n):=λds h=>by
 unfold ao at h;split at h
 ·assumption
 ·exact absurd rfl h
theorem gQ{n:Nat}{ds:List D}(i:Nat)(x:S)(e:(env0 n ds)[i]?=some (some x)):∃d,ds[i]?=some d/\x=.val d:=by
 unfold env0 at e;by_cases hi:i<ds.length
 ·rw[QH (by rw[Qx];exact hi),QI,Ri hi]at e;have e':some (S.val ds[i])=some x:=Option.some.inj e;exact⟨ds[i],by rw[Ri hi],(Option.some.inj e').symm⟩
 ·rw[QF (by rw[Qx];omega),Qx,QG]at e;split at e
  ·cases e
  ·cases e
theorem pU{K:Sn}{O:aH}{H:Hp}{N:ax}{ds:List D}{vs:aI}(hO:dM H O)(h:aN K (hid H O) ds vs):dz K O H (env0 N.length ds) (L2.start N vs):=by
 refine⟨λi d e=>?_,λi xs e=>?_,λi j xs ys a e=>?_,hO⟩
 ·obtain⟨d',e1,e2⟩:=gQ i _ e;cases e2;obtain⟨v,e3,e4⟩:=h.get e1;refine⟨v,?_,e4⟩;unfold L2.start;have hi:i<vs.length:=(List.getElem?_eq_some_iff.mp e3).1;rw[QH (by rw[Qx];exact hi),QI,e3];rfl
 ·obtain⟨d',_,e2⟩:=gQ i _ e;cases e2
 ·obtain⟨d',_,e2⟩:=gQ i _ e;cases e2
section
variable{P:Uc}{w:Ub}{K:Sn}{mg:bU}{base:Ue}
structure BodyOk(P:Uc)(w:Ub)(K:Sn)(mg:bU)(base:Ue)(k:Nat)(N:ax)(qual:Str)(st:T9)(f:T7)(B:bw):Prop where
 h:∀(cdv:T5)(A:Uj)(outer:List Env)(s:Ua)(H:Hp)(E:XK),fM k (A.deeper (TH qual (au st) s.heap.objs.size f cdv))->Uy (model P w) (A.deeper (TH qual (au st) s.heap.objs.size f cdv)) (TH qual (au st) s.heap.objs.size f cdv) (jg (kX P w) P w K mg base N qual (au st) f cdv A outer s H E).xe->
  Ke (jg (kX P w) P w K mg base N qual (au st) f cdv A outer s H E) (cY st) B
theorem M2{x qual:Str}{st:T9}{f:T7}{fd:UP}{N ps:ax}{k:Nat}{sp:Sp}{CX:vB}(F:mj K x qual st f fd)(S:bu N ps (au st))(len:∀vs H Q E,sp vs H Q E->vs.length=ps.length)
  (hbody:∀ (cdv:T5) (A:Uj) (outer:List Env) (s:Ua) (H:Hp) (vs:aI) (Q:VK) (E:XK),fM k (A.deeper (TH qual (au st) s.heap.objs.size f cdv))->sp vs H Q E ->
   ∃t,uf (jg CX P w K mg base N qual (au st) f cdv A outer s H E) (cY st) t/\t {nx:=λ_ H'=>Q .non H',rt:=Q} (L2.start N vs) H):gS P w K mg base CX (k+1) f fd ps sp:=by
 obtain⟨oc,od,kV,doc,pm,an,cdv,ct,osl,rfl,lk,hcd⟩:=F.ex;exact FC lk hcd S len λA outer s H vs Q E hr hsp=>hbody cdv A outer s H vs Q E hr hsp
theorem gS.any{CX:vB}{k:Nat}{f:T7}{fd:UP}{ps:ax}{sp:Sp}(F:gS P w K mg base JC k f fd ps sp):gS P w K mg base CX k f fd ps sp:=
 ⟨F.len,fun A outer s H args us vs Q E hr he hb hv hs=>UT (F.run A outer s H args us vs Q E hr he hb hv hs) fun r s' h=>by
  cases r with
  |error e=>exact False.elim h
  |ok fl=>cases fl<;>exact h⟩
theorem tD{x qual:Str}{st:T9}{f:T7}{fd:UP}{N ps:ax}{k:Nat}{B:bw}(F:mj K x qual st f fd)(SC:bu N ps (au st))(hb:BodyOk P w K mg base k N qual st f B):
  gS P w K mg base (kX P w) (k+1) f fd ps (wa K ps.length (ao B ps.length N.length)):=by
 refine M2 F SC (λvs H Q E h=>?_) λcdv A outer s H vs Q E hr h=>?_
 ·obtain⟨O,ds,h1,_⟩:=h;exact h1
 ·obtain⟨O,ds,h1,h2,h3,h4⟩:=h;have hl:ds.length=ps.length:=h3.length.trans h1;have e4:ao B ps.length N.length ds=B K0 (env0 N.length ds):=by unfold ao;rw[if_pos hl]
  rw[e4]at h4;refine⟨_,hb.h cdv A outer s H E hr PassesOwn.leaving H O,O,env0 N.length ds,K0,_,⟨pU h2 h3,⟨aQ.refl H,λ_ z=>z,λa z=>.inl z⟩,λi xs a e=>?_,λi d e=>by obtain⟨d',_,e2⟩:=gQ i _ e;cases e2⟩,rfl,?_⟩
  ·obtain⟨d',_,e2⟩:=gQ i _ e;cases e2
  ·generalize B K0 (env0 N.length ds)=r at h4;refine⟨λz=>by rw[z]at h4;exact h4,λO' ρ' σ' H' S e=>?_,λO' ρ' σ' H' S e=>?_,λO' ρ' σ' H' S e=>?_,λd O' v H' e b dv=>?_,λO' ρ' σ' H' x S e=>?_⟩
   ·have e:(.ok .non:R D)=r:=e;subst e;exact h4 .non H' S.base.same (jm.mpr rfl)
   ·have e:(un:R D)=r:=e;subst e;exact h4.elim
   ·have e:(un:R D)=r:=e;subst e;exact h4.elim
   ·subst e;exact h4 v H' b.same (dv.mono (gX b.sub))
   ·have e:(.error (some x):R D)=r:=e;subst e;exact Ig h4 S.base.same S.base.sub
theorem ya{x qual:Str}{st:T9}{f:T7}{fd:UP}{N ps:ax}{k:Nat}{B:bw}(F:mj K x qual st f fd)(b:Binds K fd ps [])(m:mg x=some (.ref f))(SC:bu N ps (au st))(hb:BodyOk P w K mg base k N qual st f B):
  Callee P w K mg base (k+1) x ps (ao B ps.length N.length):=⟨f,fd,tD F SC hb,b,F.kp,m⟩
theorem uX{x qual:Str}{st:T9}{f:T7}{fd:UP}{ps:ax}(k:Nat)(F:mj K x qual st f fd)(b:Binds K fd ps [])(m:mg x=some (.ref f)):Callee P w K mg base k x ps (λ_=>un):=by
 have no:∀vs H Q E,¬wa K ps.length (λ_=>un) vs H Q E:=λvs H Q E ⟨O,ds,_,_,_,e⟩=>e;exact⟨f,fd,⟨λvs H Q E h=>absurd h (no vs H Q E),λA outer s H args us vs Q E _ _ _ _ h=>absurd h (no vs H Q E)⟩,b,F.kp,m⟩
end
theorem oJ{K:Sn}{T:String}(h1:S4 K (.type "NoneType") (.type T)=some (T=="NoneType"))(h2:S4 K (.type "bool") (.type T)=some (T=="bool"||T=="int"))(h3:S4 K (.type "int") (.type T)=some (T=="int"))(h4:S4 K (.type "str") (.type T)=some (T=="str"))
  (h5:S4 K (.type "tuple") (.type T)=some (T=="tuple")) (h6:S4 K (.type "list") (.type T)=some (T=="list")):vG K T:=λd hd=>by
 cases d with
 |dct _ _=>cases hd
 |obj _ _ _=>cases hd
 |exc _ _ _=>cases hd
 |non=>exact h1
 |bl _=>exact h2
 |int _=>exact h3
 |str _=>exact h4
 |tup _=>exact h5
 |lst _=>exact h6
theorem Am{K:Sn}:vG K "int":=oJ rfl rfl rfl rfl rfl rfl
theorem zR{K:Sn}:vG K "bool":=oJ rfl rfl rfl rfl rfl rfl
theorem BF{K:Sn}:vG K "str":=oJ rfl rfl rfl rfl rfl rfl
theorem wI{K:Sn}:vG K "tuple":=oJ rfl rfl rfl rfl rfl rfl
end TG
namespace TG
open PySem PySem.Spec L2
variable[ay]
section
variable{X:Cx}{a b c:T8}{fa fb fc:FX}{pos:Pos}
theorem Hk{r:V->Hp->VK->Prop}{g:D->bx}(s:Ej X.K r g):∀σ H Q,tF X (f1 g fa) σ H Q->N5 r (tF X fa) σ H Q:=λσ H Q ⟨O,ρ,E,hF⟩=>⟨O,ρ,E,(fi.bind hF).imp λa hF x H1 s1 d1=>by
 obtain⟨d,e,q⟩:=fi.rO hF;exact s a d x O H1 Q (E.all.same s1) e d1 λv H2 s2 d2=>q v H2 (s1.trans s2) d2⟩
noncomputable def fX(g g':D->D->bx)(fa fb fc:FX):FX:=λρ=>(fa ρ).bind λx=>(fb ρ).bind λy=>(rO (g x y)).bind λz=>wA z ((fc ρ).bind λw=>rO (g' y w))
theorem rG{r r':R2}{g g':D->D->bx}(s:cZ X.K r g)(s':cZ X.K r' g'):∀σ H Q,tF X (fX g g' fa fb fc) σ H Q->wG r r' (tF X fa) (tF X fb) (tF X fc) σ H Q:=λσ H Q ⟨O,ρ,E,hF⟩=>
 ⟨O,ρ,E,(fi.bind hF).imp fun x hF v1 H1 s1 d1=>⟨O,ρ,E.same s1,((fi.bind hF).mono s1).imp fun y hF v2 H2 s2 d2=>by
  obtain⟨z,e3,hF⟩:=fi.rO (fi.bind hF);refine s x y z v1 v2 O H2 _ (E.all.same (s1.trans s2)) e3 (d1.mono (bQ s2)) d2 λv3 H3 s3 d3=>?_;cases z with
  |bl k=>
   refine⟨k,ju.mp d3,?_⟩;cases k with
   |false=>exact uV (hF _ H3 ((s1.trans s2).trans s3) (ju.mpr rfl))
   |true=>
    refine uQ ⟨O,ρ,E.same ((s1.trans s2).trans s3),((fi.bind (show fi X σ O H ((fc ρ).bind λw=>rO (g' y w)) _ from hF)).mono ((s1.trans s2).trans s3)).imp λw hF v4 H4 s4 d4=>?_⟩;obtain⟨d,e5,q⟩:=fi.rO hF;exact s' y w d v2 v4 O H4 Q (E.all.same (((s1.trans s2).trans s3).trans s4)) e5 (d2.mono (bQ (s3.trans s4))) d4 λv5 H5 s5 d5=>q v5 H5 ((((s1.trans s2).trans s3).trans s4).trans s5) d5
  |_=>exact hF.elim⟩⟩
noncomputable def Hy:D->bx
 |.int i=>some (.int (-i))
 |_=>none
noncomputable def qN(f:FX):FX:=f1 Hy f
noncomputable def Br:List D->bx
 |[.int i]=>if decide (i.natAbs.log2<1920)then some (.str (toString i))else none
 |_=>none
theorem y8:eG X (.type "str") (CT X.K Br):=by
 rintro pins s σ H xs us Q I r ⟨O,ds,d,hO,hd,hg,q⟩;unfold Br at hg;split at hg
 ·rename_i i;obtain⟨h1,h2⟩:=aY hg;subst h2;obtain⟨v,ev,h1'⟩:=hd.one;exact tT pins s σ H xs us Q I r ⟨i,by rw[ev,eZ.mp h1'],of_decide_eq_true h1,q _ H (aQ.refl H) (eV.mpr rfl)⟩
 ·cases hg
noncomputable def Cy:D->bx
 |.str x=>if small x.length then some (.str (Txt.upper x))else none
 |_=>none
noncomputable def GJ(f:FX):FX:=f1 Cy f
noncomputable def HE:D->bx
 |.lst xs=>some (.lst xs.reverse)
 |.tup xs=>some (.tup xs.reverse)
 |_=>none
noncomputable def K7(f:FX):FX:=f1 HE f
noncomputable def allB:List D->Option Bool
 |[]=>some true
 |.bl b::r=>(allB r).bind λc=>some (b&&c)
 |_=>none
noncomputable def vI:List D->bx
 |[.lst xs]=>(allB xs).bind λb=>some (.bl b)
 |_=>none
theorem uK:∀{xs:List D}{b:Bool},allB xs=some b->∃bs:List Bool,xs=bs.map .bl/\b=bs.all id
 |[],b,h=>by cases h;exact⟨[],rfl,rfl⟩
 |.bl x::r,b,h=>by
  obtain⟨c,e1,e2⟩:=bind_some (show((allB r).bind λc=>some (x&&c))=some b from h);cases e2;obtain⟨bs,e3,e4⟩:=uK e1;exact⟨x::bs,by rw[Qw,e3],by rw[Rg,e4];rfl⟩
 |.non::_,_,h=>by cases h
 |.int _::_,_,h=>by cases h
 |.str _::_,_,h=>by cases h
 |.tup _::_,_,h=>by cases h
 |.lst _::_,_,h=>by cases h
 |.dct _ _::_,_,h=>by cases h
 |.obj _ _ _::_,_,h=>by cases h
 |.exc _ _ _::_,_,h=>by cases h
theorem lE{K:Sn}{H:Hp}:∀{bs:List Bool}{vs:aI}{us:aS},aN K H (bs.map .bl) vs->Vals vs us->us=bs.map Value.bool
 |[],vs,us,h,r=>by
  rw[QR,cj]at h;subst h;cases r;rfl
 |b::bs,vs,us,h,r=>by
  rw[Qw,aX]at h;obtain⟨v,r',e,h1,h2⟩:=h;subst e;cases r with
  |cons q1 q2=>
   rw[ju]at h1;subst h1;cases q1;rw[Qw,lE h2 q2]
theorem range_all(bs:List Bool):((List.range bs.length).all λi=>(bs[i]?).getD true)=bs.all id:=by
 induction bs with
 |nil=>rfl
 |cons b bs ih=>
  rw[Qv,Rh,Rg,List.all_map,Rg,<-ih];rfl
theorem yx(hc:X.calm=true):eG X (.builtin "all") (CT X.K vI):=by
 rintro pins s σ H xs us Q I r ⟨O,ds,d,hO,hd,hg,q⟩;unfold vI at hg;split at hg
 ·rename_i ys;obtain⟨bv,e1,e2⟩:=bind_some hg;cases e2;obtain⟨bs,eb,ev⟩:=uK e1;subst eb ev;obtain⟨v,evv,h1⟩:=hd.one;subst evv;obtain⟨p,vs,ep,g1,g2⟩:=b7.mp h1;subst ep;obtain⟨u,eu,ru⟩:=vals1 r;subst eu;cases ru;obtain⟨its,rv,pl,hz⟩:=I.list ((aB H O).seq g1);have ei:=lE g2 rv;have hl:=pl.isList;have hlt:p<s.heap.objs.size:=by obtain⟨_,e,_⟩:=hl;exact To e
  refine call_all_walk (Ux hl ?_);refine⟨s.heap.objs.size,[s.heap.objs.size,p],[s.heap.objs.size],its.toArray.size,_,_,λi=>(bs[i]?).getD true,rfl,Walks.list (A:=X.A.in1) (I.ok.hd hc) _ p (Qg hlt) its.toArray,
   ⟨⟨_,Ts _ rfl,rfl,rfl⟩,hl.push _⟩,λi v s' Q' E' hP hQ=>?_,λh' tk hk=>?_⟩
  ·have e:bs[i]?.map Value.bool=some v:=by
    rw[<-QI,<-ei]
    simpa using hP
   cases eb:bs[i]? with
   |none=>rw[eb]at e;cases e
   |some b=>
    rw[eb]at e;cases e;simp only[eb,Ry]at hQ;exact Ut hQ
  ·have e:((List.range its.toArray.size).all λi=>(bs[i]?).getD true)=bs.all id:=by
    have:its.toArray.size=bs.length:=(by rw[Qs,ei,Qx]);rw[this];exact range_all bs
   rw[e];have k:∀b x,s.heap.get? b=some x->h'.get? b=some x:=λb x e=>hk b x (λhm=>by rw[List.mem_singleton.mp hm]at e;exact Qf _ (To e)) (Tr _ e);exact⟨.bl _,H,I.kept k,rfl,q _ H (aQ.refl H) (ju.mpr rfl)⟩
 ·cases hg
end
end TG
namespace ZI
open PySem PySem.Spec PyProof.Rows
section
variable{prog:Uc}{w:Ub}{A:Uj}{E:T5->Ua->Prop}{s:Ua}
theorem vD{it t:T7}{i:Nat}{its:Array T5}{x:T5}{Q:T5->Ua->Prop}(hit:s.heap.IsTupleIter it t i)(ht:s.heap.IsTuple t its)(hx:its[i]?=some x)
  (hQ:∀g,g.IsTupleIter it t (i+1)->Tq it s.heap g->Q x {s with heap:=g}):Um (model prog w) A (Builtin.SmallTypes.nextOf (.ref it)) Q E s:=by
 obtain⟨ob,h1,h2,h3⟩:=id hit;obtain⟨ol,g1,_,n,g2⟩:=ht;unfold Builtin.SmallTypes.nextOf;refine Uw (U4 (name:=Str.ofString "__next__") hit.typeIs F.slot_tuple_iterator_next (U5 F.slot_tuple_iterator_next hit.typeIs F.entry_tuple_iterator_next ?_ (F.args_tuple_iterator_next_1 _)));show Um _ _ (field (.ref it) 0 >>= _) _ _ s;refine Uw (U2 h1 h3 (x:=.ref t) rfl ?_);show Um _ _ (if(Value.ref t==Value.none)=true then _ else _) _ _ s;rw[if_neg (show¬((Value.ref t==Value.none)=true)from λz=>Qu z)];show Um _ _ (field (.ref it) 1 >>= _) _ _ s;refine Uw (U2 h1 h3 (x:=.int i 0) rfl ?_);show Um _ _ (seqItems? (.ref t) >>= _) _ _ s;refine Uw (Vc g1 g2 ?_);simp only[QL,hx];refine Uw (wpAny_setField h1 h3 (by simp) (Uv ⟨x,rfl,Uv (hQ _ ⟨_,Tw _ h1 (Obj.isFreed_of_fields (Obj.data_mapFields h3 _)),(Obj.cls_mapFields ..).trans h2,by rw[Obj.data_mapFields h3];simp[rawInt]⟩ (Heap.SameBut.update ..))⟩))
theorem yM{it t:T7}{i:Nat}{its:Array T5}{Q:T5->Ua->Prop}(hh:A.handled=none)(hit:s.heap.IsTupleIter it t i)(ht:s.heap.IsTuple t its)(hx:its[i]?=none)
  (hE:∀g e,Heap.ExtBut it s.heap g->(∃o,g.get? e=some o/\o.cls=.type "StopIteration")->E (.ref e) {s with heap:=g}):Um (model prog w) A (Builtin.SmallTypes.nextOf (.ref it)) Q E s:=by
 obtain⟨ob,h1,h2,h3⟩:=id hit;obtain⟨ol,g1,_,n,g2⟩:=ht;unfold Builtin.SmallTypes.nextOf;refine Uw (U4 (name:=Str.ofString "__next__") hit.typeIs F.slot_tuple_iterator_next (U5 F.slot_tuple_iterator_next hit.typeIs F.entry_tuple_iterator_next ?_ (F.args_tuple_iterator_next_1 _)));show Um _ _ (field (.ref it) 0 >>= _) _ _ s;refine Uw (U2 h1 h3 (x:=.ref t) rfl ?_);show Um _ _ (if(Value.ref t==Value.none)=true then _ else _) _ _ s;rw[if_neg (show¬((Value.ref t==Value.none)=true)from λz=>Qu z)];show Um _ _ (field (.ref it) 1 >>= _) _ _ s;refine Uw (U2 h1 h3 (x:=.int i 0) rfl ?_);show Um _ _ (seqItems? (.ref t) >>= _) _ _ s;refine Uw (Vc g1 g2 ?_);simp only[QL,hx];refine Uw (U9 (Uw (wpAny_setField h1 h3 (by simp) ?_)));show Um _ _ (newExc (.type "StopIteration") [] >>= _) _ _ _;refine Uw ?_;simp only[newExc,newTuple];refine Uw (U7 ?_ (by size_fits));refine Uw (m:=firstArgMember _ _) (wpAny_of_eq (a:=Value.none) (by first|rfl|(simp only[firstArgMember];rfl)) ?_);refine U7 ?_ (by size_fits);simp only[raiseNew];refine Uw (wpAny_handled ?_)
 first|rw[show A.in1.handled=none from hh]|rw[hh]
 refine Uw (Uv (wpAny_throw ?_));exact hE _ _ (((Heap.SameBut.update ..).extBut.push _).push _) ⟨_,Ts _ rfl,rfl⟩
end
theorem GY{prog:Uc}{w:Ub}{A:Uj}(hh:A.handled=none)(it t:T7)(hne:t≠it)(its:Array T5):Draws prog w A it [it,t] its.size (λi v=>its[i]?=some v) (λi h=>h.IsTupleIter it t i/\h.IsTuple t its)where
 live:=λi h ⟨⟨o,e,_⟩,_⟩=>⟨o,e⟩
 frame:=λi h h' ⟨x,y⟩ k=>⟨x.at λo e=>k it (by simp) o e,let ⟨o,e,r⟩:=y;⟨o,k t (by simp) o e,r⟩⟩
 item:=λi s Q E hi ⟨x,y⟩ hQ=>vD x y (Array.getElem?_eq_getElem hi) λg hg hs=>hQ _ g s.toks (Array.getElem?_eq_getElem hi) ⟨hg,let ⟨o,e,r⟩:=y;⟨o,(hs.2 t hne).trans e,r⟩⟩ hs
 done:=λs Q E ⟨x,y⟩ hE=>yM hh x y (by simp) hE
structure Apart(z TI TO i1 i2:T7)(fp1 fp2:List T7):Prop where
 a1:TI≠z
 a2:TO≠z
 a3:TI≠TO
 b1:z∉fp1
 b2:TO∉fp1
 b3:i2∉fp1
 c1:z∉fp2
 c2:TO∉fp2
 c3:i1∉fp2
 d1:TI≠i1
 d2:TI≠i2
 e1:i1∈fp1
 e2:i2∈fp2
section
variable{prog:Uc}{w:Ub}{A:Uj}{E:T5->Ua->Prop}{s:Ua}{z TI TO i1 i2:T7}{fp1 fp2:List T7}{n1 n2 i:Nat}{P1 P2:Nat->T5->Prop}{S1 S2:Nat->Ue->Prop}{a b:T5}
theorem next_item{Q:T5->Ua->Prop}(Ap:Apart z TI TO i1 i2 fp1 fp2)(D1:Draws prog w A i1 fp1 n1 P1 S1)(D2:Draws prog w A i2 fp2 n2 P2 S2)(hz:Vd s.heap z TI TO .none)(hTI:Ve s.heap TI (.ref i1) (.ref i2))(hTO:Ve s.heap TO a b)(st1:S1 i s.heap)(st2:S2 i s.heap)(l1:i<n1)(l2:i<n2)
  (hQ:∀ x y g tk,P1 i x->P2 i y->Vd g z TI TO (rawInt s.heap.objs.size)->Ve g TO x y->S1 (i+1) g->S2 (i+1) g->Ve g s.heap.objs.size x y->g.objs.size=s.heap.objs.size+1 ->
   (∀c o,c≠z->c≠TO->c≠i1->c≠i2->s.heap.get? c=some o->g.get? c=some o)->Q (.ref s.heap.objs.size) {s with heap:=g,toks:=tk}):
  Um (model prog w) A (Builtin.«zip.__next__» ⟨[.ref z],[]⟩) (λfin s'=>∃v,fin=.done (.ret v)/\Q v s') E s:=by
 have n1z:i1≠z:=λe=>Ap.b1 (e ▸ Ap.e1);have n2z:i2≠z:=λe=>Ap.c1 (e ▸ Ap.e2);have n1T:i1≠TO:=λe=>Ap.b2 (e ▸ Ap.e1);have n2T:i2≠TO:=λe=>Ap.c2 (e ▸ Ap.e2);show Um _ _ (field (.ref z) 2 >>= _) _ _ _;refine Uw (U2 hz rfl (x:=.bool false) rfl ?_);show Um _ _ (field (.ref z) 3 >>= _) _ _ _;refine Uw (U2 hz rfl (x:=.ref TI) rfl ?_);refine Uw (Vc hTI rfl ?_);show Um _ _ (Builtin.SmallTypes.ownedTupleIsFree (.ref z) >>= _) _ _ _;refine Uw ?_;unfold Builtin.SmallTypes.ownedTupleIsFree;refine Uw (U2 hz rfl (x:=.none) rfl (Uv ?_));simp only[if_true];refine Uw (U9 ?_);refine Uw (U2 hz rfl (x:=.ref TO) rfl ?_);refine Uw (Vf hz (by simp) λg1 hz1 k1=>?_);have hz1:Vd g1 z TI TO .ellipsis:=hz1;refine Uw ?_;simp only[List.zipIdx_cons,List.zipIdx_nil,QX,List.forIn_nil];refine Uw (Uw (Vg ?_));show Um _ _ (Builtin.SmallTypes.nextOf (.ref i1) >>= _) _ _ _;have q1:S1 i g1:=D1.frame _ _ _ st1 λb hb o e=>k1.extBut _ _ (λz'=>Ap.b1 (z' ▸ hb)) e;refine Uw (D1.item i {s with heap:=g1} _ _ l1 q1 λx g2 tk2 p1 q2 k2=>Uv ?_);have t2:Ve g2 TO a b:=k2.extBut _ _ n1T.symm (k1.extBut _ _ Ap.a2 hTO);refine Uw (Vc t2 rfl ?_);refine Uw (Vh t2 λg3 t3 k3=>?_);have t3:Ve g3 TO x b:=t3;refine Uw (Vi (Uv ?_));refine Uw (Uw (Vg ?_));show Um _ _ (Builtin.SmallTypes.nextOf (.ref i2) >>= _) _ _ _;have q3:S2 i g3:=D2.frame _ _ _ st2 λb hb o e=>k3.extBut _ _ (λz'=>Ap.c2 (z' ▸ hb)) (k2.extBut _ _ (λz'=>Ap.c3 (z' ▸ hb)) (k1.extBut _ _ (λz'=>Ap.c1 (z' ▸ hb)) e));refine Uw (D2.item i {s with heap:=g3,toks:=tk2} _ _ l2 q3 λy g4 tk4 p2 q4 k4=>Uv ?_);have t4:Ve g4 TO x b:=k4.extBut _ _ n2T.symm t3;refine Uw (Vc t4 rfl ?_);refine Uw (Vh t4 λg5 t5 k5=>?_);have t5:Ve g5 TO x y:=t5;refine Uw (Vi (Uv (Uv ?_)));refine Uw (Vc t5 rfl ?_);refine Uw (wpAny_newTuple ?_);have hsz:g5.objs.size=s.heap.objs.size:=by rw[k5.1,k4.1,k3.1,k2.1,k1.1]
 have hz5:Vd g5 z TI TO .ellipsis:=k5.extBut _ _ Ap.a2.symm (k4.extBut _ _ n2z.symm (k3.extBut _ _ Ap.a2.symm (k2.extBut _ _ n1z.symm hz1)));have k15:∀c o,c≠z->c≠TO->c≠i1->c≠i2->s.heap.get? c=some o->g5.get? c=some o:=λc o c1 c2 c3 c4 e=>k5.extBut _ _ c2 (k4.extBut _ _ c4 (k3.extBut _ _ c2 (k2.extBut _ _ c3 (k1.extBut _ _ c1 e))));have r1:S1 (i+1) g5:=D1.frame _ _ _ q2 λb hb o e=>k5.extBut _ _ (λz'=>Ap.b2 (z' ▸ hb)) (k4.extBut _ _ (λz'=>Ap.b3 (z' ▸ hb)) (k3.extBut _ _ (λz'=>Ap.b2 (z' ▸ hb)) e));have r2:S2 (i+1) g5:=D2.frame _ _ _ q4 λb hb o e=>k5.extBut _ _ (λz'=>Ap.c2 (z' ▸ hb)) e;have lz:z<g5.objs.size:=To hz5;show Um _ _ (Builtin.SmallTypes.ownedTupleHandOut (.ref z) (.ref g5.objs.size) >>= _) _ _ _;refine Uw ?_;unfold Builtin.SmallTypes.ownedTupleHandOut;have hz6:Vd (g5.push {cls:=.type "tuple",data:=.seq #[x,y]}) z TI TO .ellipsis:=Tr _ hz5;refine Uw (Vf hz6 (by simp) λg7 hz7 k7=>?_);have hz7:Vd g7 z TI TO (rawInt g5.objs.size):=hz7;refine Vf hz7 (by simp) λg8 hz8 k8=>?_;have hz8:Vd g8 z TI TO (rawInt g5.objs.size):=hz8;have up:∀c o,c≠z->g5.get? c=some o->g8.get? c=some o:=λc o c1 e=>k8.extBut _ _ c1 (k7.extBut _ _ c1 (Tr _ e));have t8:Ve g8 g5.objs.size x y:=k8.extBut _ _ (Qp lz) (k7.extBut _ _ (Qp lz) (Ts _ rfl));have s8:g8.objs.size=g5.objs.size+1:=by rw[k8.1,k7.1,Tt]
 rw[hsz]at hz8 t8 s8;refine Uv ⟨_,rfl,?_⟩;show Q (.ref g5.objs.size) _;rw[hsz];exact hQ x y g8 tk4 p1 p2 hz8 (up _ _ Ap.a2 t5) (D1.frame _ _ _ r1 λb hb o e=>up b o (λz'=>Ap.b1 (z' ▸ hb)) e) (D2.frame _ _ _ r2 λb hb o e=>up b o (λz'=>Ap.c1 (z' ▸ hb)) e) t8 s8 λc o c1 c2 c3 c4 e=>up c o c1 (k15 c o c1 c2 c3 c4 e)
theorem next_end{Q:Fin->Ua->Prop}(Ap:Apart z TI TO i1 i2 fp1 fp2)(D1:Draws prog w A i1 fp1 n1 P1 S1)(D2:Draws prog w A i2 fp2 n2 P2 S2)(hz:Vd s.heap z TI TO .none)(hTI:Ve s.heap TI (.ref i1) (.ref i2))(hTO:Ve s.heap TO a b)(st1:S1 i s.heap)(st2:S2 i s.heap)(hend:i=n1\/(i<n1/\i=n2))
  (hE:∀g e tk,(∀c o,c≠z->c≠TO->c≠i1->c≠i2->s.heap.get? c=some o->g.get? c=some o)->(∃o,g.get? e=some o/\o.cls=.type "StopIteration")->E (.ref e) {s with heap:=g,toks:=tk}):
  Um (model prog w) A (Builtin.«zip.__next__» ⟨[.ref z],[]⟩) Q E s:=by
 have n1z:i1≠z:=λe=>Ap.b1 (e ▸ Ap.e1);have n2z:i2≠z:=λe=>Ap.c1 (e ▸ Ap.e2);have n1T:i1≠TO:=λe=>Ap.b2 (e ▸ Ap.e1);show Um _ _ (field (.ref z) 2 >>= _) _ _ _;refine Uw (U2 hz rfl (x:=.bool false) rfl ?_);show Um _ _ (field (.ref z) 3 >>= _) _ _ _;refine Uw (U2 hz rfl (x:=.ref TI) rfl ?_);refine Uw (Vc hTI rfl ?_);show Um _ _ (Builtin.SmallTypes.ownedTupleIsFree (.ref z) >>= _) _ _ _;refine Uw ?_;unfold Builtin.SmallTypes.ownedTupleIsFree;refine Uw (U2 hz rfl (x:=.none) rfl (Uv ?_));simp only[if_true];refine Uw (U9 ?_);refine Uw (U2 hz rfl (x:=.ref TO) rfl ?_);refine Uw (Vf hz (by simp) λg1 hz1 k1=>?_);have hz1:Vd g1 z TI TO .ellipsis:=hz1;refine Uw ?_;simp only[List.zipIdx_cons,List.zipIdx_nil,QX,List.forIn_nil];refine Uw (Uw (Vg ?_));show Um _ _ (Builtin.SmallTypes.nextOf (.ref i1) >>= _) _ _ _;have q1:S1 i g1:=D1.frame _ _ _ st1 λb hb o e=>k1.extBut _ _ (λz'=>Ap.b1 (z' ▸ hb)) e;rcases hend with hend|⟨l1,hend⟩
 ·subst hend;refine Uw (D1.done {s with heap:=g1} _ _ q1 λg2 e k2 he=>?_);obtain⟨oe,hoe,hce⟩:=he;have hz2:Vd g2 z TI TO .ellipsis:=k2 _ _ n1z.symm hz1;have hez:e≠z:=λx=>by rw[x,hz2]at hoe;cases hoe;simp at hce
  exact Vf hz2 (by simp) λg3 _ k3=>hE g3 e s.toks (λc o c1 _ c3 _ x=>k3.extBut _ _ c1 (k2 _ _ c3 (k1.extBut _ _ c1 x))) ⟨oe,k3.extBut _ _ hez hoe,hce⟩
 ·refine Uw (D1.item i {s with heap:=g1} _ _ l1 q1 λx g2 tk2 p1 q2 k2=>Uv ?_);have t2:Ve g2 TO a b:=k2.extBut _ _ n1T.symm (k1.extBut _ _ Ap.a2 hTO);refine Uw (Vc t2 rfl ?_);refine Uw (Vh t2 λg3 t3 k3=>?_);refine Uw (Vi (Uv ?_));refine Uw (Uw (Vg ?_));show Um _ _ (Builtin.SmallTypes.nextOf (.ref i2) >>= _) _ _ _;have q3:S2 i g3:=D2.frame _ _ _ st2 λb hb o e=>k3.extBut _ _ (λz'=>Ap.c2 (z' ▸ hb)) (k2.extBut _ _ (λz'=>Ap.c3 (z' ▸ hb)) (k1.extBut _ _ (λz'=>Ap.c1 (z' ▸ hb)) e));subst hend;refine Uw (D2.done {s with heap:=g3,toks:=tk2} _ _ q3 λg4 e k4 he=>?_);obtain⟨oe,hoe,hce⟩:=he;have hz4:Vd g4 z TI TO .ellipsis:=k4 _ _ n2z.symm (k3.extBut _ _ Ap.a2.symm (k2.extBut _ _ n1z.symm hz1));have hez:e≠z:=λx=>by rw[x,hz4]at hoe;cases hoe;simp at hce
  exact Vf hz4 (by simp) λg5 _ k5=>hE g5 e tk2 (λc o c1 c2 c3 c4 x=>k5.extBut _ _ c1 (k4 _ _ c4 (k3.extBut _ _ c2 (k2.extBut _ _ c3 (k1.extBut _ _ c1 x))))) ⟨oe,k5.extBut _ _ hez hoe,hce⟩
end
noncomputable def SQ(b:Bool)(h:Ue)(l:T7)(xs:Array T5):Prop:=if b then h.IsList l xs else h.IsTuple l xs
noncomputable def SI(b:Bool)(h:Ue)(i l:T7)(k:Nat):Prop:=if b then h.IsListIter i l k else h.IsTupleIter i l k
noncomputable def Km(b:Bool):String:=if b then"list_iterator"else"tuple_iterator"
theorem SQ.keep{b:Bool}{h h':Ue}{l:T7}{xs:Array T5}(x:SQ b h l xs)(k:∀o,h.get? l=some o->h'.get? l=some o):SQ b h' l xs:=by
 cases b with
 |true=>exact Heap.IsList.at x k
 |false=>obtain⟨o,e,r⟩:=(show h.IsTuple l xs from x);exact(show h'.IsTuple l xs from⟨o,k o e,r⟩)
theorem SI.keep{b:Bool}{h h':Ue}{i l:T7}{n:Nat}(x:SI b h i l n)(k:∀o,h.get? i=some o->h'.get? i=some o):SI b h' i l n:=by
 cases b with
 |true=>exact Heap.IsListIter.at x k
 |false=>exact Heap.IsTupleIter.at x k
theorem SQ.lt{b:Bool}{h:Ue}{l:T7}{xs:Array T5}(x:SQ b h l xs):l<h.objs.size:=by
 cases b with
 |true=>obtain⟨o,e,_⟩:=(show h.IsList l xs from x);exact To e
 |false=>obtain⟨o,e,_⟩:=(show h.IsTuple l xs from x);exact To e
theorem SI.get{b:Bool}{h:Ue}{i l:T7}{n:Nat}(x:SI b h i l n):∃o,h.get? i=some o/\∀v,o.data≠.cell v:=by
 cases b with
 |true=>obtain⟨o,e,_,d⟩:=(show h.IsListIter i l n from x);exact⟨o,e,λv z=>by rw[d]at z;cases z⟩
 |false=>obtain⟨o,e,_,d⟩:=(show h.IsTupleIter i l n from x);exact⟨o,e,λv z=>by rw[d]at z;cases z⟩
theorem SI.new{b:Bool}{h:Ue}{l:T7}:SI b (h.push {cls:=.type (Km b),data:=.fields #[.ref l,.int 0 0]}) h.objs.size l 0:=by
 cases b with
 |true=>exact⟨_,Ts _ rfl,rfl,rfl⟩
 |false=>exact⟨_,Ts _ rfl,rfl,rfl⟩
theorem pA{b:Bool}{prog:Uc}{w:Ub}{A:Uj}{E:T5->Ua->Prop}{s:Ua}{l:T7}{xs:Array T5}{Q:T5->Ua->Prop}(h:SQ b s.heap l xs)
  (hQ:Q (.ref s.heap.objs.size) {s with heap:=s.heap.push {cls:=.type (Km b),data:=.fields #[.ref l,.int 0 0]}}):Um (model prog w) A (pyIter (.ref l)) Q E s:=by
 cases b with
 |true=>exact Ux h hQ
 |false=>exact wpAny_pyIter_tuple h hQ
theorem ke{prog:Uc}{w:Ub}{A:Uj}(b:Bool)(hh:A.handled=none)(it l:T7)(hne:l≠it)(its:Array T5):Draws prog w A it [it,l] its.size (λi v=>its[i]?=some v) (λi h=>SI b h it l i/\SQ b h l its):=by
 cases b with
 |true=>exact Draws.list hh it l hne its
 |false=>exact GY hh it l hne its
noncomputable abbrev Ad(b1:Bool)(h:Ue)(l1:T7):Ue:=h.push {cls:=.type (Km b1),data:=.fields #[.ref l1,.int 0 0]}
noncomputable abbrev J4(b1 b2:Bool)(h:Ue)(l1 l2:T7):Ue:=(Ad b1 h l1).push {cls:=.type (Km b2),data:=.fields #[.ref l2,.int 0 0]}
noncomputable abbrev Ki(b1 b2:Bool)(h:Ue)(l1 l2:T7):Ue:=(J4 b1 b2 h l1 l2).push {cls:=.type "tuple",data:=.seq #[.ref h.objs.size,.ref (Ad b1 h l1).objs.size]}
noncomputable abbrev KC(b1 b2:Bool)(h:Ue)(l1 l2:T7):Ue:=(Ki b1 b2 h l1 l2).push {cls:=.type "tuple",data:=.seq #[.none,.none]}
noncomputable abbrev FK(b1 b2:Bool)(h:Ue)(l1 l2:T7):Ue:=(KC b1 b2 h l1 l2).push {cls:=.type "zip",data:=.fields #[.none,.bool false,.bool false,.ref (J4 b1 b2 h l1 l2).objs.size,.ref (Ki b1 b2 h l1 l2).objs.size]}
theorem CD(b1 b2:Bool)(l1 l2:T7)(xs ys:Array T5):Meets (Builtin.«zip.__new__» ⟨[.type "zip",.ref l1,.ref l2],[]⟩) (λ_ R s=>SQ b1 s.heap l1 xs/\SQ b2 s.heap l2 ys/\R (.ok (.ret (.ref (KC b1 b2 s.heap l1 l2).objs.size))) {s with heap:=FK b1 b2 s.heap l1 l2}):=
 .of_wp λprog w A R s h=>by
  obtain⟨hp,g,d,tk,os⟩:=s;obtain⟨q1,q2,h⟩:=h;have hsub:=sub_zip;have e1:SQ b1 (Shared.heap ⟨hp,g,d,tk,os⟩) l1 xs:=q1;have e2:SQ b2 (Shared.heap ⟨Ad b1 hp l1,g,d,tk,os⟩) l2 ys:=q2.keep λo e=>Tr _ e
  wp_walk using pA e1,pA e2
  exact⟨_,rfl,h⟩
theorem BP{prog:Uc}{w:Ub}{A:Uj}{E:T5->Ua->Prop}{s:Ua}{b1 b2:Bool}{l1 l2:T7}{xs ys:Array T5}{Q:T5->Ua->Prop}(h1:SQ b1 s.heap l1 xs)(h2:SQ b2 s.heap l2 ys)
  (h:∀ g,Vd g (s.heap.objs.size+4) (s.heap.objs.size+2) (s.heap.objs.size+3) .none->Ve g (s.heap.objs.size+2) (.ref s.heap.objs.size) (.ref (s.heap.objs.size+1))->Ve g (s.heap.objs.size+3) .none .none->SI b1 g s.heap.objs.size l1 0->SI b2 g (s.heap.objs.size+1) l2 0 ->
   (∀c o,s.heap.get? c=some o->g.get? c=some o)->Q (.ref (s.heap.objs.size+4)) {s with heap:=g}):Um (model prog w) A (call (.type "zip") [.ref l1,.ref l2]) Q E s:=by
 refine callType_new F.called_zip (by decide) (F.typeCall_zip_2 _ _) (F.newCall_zip_2 _ _) (λobj=>F.args_object_init_3 obj _ _) F.entry_zip_new (CD b1 b2 l1 l2 xs ys) ⟨h1,h2,?_⟩;have z1:(Ad b1 s.heap l1).objs.size=s.heap.objs.size+1:=Tt ..
 have z2:(J4 b1 b2 s.heap l1 l2).objs.size=s.heap.objs.size+2:=by rw[Tt,z1]
 have z3:(Ki b1 b2 s.heap l1 l2).objs.size=s.heap.objs.size+3:=by rw[Tt,z2]
 have z4:(KC b1 b2 s.heap l1 l2).objs.size=s.heap.objs.size+4:=by rw[Tt,z3]
 have u1:∀c o,(Ad b1 s.heap l1).get? c=some o->(FK b1 b2 s.heap l1 l2).get? c=some o:=λc o e=>Tr _ (Tr _ (Tr _ (Tr _ e)));have u2:∀c o,(J4 b1 b2 s.heap l1 l2).get? c=some o->(FK b1 b2 s.heap l1 l2).get? c=some o:=λc o e=>Tr _ (Tr _ (Tr _ e));have g5:(FK b1 b2 s.heap l1 l2).get? (KC b1 b2 s.heap l1 l2).objs.size=some _:=Ts _ rfl;have g4:(FK b1 b2 s.heap l1 l2).get? (Ki b1 b2 s.heap l1 l2).objs.size=some _:=Tr _ (Ts _ rfl);have g3:(FK b1 b2 s.heap l1 l2).get? (J4 b1 b2 s.heap l1 l2).objs.size=some _:=Tr _ (Tr _ (Ts _ rfl));have g2:SI b2 (FK b1 b2 s.heap l1 l2) (Ad b1 s.heap l1).objs.size l2 0:=SI.keep (SI.new (h:=Ad b1 s.heap l1)) λo e=>u2 _ o e;have g1:SI b1 (FK b1 b2 s.heap l1 l2) s.heap.objs.size l1 0:=SI.keep SI.new λo e=>u1 _ o e;show _/\_;rw[z2,z3,z4]at g5;rw[z1,z2]at g3;rw[z3]at g4;rw[z1]at g2;rw[z4];exact⟨⟨_,g5,rfl⟩,h _ g5 g3 g4 g1 g2 λc o e=>u1 c o (Tr _ e)⟩
theorem zM(b : Bool)(l : T7)(xs : Array T5): Meets (Builtin.«enumerate.__new__» ⟨[.type "enumerate", .ref l], []⟩) (fun _ R s => SQ b s.heap l xs /\
      R (.ok (.ret (.ref (Ad b s.heap l).objs.size))) {s with heap:=(Ad b s.heap l).push {cls:=.type "enumerate",data:=.fields #[.none,.bool false,.ref s.heap.objs.size,rawInt 0,.none,.none]}}):=
  .of_wp λprog w A R s h=>by
    obtain⟨hp,g,d,tk,os⟩:=s;obtain⟨q1,h⟩:=h;have hsub:=sub_enumerate;have e1:SQ b (Shared.heap ⟨hp,g,d,tk,os⟩) l xs:=q1
    wp_walk using pA e1
    refine wpAny_stack_any λst=>Uv ?_;split
    · rename_i c _ _ _ _ _
      cases(c==Value.type "enumerate")<;>(wp_walk using pA e1;exact⟨_,rfl,h⟩)
    · wp_walk using pA e1
      exact⟨_,rfl,h⟩
end ZI
namespace TG
open PySem PySem.Spec L2 ZI
variable[ay]
section
variable{X:Cx}{pins:aU}{σ:St}{H:Hp}{s:Ua}{h':Ue}
theorem Inv.turnedL{ch:aH}{p:T7}{o:HO}{t':Nat}(I:Inv X pins σ H s)(hf:∀b∈ch,qA X pins H b)(k:∀b u,b∉ch->s.heap.get? b=some u->h'.get? b=some u)(hp:s.heap.objs.size<=p)(new:cq X.prog X.w (upd H p o) h' p o):
  Inv X pins σ (upd H p o) {s with heap:=h',toks:=t'}:=by
 have hn:=I.hok.fresh hp;have nch:∀b u,H b=some u->b∉ch:=λb u e z=>by rw[(hf b z).1]at e;cases e
 refine I.step (g':=s.gens) (d':=s.drawn) (ch:=ch) (λb hb=>?_) (λb o _ _ hc e _=>k b o hc e) (λb o _ _ hc e _=>⟨o.slots,k b o hc e⟩) (λb u _ q n=>by rw[aw (Qg (Qe (To q) hp))];exact n)
  (λb o hc e=>⟨o,k b o hc e⟩) (λb xs q=>by rw[aw (aP q hn)];exact q) (λb u xs q=>by rw[aw (aP q hn)];exact q) (λb ps q=>⟨#[],by rw[aw (aP q hn),q];simp⟩) (λm hm=>?_) (λb u e=>?_) I.bare
 ·obtain⟨_,f1,_,f3,f4,f5⟩:=hf b hb;exact⟨f3,f1,f4,f5⟩
 ·obtain⟨o,es,ep,ho,r⟩:=hm;exact⟨o,es,ep,k _ o (λz=>(hf _ z).2.1 rfl) ho,r⟩
 ·by_cases hb:b=p
  ·subst hb;rw[aA]at e;cases e;exact new
  ·rw[aw hb]at e;refine(I.hok b u e).stay (λc v hc q=>k c v ?_ q) (λc q=>by rw[aw (aP q hn)];exact q) λc xs q=>by rw[aw (aP q hn)];exact q
   rcases hc with z|z
   ·rw[z];exact nch b u e
   ·exact nch c _ z
theorem Inv.turned0{ch:aH}{t':Nat}(I:Inv X pins σ H s)(hf:∀b∈ch,qA X pins H b)(k:∀b u,b∉ch->s.heap.get? b=some u->h'.get? b=some u):Inv X pins σ H {s with heap:=h',toks:=t'}:=by
 have nch:∀b u,H b=some u->b∉ch:=λb u e z=>by rw[(hf b z).1]at e;cases e
 refine I.step (g':=s.gens) (d':=s.drawn) (ch:=ch) (λb hb=>?_) (λb o _ _ hc e _=>k b o hc e) (λb o _ _ hc e _=>⟨o.slots,k b o hc e⟩) (λ_ _ _ _ n=>n)
  (λb o hc e=>⟨o,k b o hc e⟩) (λ_ _ e=>e) (λ_ _ _ e=>e) (λb ps e=>⟨#[],by rw[e];simp⟩) (λm hm=>?_) (λb u e=>?_) I.bare
 ·obtain⟨_,f1,_,f3,f4,f5⟩:=hf b hb;exact⟨f3,f1,f4,f5⟩
 ·obtain⟨o,es,ep,ho,r⟩:=hm;exact⟨o,es,ep,k _ o (λz=>(hf _ z).2.1 rfl) ho,r⟩
 ·refine(I.hok b u e).stay (λc v hc q=>k c v ?_ q) (λ_ q=>q) λ_ _ q=>q;rcases hc with z|z
  ·rw[z];exact nch b u e
  ·exact nch c _ z
end
noncomputable def SX(K:Sn)(b:Bool)(H:Hp)(a:T7)(xs:aI):Prop:=if b then lI K H a xs else n0 K H a xs
theorem SX.same{K:Sn}{b:Bool}{H H':Hp}{a:T7}{xs:aI}(e:aQ H H')(h:SX K b H a xs):SX K b H' a xs:=by
 cases b with
 |true=>exact e.seq (show lI K H a xs from h)
 |false=>exact zy e (show n0 K H a xs from h)
section
variable{X:Cx}{pins:aU}{σ:St}{H:Hp}{s:Ua}
theorem Inv.sx(I:Inv X pins σ H s){b:Bool}{a:T7}{xs:aI}(h:SX X.K b H a xs):∃its:aS,Vals xs its/\SQ b s.heap a its.toArray/\xs.length<=Ug:=by
 cases b with
 |true=>obtain⟨its,r,p,z⟩:=I.list (show lI X.K H a xs from h);exact⟨its,r,p.isList,z⟩
 |false=>obtain⟨its,r,p,z⟩:=I.tuple (show n0 X.K H a xs from h);exact⟨its,r,p,z⟩
theorem Inv.sx_inj(I:Inv X pins σ H s){b:Bool}{a:T7}{xs ys:aI}(h:SX X.K b H a xs)(h':SX X.K b H a ys):xs=ys:=by
 cases b with
 |true=>exact I.list_inj h h'
 |false=>exact I.tuple_inj h h'
end
noncomputable def N7(K:Sn)(b1 b2:Bool)(a1 a2:T7):It:=
  ⟨fun i H=>∃ xs ys,SX K b1 H a1 xs/\SX K b2 H a2 ys/\i < xs.length/\i < ys.length,
   λi H v H'=>∃p x y,v=.ref p/\H p=none/\H'=upd H p (.tup [x,y])/\(∀xs,SX K b1 H a1 xs->xs[i]?=some x)/\∀ys,SX K b2 H a2 ys->ys[i]?=some y,
   λi H=>∃xs ys,SX K b1 H a1 xs/\SX K b2 H a2 ys/\(i=xs.length\/(i<xs.length/\i=ys.length))⟩
theorem BM{P:Uc}{w:Ub}{K:Sn}{es:bi}{k:Nat}{pos:Pos}{b1 b2:Bool}{a1 a2 z TI TO i1 i2:T7}(Ap:Apart z TI TO i1 i2 [i1,a1] [i2,a2])(n1:a1≠i1)(n2:a2≠i2)(n3:z≠i1)(n4:z≠i2):Turn P w K (.Tuple es k pos) (N7 K b1 b2 a1 a2) [z,TI,TO,i1,i2] z
  (λi h=>Vd h z TI TO .none/\Ve h TI (.ref i1) (.ref i2)/\(∃a b,Ve h TO a b)/\SI b1 h i1 a1 i/\SI b2 h i2 a2 i)where
 mem:=by simp
 obj:=λi h ⟨hz,hI,⟨a,b,hO⟩,s1,s2⟩ c hc=>by
  simp only[Rz,RB,or_false]at hc;rcases hc with rfl|rfl|rfl|rfl|rfl
  ·exact⟨_,hz,λv q=>by cases q⟩
  ·exact⟨_,hI,λv q=>by cases q⟩
  ·exact⟨_,hO,λv q=>by cases q⟩
  ·exact s1.get
  ·exact s2.get
 keep:=λi h h' ⟨hz,hI,⟨a,b,hO⟩,s1,s2⟩ kp=>⟨kp z (by simp) _ hz,kp TI (by simp) _ hI,⟨a,b,kp TO (by simp) _ hO⟩,s1.keep λo e=>kp i1 (by simp) o e,s2.keep λo e=>kp i2 (by simp) o e⟩
 item:=by
  rintro X hP hw hK hc i pins s σ H E I hf ⟨hz,hI,⟨a,b,hO⟩,s1,s2⟩ hg;subst hP hw hK;obtain⟨xs,ys,g1,g2,l1,l2⟩:=hg;obtain⟨its1,r1,q1,z1⟩:=Inv.sx I g1;obtain⟨its2,r2,q2,z2⟩:=Inv.sx I g2;have hh:X.A.in1.handled=none:=I.ok.hd hc;have hT:s.TypeIs (.ref z) "zip":=⟨_,hz,rfl⟩
  unfold pyNext;refine Uw (Vj (U4 (name:=Str.ofString "__next__") hT F.slot_zip_next (U5 F.slot_zip_next hT F.entry_zip_next
   (next_item Ap (ke (A:=X.A.in1) b1 hh i1 a1 n1 its1.toArray) (ke (A:=X.A.in1) b2 hh i2 a2 n2 its2.toArray) hz hI hO ⟨s1,q1⟩ ⟨s2,q2⟩ (by rw[Qs,<-r1.length];exact l1) (by rw[Qs,<-r2.length];exact l2) λu v g tk p1 p2 hz' hO' t1 t2 hp sz kp=>?_) (F.args_zip_next_1 _))))
  have e1:its1[i]?=some u:=by simpa using p1
  have e2:its2[i]?=some v:=by simpa using p2
  have hx:∃x,xs[i]?=some x/\RelV x u:=by
   obtain⟨u',hu,ru⟩:=r1.get (i:=i) (x:=xs[i]) (by simp[l1]);rw[e1]at hu;cases hu;exact⟨xs[i],by simp[l1],ru⟩
  have hy:∃y,ys[i]?=some y/\RelV y v:=by
   obtain⟨u',hu,ru⟩:=r2.get (i:=i) (x:=ys[i]) (by simp[l2]);rw[e2]at hu;cases hu;exact⟨ys[i],by simp[l2],ru⟩
  obtain⟨x,ex,rx⟩:=hx;obtain⟨y,ey,ry⟩:=hy;refine Uv ⟨_,rfl,?_⟩;refine wpAny_letOwnedTupleGo_zip hz' λg' hz2 sb=>?_;have hpz:s.heap.objs.size≠z:=Qp (To hz);have hp':Ve g' s.heap.objs.size u v:=sb.extBut _ _ hpz hp;have I':Inv X pins σ (upd H s.heap.objs.size (.tup [x,y])) {s with heap:=g',toks:=tk}:=Inv.turnedL (ch:=[z,TI,TO,i1,i2]) I hf (λc o hc e=>by
   simp only[Rz,RB,or_false,not_or]at hc;exact sb.extBut _ _ hc.1 (kp c o hc.1 hc.2.2.1 hc.2.2.2.1 hc.2.2.2.2 e)) (Qq _) ⟨by show 2<=Ug;decide,[u,v],.cons rx (.cons ry .nil),_,hp',rfl,_,rfl⟩
  have fr:H s.heap.objs.size=none:=I.fresh;have ne:∀c∈[z,TI,TO,i1,i2],c≠s.heap.objs.size:=λc hc e=>by
   simp only[Rz,RB,or_false]at hc;rcases hc with rfl|rfl|rfl|rfl|rfl
   ·exact hpz e.symm
   ·exact absurd (To hI) (by rw[e];exact Qf _)
   ·exact absurd (To hO) (by rw[e];exact Qf _)
   ·obtain⟨o,q,_⟩:=s1.get;exact absurd (To q) (by rw[e];exact Qf _)
   ·obtain⟨o,q,_⟩:=s2.get;exact absurd (To q) (by rw[e];exact Qf _)
  refine⟨.ref s.heap.objs.size,_,I',rfl,⟨_,x,y,rfl,fr,rfl,λxs' h=>by rw[Inv.sx_inj I h g1];exact ex,λys' h=>by rw[Inv.sx_inj I h g2];exact ey⟩,⟨hz2,?_,⟨u,v,sb.extBut _ _ Ap.a2 hO'⟩,?_,?_⟩,λc hc=>by rw[aw (ne c hc)];exact(hf c hc).1⟩
  ·exact sb.extBut _ _ Ap.a1 (kp TI _ Ap.a1 Ap.a3 Ap.d1 Ap.d2 hI)
  ·exact t1.1.keep λo e=>sb.extBut _ _ n3.symm e
  ·exact t2.1.keep λo e=>sb.extBut _ _ n4.symm e
 done:=by
  rintro X hP hw hK hc i pins s σ H E I hf ⟨hz,hI,⟨a,b,hO⟩,s1,s2⟩ hg;subst hP hw hK;obtain⟨xs,ys,g1,g2,hl⟩:=hg;obtain⟨its1,r1,q1,z1⟩:=Inv.sx I g1;obtain⟨its2,r2,q2,z2⟩:=Inv.sx I g2;have hh:X.A.in1.handled=none:=I.ok.hd hc;have hT:s.TypeIs (.ref z) "zip":=⟨_,hz,rfl⟩
  unfold pyNext;refine Uw (Vj (U4 (name:=Str.ofString "__next__") hT F.slot_zip_next (U5 F.slot_zip_next hT F.entry_zip_next
   (next_end (i:=i) Ap (ke (A:=X.A.in1) b1 hh i1 a1 n1 its1.toArray) (ke (A:=X.A.in1) b2 hh i2 a2 n2 its2.toArray) hz hI hO ⟨s1,q1⟩ ⟨s2,q2⟩ (by rw[Qs,Qs,<-r1.length,<-r2.length];exact hl) λg e tk kp he=>?_) (F.args_zip_next_1 _))))
  obtain⟨o,ho,hce⟩:=he;refine Uw (wpAny_isInstance (T:="StopIteration") (b:=true) ⟨o,ho,hce⟩ isSubtype_stop ?_);refine Uv ⟨rfl,Inv.turned0 (ch:=[z,TI,TO,i1,i2]) I hf λc o hc e=>?_⟩;simp only[Rz,RB,or_false,not_or]at hc;exact kp c o hc.1 hc.2.2.1 hc.2.2.2.1 hc.2.2.2.2 e
 self:=λ_ _ _ _ _ ⟨hz,_⟩ h=>wpAny_pyIter_zip hz h
noncomputable def EV:D->Option (Bool×List D)
 |.lst xs=>some (true,xs)
 |.tup xs=>some (false,xs)
 |_=>none
theorem qa{K:Sn}{H:Hp}{d:D}{b:Bool}{xs:List D}{v:V}(e:EV d=some (b,xs))(h:cf K H d v):∃a vs,v=.ref a/\SX K b H a vs/\aN K H xs vs:=by
 cases d with
 |lst ys=>cases e;exact b7.mp h
 |tup ys=>cases e;obtain⟨a,vs,e1,e2,e3⟩:=cg.mp h;exact⟨a,vs,e1,n0.of e2,e3⟩
 |_=>cases e
noncomputable def oE:List D->List D->List D
 |x::xs,y::ys=>.tup [x,y]::oE xs ys
 |_,_=>[]
theorem n5:∀xs ys:List D,(oE xs ys).length=min xs.length ys.length
 |[],_=>by simp[oE]
 |_::_,[]=>by simp[oE]
 |x::xs,y::ys=>by
  rw[oE,Qv,n5 xs ys,Qv,Qv];omega
theorem vm:∀{xs ys:List D}{i:Nat}{d:D},(oE xs ys)[i]?=some d->∃x y,xs[i]?=some x/\ys[i]?=some y/\d=.tup [x,y]
 |[],_,i,d,h=>by simp[oE]at h
 |_::_,[],i,d,h=>by simp[oE]at h
 |x::xs,y::ys,0,d,h=>by
  rw[oE,RC]at h;cases h;exact⟨x,y,rfl,rfl,rfl⟩
 |x::xs,y::ys,i+1,d,h=>by
  rw[oE,RD]at h;obtain⟨a,b,h1,h2,h3⟩:=vm h;exact⟨a,b,by rw[RD];exact h1,by rw[RD];exact h2,h3⟩
theorem Bv{K:Sn}{Hd:Hp}{b1 b2:Bool}{a1 a2:T7}{ds es:List D}{vs ws:aI}(h1:SX K b1 Hd a1 vs)(g1:aN K Hd ds vs)(h2:SX K b2 Hd a2 ws)(g2:aN K Hd es ws):Walk K Hd (N7 K b1 b2 a1 a2) (oE ds es):=λHn O' i hO sm=>
  have s':aQ Hd Hn:=sm.trans (aB Hn O')
  ⟨fun d e=>by
    obtain⟨x,y,e1,e2,rfl⟩:=vm e;have l1:i<ds.length:=(List.getElem?_eq_some_iff.mp e1).1;have l2:i<es.length:=(List.getElem?_eq_some_iff.mp e2).1;obtain⟨v,ev,dv⟩:=g1.get e1;obtain⟨w,ew,dw⟩:=g2.get e2;refine⟨⟨vs,ws,h1.same s',h2.same s',by rw[<-g1.length];exact l1,by rw[<-g2.length];exact l2⟩,λu H2 ⟨p,x',y',eu,hp,eH,q1,q2⟩=>?_⟩;have z1:=q1 vs (h1.same s');rw[ev]at z1;cases z1;have z2:=q2 ws (h2.same s');rw[ew]at z2;cases z2;subst eH eu;exact⟨cQ hp _,eD hO hp (aX.mpr ⟨v,_,rfl,dv.mono sm,aX.mpr ⟨w,_,rfl,dw.mono sm,cj.mpr rfl⟩⟩)⟩,
   λhl=>by
    rw[n5]at hl;refine⟨vs,ws,h1.same s',h2.same s',?_⟩;rw[<-g1.length,<-g2.length]
    omega⟩
noncomputable def AJ:List D->Option (List D)
 |[a,b]=>(EV a).bind λx=>(EV b).bind λy=>some (oE x.2 y.2)
 |_=>none
noncomputable def yw(f:aO):aO:=λρ=>(f ρ).bind λds=>rO (AJ ds)
section
variable{X:Cx}
theorem IK{a b c:T7}(h1:a≠b)(h2:a≠c):a∉[b,c]:=λh=>by
 rcases List.mem_cons.mp h with z|z
 ·exact h1 z
 ·exact h2 (List.mem_singleton.mp z)
theorem yH{n a1 a2:T7}(h1:a1<n)(h2:a2<n):Apart (n+4) (n+2) (n+3) n (n+1) [n,a1] [n+1,a2]:=by
 have lt:∀{a b:Nat},a<b->(b:T7)≠(a:T7):=λh=>Qp h;have lt':∀{a b:Nat},a<b->(a:T7)≠(b:T7):=λh=>Qg h;have g:∀k:Nat,a1<n+k:=λk=>Qe h1 (RE _ _);have g':∀k:Nat,a2<n+k:=λk=>Qe h2 (RE _ _);have p:∀{j k:Nat},j<k->n+j<n+k:=λh=>RF h n;have p0:∀{k:Nat},0<k->n<n+k:=λh=>RG h;exact⟨lt' (p (by decide)),lt' (p (by decide)),lt' (p (by decide)),IK (lt (p0 (by decide))) (lt (g 4)),IK (lt (p0 (by decide))) (lt (g 3)),IK (lt (p0 (by decide))) (lt (g 1)),
  IK (lt (p (by decide))) (lt (g' 4)),IK (lt (p (by decide))) (lt (g' 3)),IK (lt' (p0 (by decide))) (lt h2),lt (p0 (by decide)),lt (p (by decide)),Qk,Qk⟩
theorem HV{pins:aU}{s:Ua}{σ:St}{H:Hp}{O:aH}{es:bi}{k:Nat}{tpos:Pos}{ds r:List D}{vs:aI}{us:aS}{RR:It->Hp->Prop}(I:Inv X pins σ H s)(hc:AJ ds=some r)(d1:aN X.K (hid H O) ds vs)(rv:Vals vs us)(q:∀J,Walk X.K (hid H O) J r->RR J H):
  Um (model X.prog X.w) X.A (call (.type "zip") us) (λv s1=>Um (model X.prog X.w) X.A (pyIter v) (PIE X pins σ (.Tuple es k tpos) RR) X.xe s1) X.xe s:=by
 unfold AJ at hc;split at hc
 ·rename_i a b;obtain⟨⟨b1,xs⟩,e1,hc⟩:=bind_some hc;obtain⟨⟨b2,ys⟩,e2,hc⟩:=bind_some hc;cases hc;obtain⟨va,vb,rfl,da,db⟩:=d1.two;obtain⟨u1,u2,rfl,r1,r2⟩:=vals2 rv;obtain⟨a1,ws1,rfl,x1,y1⟩:=qa e1 da;obtain⟨a2,ws2,rfl,x2,y2⟩:=qa e2 db;cases r1;cases r2;obtain⟨its1,rr1,q1,_⟩:=Inv.sx I (x1.same (aB H O));obtain⟨its2,rr2,q2,_⟩:=Inv.sx I (x2.same (aB H O));refine BP q1 q2 λg hz hI hO s1 s2 kp=>wpAny_pyIter_zip hz ?_;have Ap:=yH q1.lt q2.lt;refine⟨_,_,_,_,H,rfl,I.kept (t':=s.toks) kp,BM (b1:=b1) (b2:=b2) Ap (Qg q1.lt) (Qg (Qe q2.lt (RE _ 1))) (Qp (RG (by decide))) (Qp (RF (by decide) _)),⟨hz,hI,⟨_,_,hO⟩,s1,s2⟩,λb hb=>?_,q _ (Bv x1 y1 x2 y2)⟩;have le:s.heap.objs.size<=b:=by
   simp only[Rz,RB,or_false]at hb;rcases hb with rfl|rfl|rfl|rfl|rfl
   ·exact RE _ _
   ·exact RE _ _
   ·exact RE _ _
   ·exact Qq _
   ·exact RE _ _
  exact I.fpOk le (I.hok.fresh le)
 ·cases hc
end
noncomputable def NQ(K:Sn)(b:Bool)(a:T7):It:=
  ⟨fun i H=>∃ xs,SX K b H a xs/\i < xs.length,
   λi H v H'=>∃p x,v=.ref p/\H p=none/\H'=upd H p (.tup [.int i,x])/\∀xs,SX K b H a xs->xs[i]?=some x,
   λi H=>∃xs,SX K b H a xs/\i=xs.length⟩
theorem zm{P:Uc}{w:Ub}{K:Sn}{es:bi}{k:Nat}{pos:Pos}{b:Bool}{a e it:T7}(n1:a≠it)(n2:e≠it)(n3:e≠a):Turn P w K (.Tuple es k pos) (NQ K b a) [e,it] e (λi h=>(∃old,IsEnum h e it i old)/\SI b h it a i)where
 mem:=by simp
 obj:=λi h ⟨⟨old,he⟩,s1⟩ c hc=>by
  simp only[Rz,RB,or_false]at hc;rcases hc with rfl|rfl
  ·exact⟨_,he,λv q=>by cases q⟩
  ·exact s1.get
 keep:=λi h h' ⟨⟨old,he⟩,s1⟩ kp=>⟨⟨old,kp e (by simp) _ he⟩,s1.keep λo q=>kp it (by simp) o q⟩
 item:=by
  rintro X hP hw hK hc i pins s σ H E I hf ⟨⟨old,he⟩,s1⟩ hg;subst hP hw hK;obtain⟨xs,g1,l1⟩:=hg;obtain⟨its,r1,q1,z1⟩:=Inv.sx I g1;have hh:X.A.in1.handled=none:=I.ok.hd hc;refine wpAny_pyNext_enum_itemD (ke (A:=X.A.in1) b hh it a n1 its.toArray) he ⟨s1,q1⟩ (by rw[Qs,<-r1.length];exact l1) n2 (IK n2 n3) λu g tk p1 ho t1 hp sz kp=>?_;have e1:its[i]?=some u:=by simpa using p1
  obtain⟨u',hu,ru⟩:=r1.get (i:=i) (x:=xs[i]) (by simp[l1]);rw[e1]at hu;cases hu;refine⟨_,rfl,wpAny_letOwnedTupleGo_enum ho λg' he' sb=>?_⟩;have hpe:s.heap.objs.size≠e:=Qp (To he);have hp':=sb.extBut _ _ hpe hp;have I':Inv X pins σ (upd H s.heap.objs.size (.tup [.int i,xs[i]])) {s with heap:=g',toks:=tk+1}:=Inv.turnedL (ch:=[e,it]) I hf (λc o hc q=>by
   simp only[Rz,RB,or_false,not_or]at hc;exact sb.extBut _ _ hc.1 (kp c o hc.1 hc.2 q)) (Qq _) ⟨by show 2<=Ug;decide,[.int i tk,u],.cons ⟨_,rfl⟩ (.cons ru .nil),_,hp',rfl,_,rfl⟩
  have ne:∀c∈[e,it],c≠s.heap.objs.size:=λc hc q=>by
   simp only[Rz,RB,or_false]at hc;rcases hc with rfl|rfl
   ·exact hpe q.symm
   ·obtain⟨o,q',_⟩:=s1.get;exact absurd (To q') (by rw[q];exact Qf _)
  refine⟨.ref s.heap.objs.size,_,I',rfl,⟨_,xs[i],rfl,I.fresh,rfl,λxs' h=>by rw[Inv.sx_inj I h g1];simp[l1]⟩,⟨⟨u,?_⟩,t1.1.keep λo q=>sb.extBut _ _ n2.symm q⟩,λc hc=>by rw[aw (ne c hc)];exact(hf c hc).1⟩;have ei:((i+1:Nat):Int)=(i:Int)+1:=by omega
  rw[ei];exact he'
 done:=by
  rintro X hP hw hK hc i pins s σ H E I hf ⟨⟨old,he⟩,s1⟩ hg;subst hP hw hK;obtain⟨xs,g1,l1⟩:=hg;obtain⟨its,r1,q1,z1⟩:=Inv.sx I g1;have hh:X.A.in1.handled=none:=I.ok.hd hc;have el:i=its.toArray.size:=by rw[Qs,<-r1.length];exact l1
  refine wpAny_pyNext_enum_endD (ke (A:=X.A.in1) b hh it a n1 its.toArray) he ⟨by rw[<-el];exact s1,q1⟩ λg kp=>⟨rfl,Inv.turned0 (ch:=[e,it]) I hf λc o hc q=>?_⟩
  simp only[Rz,RB,or_false,not_or]at hc;exact kp c o hc.2 q
 self:=λ_ _ _ _ _ ⟨⟨old,he⟩,_⟩ h=>wpAny_pyIter_enum he h
noncomputable def gl(i:Nat):List D->List D
 |[]=>[]
 |x::xs=>.tup [.int i,x]::gl (i+1) xs
theorem gB:∀(i:Nat)(xs:List D),(gl i xs).length=xs.length
 |_,[]=>rfl
 |i,x::xs=>by rw[gl,Qv,gB (i+1) xs,Qv]
theorem rg:∀{xs:List D}{k i:Nat}{d:D},(gl k xs)[i]?=some d->∃x,xs[i]?=some x/\d=.tup [.int ((k+i:Nat):Int),x]
 |[],k,i,d,h=>by simp[gl]at h
 |x::xs,k,0,d,h=>by
  rw[gl,RC]at h;cases h;exact⟨x,rfl,rfl⟩
 |x::xs,k,i+1,d,h=>by
  rw[gl,RD]at h;obtain⟨y,h1,h2⟩:=rg h;refine⟨y,by rw[RD];exact h1,?_⟩;rw[h2];congr 4;omega
theorem zA{K:Sn}{Hd:Hp}{b:Bool}{a:T7}{ds:List D}{vs:aI}(h1:SX K b Hd a vs)(g1:aN K Hd ds vs):Walk K Hd (NQ K b a) (gl 0 ds):=λHn O' i hO sm=>
  have s':aQ Hd Hn:=sm.trans (aB Hn O')
  ⟨fun d e=>by
    obtain⟨x,e1,rfl⟩:=rg e;have l1:i<ds.length:=(List.getElem?_eq_some_iff.mp e1).1;obtain⟨v,ev,dv⟩:=g1.get e1;refine⟨⟨vs,h1.same s',by rw[<-g1.length];exact l1⟩,λu H2 ⟨p,x',eu,hp,eH,q1⟩=>?_⟩;have z1:=q1 vs (h1.same s');rw[ev]at z1;cases z1;subst eH eu;rw[RH];exact⟨cQ hp _,eD hO hp (aX.mpr ⟨.int i,_,rfl,eZ.mpr rfl,aX.mpr ⟨v,_,rfl,dv.mono sm,cj.mpr rfl⟩⟩)⟩,
   λhl=>by
    rw[gB]at hl;exact⟨vs,h1.same s',by rw[<-g1.length];exact hl⟩⟩
noncomputable def sK:List D->Option (List D)
 |[a]=>(EV a).bind λx=>some (gl 0 x.2)
 |_=>none
noncomputable def fu(f:aO):aO:=λρ=>(f ρ).bind λds=>rO (sK ds)
section
variable{X:Cx}
theorem yJ{prog:Uc}{w:Ub}{A:Uj}{E:bL}{s:Ua}{b:Bool}{l:T7}{xs:Array T5}{Q:bL}(h1:SQ b s.heap l xs)
  (h:∀g,IsEnum g (s.heap.objs.size+1) s.heap.objs.size 0 .none->SI b g s.heap.objs.size l 0->(∀c o,s.heap.get? c=some o->g.get? c=some o)->Q (.ref (s.heap.objs.size+1)) {s with heap:=g}):Um (model prog w) A (call (.type "enumerate") [.ref l]) Q E s:=by
 refine callType_new F.called_enumerate (by decide) (F.typeCall_enumerate_1 _) (F.newCall_enumerate_1 _) (λobj=>F.args_object_init_2 obj _) F.entry_enumerate_new (zM b l xs) ⟨h1,?_⟩;have z1:(Ad b s.heap l).objs.size=s.heap.objs.size+1:=Tt ..
 have g2:=Ts (Ad b s.heap l) (o:={cls:=.type "enumerate",data:=.fields #[.none,.bool false,.ref s.heap.objs.size,rawInt 0,.none,.none]}) rfl;have g1:SI b ((Ad b s.heap l).push {cls:=.type "enumerate",data:=.fields #[.none,.bool false,.ref s.heap.objs.size,rawInt 0,.none,.none]}) s.heap.objs.size l 0:=SI.keep SI.new λo e=>Tr _ e;show _/\_;rw[z1]at g2 ⊢;exact⟨⟨_,g2,rfl⟩,h _ g2 g1 λc o e=>Tr _ (Tr _ e)⟩
theorem Ep{pins:aU}{s:Ua}{σ:St}{H:Hp}{O:aH}{es:bi}{k:Nat}{tpos:Pos}{ds r:List D}{vs:aI}{us:aS}{RR:It->Hp->Prop}(I:Inv X pins σ H s)(hc:sK ds=some r)(d1:aN X.K (hid H O) ds vs)(rv:Vals vs us)(q:∀J,Walk X.K (hid H O) J r->RR J H):
  Um (model X.prog X.w) X.A (call (.type "enumerate") us) (λv s1=>Um (model X.prog X.w) X.A (pyIter v) (PIE X pins σ (.Tuple es k tpos) RR) X.xe s1) X.xe s:=by
 unfold sK at hc;split at hc
 ·rename_i a;obtain⟨⟨b1,xs⟩,e1,hc⟩:=bind_some hc;cases hc;obtain⟨va,rfl,da⟩:=d1.one;obtain⟨u1,rfl,r1⟩:=vals1 rv;obtain⟨a1,ws1,rfl,x1,y1⟩:=qa e1 da;cases r1;obtain⟨its1,rr1,q1,_⟩:=Inv.sx I (x1.same (aB H O));refine yJ q1 λg he s1 kp=>wpAny_pyIter_enum he ?_;refine⟨_,_,_,_,H,rfl,I.kept (t':=s.toks) kp,zm (b:=b1) (Qg q1.lt) (Qp (RG (by decide))) (Qp (Qe q1.lt (RE _ 1))),⟨⟨_,he⟩,s1⟩,λb hb=>?_,q _ (zA x1 y1)⟩;have le:s.heap.objs.size<=b:=by
   simp only[Rz,RB,or_false]at hb;rcases hb with rfl|rfl
   ·exact RE _ _
   ·exact Qq _
  exact I.fpOk le (I.hok.fresh le)
 ·cases hc
end
end TG
namespace TG
open PySem PySem.Spec L2
variable[ay]
theorem aj{K:Sn}{c:Str}{C C':T7}(h:clsAt K c C)(h':clsAt K c C'):C=C':=by
 unfold clsAt at h h';rw[h]at h';cases h';rfl
theorem pN{K:Sn}{H:Hp}{f:Str}:∀{fs:ax}{ds:List D}{vs:aI}{d:D},aN K H ds vs->(fs.zip ds).lookup f=some d->∃v,(fs.zip vs).lookup f=some v/\cf K H d v
 |[],_,_,_,_,e=>by simp at e
 |_::_,[],_,_,_,e=>by simp at e
 |g::fs,x::ds,vs,d,h,e=>by
  rw[aX]at h;obtain⟨v,r,rfl,h1,h2⟩:=h;rw[RJ,QW]at e ⊢;cases hg:f==g with
  |true=>rw[hg]at e;cases e;exact⟨v,rfl,h1⟩
  |false=>rw[hg]at e;exact pN h2 e
theorem qO{f:Str}:∀{fs:ax}{vs:aI},fs.contains f=false->(fs.zip vs).lookup f=none
 |[],_,_=>by simp
 |_::_,[],_=>by simp
 |g::fs,x::vs,h=>by
  rw[RK,RL]at h;rw[RJ,QW,h.1];exact qO h.2
noncomputable def az(f:Str)(cs:ax)(d:D):bx:=match d with
 |.obj c fs vs=>if cs.contains c then(fs.zip vs).lookup f else none
 |_=>none
noncomputable def bh(K:Sn)(f:Str)(cs:ax):Prop:=∀c∈cs,∀C,clsAt K c C->jK K C/\b8 K C f
section
variable{X:Cx}{a o e:T8}{es:bi}{fa fo:FX}{fas:aO}{f m x:Str}{cs:ax}{pos apos p:Pos}{k k':Nat}{ps:ax}
noncomputable def MethAt(P:Uc)(w:Ub)(K:Sn)(mg:bU)(base:Ue)(k:Nat)(c m:Str)(ps:ax)(g:bD):Prop:=
 ∃C f fd,clsAt K c C/\jK K C/\Meth K C m f/\gS P w K mg base (kX P w) k f fd ps (wa K ps.length g)/\Binds K fd ps []
noncomputable def cw(m:Str)(tbl:List (Str×(bD)))(fo:FX)(fas:aO):FX:=λρ=>(fo ρ).bind λo=>match o with
 |.obj c fs vs=>match tbl.lookup c with
  |some g=>if fs.contains m then un else(fas ρ).bind λas=>g (o::as)
  |none=>un
 |_=>un
noncomputable def pP(P:Uc)(w:Ub)(K:Sn)(mg:bU)(base:Ue)(k:Nat)(m:Str)(ps:ax)(tbl:List (Str×(bD))):Prop:=
 ∀c g,tbl.lookup c=some g->MethAt P w K mg base k c m ps g/\Ar ps.length g
theorem Ff{P:Uc}{w:Ub}{K:Sn}{mg:bU}{base:Ue}:pP P w K mg base k m ps []:=λ_ _ h=>nomatch h
theorem Bi{P:Uc}{w:Ub}{K:Sn}{mg:bU}{base:Ue}{c:Str}{g:bD}{tbl:List (Str×(bD))}(h:MethAt P w K mg base k c m ps g)(hn:Ar ps.length g)(t:pP P w K mg base k m ps tbl):pP P w K mg base k m ps ((c,g)::tbl):=λc' g' e=>by
 rw[QW]at e;cases hc:c'==c with
 |true=>
  rw[hc]at e;cases e
  have:c'=c:=by simpa using hc
  subst this;exact⟨h,hn⟩
 |false=>rw[hc]at e;exact t c' g' e
theorem MethAt.mono{P:Uc}{w:Ub}{K:Sn}{mg:bU}{base:Ue}{c:Str}{g:bD}(h:MethAt P w K mg base k c m ps g)(hk:k<=k'):MethAt P w K mg base k' c m ps g:=by
 obtain⟨C,f,fd,h1,h2,h3,h4,h5⟩:=h;exact⟨C,f,fd,h1,h2,h3,h4.mono hk,h5⟩
theorem uF{tbl:List (Str×(bD))}{args:bi}{pl:Sem Bool}(tb:pP X.prog X.w X.K X.mg X.base k m ps tbl)(hr:fM k X.A)(ho:FE X o fo)
  (hc:∀ (pins:aU) (s1:Ua) (σ:St) (H1:Hp) (O:aH) (ρ:av) (a f:T7) (od:D) (Q:VK) (g:bD) (fd:UP) (w0:V),SN X.K (.ref f)=true->gS X.prog X.w X.K X.mg X.base (kX X.prog X.w) k f fd ps (wa X.K ps.length g)->Binds X.K fd ps []->Ar ps.length g->Inv X pins σ H1 s1->dz X.K O H1 ρ σ->cf X.K (hid H1 O) od (.ref a) ->
   (fi X σ O H1 ((fas ρ).bind λas=>g (od::as)) λd=>∀v H',aQ H1 H'->cf X.K (hid H' O) d v->Q v H')->
   Um (model X.prog X.w) X.A (UL pos (.ref f) [.ref a] (backTo pos (Uo args X.env)) (backToKw pos (UM [] X.env))) (EP X pins σ Q) X.xe s1)
  (ht:eval (.Call (.Attribute o m apos) args [] pos) X.env=(do
   let ov<-eval o X.env
   standAt apos.atName
   let (f,first)<-holding [ov] (getMethod ov m pl)
   UL pos f first (backTo pos (Uo args X.env)) (backToKw pos (UM [] X.env)))):
  FE X (.Call (.Attribute o m apos) args [] pos) (cw m tbl fo fas):=by
 rintro pins s σ H Q I ⟨O,ρ,E,hF⟩;refine uN ho I ?_ ht;refine⟨O,ρ,E,(fi.bind hF).imp λd hF v H1 s1 d1=>?_⟩;cases d with
 |obj c fs vs=>
  have hF':fi X σ O H (match tbl.lookup c with|some g=>if fs.contains m then un else(fas ρ).bind λas=>g (.obj c fs vs::as)|none=>un) _:=hF;cases hg:tbl.lookup c with
  |none=>rw[hg]at hF';exact hF'.elim
  |some g=>
   rw[hg]at hF';have hF2:fi X σ O H (if fs.contains m then un else(fas ρ).bind λas=>g (.obj c fs vs::as)) _:=hF';cases hm:fs.contains m with
   |true=>rw[hm]at hF2;exact hF2.elim
   |false=>
    rw[hm]at hF2;have hF3:fi X σ O H ((fas ρ).bind λas=>g (.obj c fs vs::as)) _:=hF2;have d0:=d1;obtain⟨a,ws,ev,g1,g2,C,dx,g3,g4⟩:=Ku.mp d1;obtain⟨⟨C',f,fd,m1,m2,m3,m4,m5⟩,ar⟩:=tb c g hg;have eC:=aj g3 m1;subst eC;subst ev;refine⟨a,C,dx,_,f,rfl,aB H1 O _ _ g4,m2,m3,qO hm,λs2 I2=>?_⟩;exact hc pins s2 σ H1 O ρ a f _ Q g fd (.ref a) m3.kp m4 m5 ar I2 (E.same s1) d0 ((hF3.mono s1).imp λd q v H2 s2 d2=>q v H2 (s1.trans s2) d2)
 |_=>exact hF.elim
theorem pQ{σ:St}{O:aH}{H:Hp}{g:bD}{ds:List D}{vs:aI}{Q:VK}{n:Nat}(ar:Ar n g)(hO:dM H O)(d1:aN X.K (hid H O) ds vs)(h:fi X σ O H (g ds) λd=>∀v H',aQ H H'->cf X.K (hid H' O) d v->Q v H'):∃E,iN (kX X.prog X.w) X σ E/\wa X.K n g vs H Q E:=by
 cases hg:g ds with
 |ok d=>
  rw[hg]at h;refine⟨E0,xH,O,ds,by rw[<-d1.length];exact ar ds (by rw[hg];intro z;cases z),hO,d1,?_⟩;rw[hg];exact h
 |error z=>
  rw[hg]at h;cases z with
  |none=>exact h.elim
  |some x=>
   refine⟨xu X O H x,wM h,O,ds,by rw[<-d1.length];exact ar ds (by rw[hg];intro z;cases z),hO,d1,?_⟩;rw[hg];exact vc
theorem ye{P:Uc}{w:Ub}{K:Sn}{mg:bU}{base:Ue}{c y qual:Str}{C f:T7}{fd:UP}{st:T9}{N:ax}{B:bw}(h1:clsAt K c C)(h2:jK K C)(h3:Meth K C m f)(F:mj K y qual st f fd)(b:Binds K fd ps [])(SC:bu N ps (au st))(hb:BodyOk P w K mg base k N qual st f B):
  MethAt P w K mg base (k+1) c m ps (ao B ps.length N.length):=⟨C,f,fd,h1,h2,h3,tD F SC hb,b⟩
noncomputable def Of(C:T7)(fs:ax):Sp:=λvs H Q _=>∃x dx as,vs=.ref x::as/\as.length=fs.length/\H x=some (.ins C dx [])/\Q .non (upd H x (.ins C dx (fs.zip as)))
noncomputable def cB(P:Uc)(w:Ub)(K:Sn)(mg:bU)(base:Ue)(k:Nat)(c:Str)(ps fs:ax):Prop:=
 ∃C f fd,clsAt K c C/\Mk K C f/\gS P w K mg base (kX P w) k f fd ps (Of C fs)/\Binds K fd ps []/\mg c=some (.ref C)
noncomputable def fNew(c:Str)(fs:ax)(fas:aO):FX:=λρ=>(fas ρ).bind λas=>if as.length=fs.length then .ok (.obj c fs as)else un
theorem n9{K:Sn}{H1:Hp}{O:aH}{c:Str}{fs:ax}{as:List D}{vs:aI}{C x dx:T7}(hc:clsAt K c C)(hl:as.length=fs.length)(d1:aN K (hid H1 O) as vs)(hO:dM H1 O)(hx:H1 x=none)(hd:H1 dx=none)(ne:dx≠x):
  aQ H1 (upd (upd (upd H1 dx (.own x)) x (.ins C dx [])) x (.ins C dx (fs.zip vs)))/\cf K (hid (upd (upd (upd H1 dx (.own x)) x (.ins C dx [])) x (.ins C dx (fs.zip vs))) O) (.obj c fs as) (.ref x):=by
 have sm:aQ H1 (upd (upd (upd H1 dx (.own x)) x (.ins C dx [])) x (.ins C dx (fs.zip vs))):=λb o h=>by
  have n1:=aP h hx;have n2:=aP h hd;rw[aw n1,aw n1,aw n2];exact h
 exact⟨sm,Ku.mpr ⟨x,vs,rfl,d1.mono (bQ sm),by rw[<-d1.length,hl],C,dx,hc,by rw[jQ (hO.not hx),aA]⟩⟩
theorem Fw{X:Cx}:wD (kX X.prog X.w) X E0:=λ_ _ _ _ _ _ _ h=>by
 obtain⟨_,_,_,_,_,_,_,_,_,_,_,_,_,_,z⟩:=h;exact z.elim
theorem pf(f:Str)(v:V):∀{fs:List (Str×V)},(fs.map (·.1)).contains f=false->jI f v fs=fs++[(f,v)]
 |[],_=>rfl
 |(g,w)::fs,h=>by
  rw[Qw,RK,RL]at h;have ne:¬g=f:=λz=>by
   have:=h.1
   rw[z]at this;simp at this
  have:=pf f v (fs:=fs) h.2
  unfold jI;simp only[ne,if_false,this,QZ]
noncomputable def wY(X:Cx)(cs:ax)(body:dE)(fs:ax)(i:Nat):Prop:=
 ∃t,uf X body t/\∀(D:Ends)(σ:St)(H:Hp)(x dx C:T7)(done:List (Str×V))(as:aI),σ[0]?=some (some (.ref x))->(∀j v,as[j]?=some v->σ[i+j]?=some (some v))->as.length=fs.length->jK X.K C->(∀f∈fs,b8 X.K C f)->done.length+fs.length<1000->(done.map (·.1)++fs).Nodup->H x=some (.ins C dx done)->
  D.nx σ (upd H x (.ins C dx (done++fs.zip as)))->t D σ H
theorem dj{st:T9}{f:Str}{i:Nat}{o v:T8}{p1 p2:Pos}(hst:st=.Assign [.Attribute o f p1] v p2)(ho:PE X o (pF 0))(hv:PE X v (pF i))(hs:swapsWith v (some (.Attribute o f p1)) p2.line X.env=pure false):wY X cs [st] [f] i:=by
 subst hst;refine⟨_,sY (Bs ho hv hs),λD σ H x dx C done as h0 ha hl cl na hz nd hx q=>?_⟩;obtain⟨a,rfl⟩:∃a,as=[a]:=by
  match as,hl with
  |[a],_=>exact⟨a,rfl⟩
 refine⟨a,ha 0 a rfl,.ref x,h0,x,C,dx,done,rfl,hx,cl,na f (List.mem_singleton.mpr rfl),by simp at hz;omega,?_⟩;rw[pf f a (by
  have:=nd
  rw[RM]at this;have h3:=this.2.2;cases hc:(done.map (·.1)).contains f with
  |false=>rfl
  |true=>exact absurd rfl (h3 f (List.contains_iff_mem.mp hc) f (List.mem_singleton.mpr rfl)))]
 exact q
theorem b6{st:T9}{rest:dE}{f:Str}{fs:ax}{i:Nat}{o v:T8}{p1 p2:Pos}(hst:st=.Assign [.Attribute o f p1] v p2)(ho:PE X o (pF 0))(hv:PE X v (pF i))(hs:swapsWith v (some (.Attribute o f p1)) p2.line X.env=pure false)(hr:wY X cs rest fs (i+1)):wY X cs (st::rest) (f::fs) i:=by
 subst hst;obtain⟨t,ht,hq⟩:=hr;refine⟨_,o6 (Bs ho hv hs) ht,λD σ H x dx C done as h0 ha hl cl na hz nd hx q=>?_⟩;obtain⟨a,as,rfl⟩:∃a r,as=a::r:=by
  match as,hl with
  |a::r,_=>exact⟨a,r,rfl⟩
 have hno:(done.map (·.1)).contains f=false:=by
  have:=nd
  rw[RM]at this;have h3:=this.2.2;cases hc:(done.map (·.1)).contains f with
  |false=>rfl
  |true=>exact absurd rfl (h3 f (List.contains_iff_mem.mp hc) f Qk)
 refine⟨a,ha 0 a rfl,.ref x,h0,x,C,dx,done,rfl,hx,cl,na f Qk,by simp at hz;omega,?_⟩;rw[pf f a hno];refine hq D σ _ x dx C (done++[(f,a)]) as h0 (λj v e=>?_) (by simpa using hl) cl (λg hg=>na g (Ql _ hg)) (by simp at hz ⊢;omega) (by simpa [Rx]using nd) (by rw[aA]) ?_
 ·have:=ha (j+1) v (by simpa using e)
  rw[show i+1+j=i+(j+1)by omega];exact this
 ·rw[lS,Rx];exact q
theorem dk{P:Uc}{w:Ub}{K:Sn}{mg:bU}{base:Ue}{c qual:Str}{C f:T7}{fd:UP}{st:T9}{fs:ax}(h1:clsAt K c C)(hM:Mk K C f)(cl:jK K C)(na:∀g∈fs,b8 K C g)(F:mj K "__init__" qual st f fd)(b:Binds K fd ps [])(hmg:mg c=some (.ref C))(SC:bu ps ps (au st))(hps:ps.length=fs.length+1)(hnd:fs.Nodup)(hlen:fs.length<1000)
  (hb:∀(cdv:T5)(A:Uj)(outer:List Env)(s:Ua)(H:Hp)(E:XK),wY (jg JC P w K mg base ps qual (au st) f cdv A outer s H E).nox [] (cY st) fs 1):cB P w K mg base (k+1) c ps fs:=by
 refine⟨C,f,fd,h1,hM,?_,b,hmg⟩;refine gS.any (F.ok SC (λvs H Q E h=>?_) λcdv A outer s H vs Q E hr h=>?_)
 ·obtain⟨x,dx,as,rfl,hl,_⟩:=h;rw[Qv,hl,hps]
 ·obtain⟨t,ht,hq⟩:=hb cdv A outer s H E;obtain⟨x,dx,as,rfl,hl,hx,q⟩:=h;have hst:L2.start ps (.ref x::as)=(.ref x::as).map some:=by
   unfold L2.start;rw[Qv,hl,hps,RN,RO,QB]
  refine⟨t,ht,hq _ _ H x dx C [] as (by rw[hst];rfl) (λj v e=>?_) hl cl na (by simpa using hlen) (by simpa using hnd) hx q⟩;rw[hst,Nat.add_comm,Qw,RD,QI,e];rfl
end
end TG
namespace TG
open PySem PySem.Spec L2
variable[ay]
section
variable{X:Cx}
noncomputable def FV:List D->Option (ax)
 |[]=>some []
 |.str x::r=>(FV r).bind λys=>some (x::ys)
 |_=>none
noncomputable def OC:D->Option Str
 |.str z=>some z
 |_=>none
noncomputable def NW(z:Str)(as:List D):bx:=match as with
 |[.lst xs]=>(FV xs).bind λys=>if small ((ys.map (λy=>y.length)).sum+ys.length*z.length)then some (.str (Txt.join z ys))else none
 |_=>none
noncomputable def MB(a b:D):bx:=match a,b with
 |.bl c,.bl d=>some (.bl (c==d))
 |_,_=>none
noncomputable def DY(a b:D):bx:=match a,b with
 |.bl c,.bl d=>some (.bl (!(c==d)))
 |_,_=>none
end
structure N4(K:Sn)(C:T7):Prop where
 makes:SD K C=true
 init:Su K (.ref C) "__init__"=some (some (.builtin "object.__init__"))
 kp:SN K (.ref C)=true
section
variable{X:Cx}{C:T7}{pins:aU}{σ:St}{H:Hp}{s:Ua}{Q:VK}
theorem run_plain(M:N4 X.K C)(I:Inv X pins σ H s)(h:∀x dx,H x=none->H dx=none->dx≠x->Q (.ref x) (upd (upd H dx (.own x)) x (.ins C dx []))):
  Um (model X.prog X.w) X.A (call (.ref C) []) (EP X pins σ Q) X.xe s:=by
 have hq:=h (s.heap.objs.size+1) s.heap.objs.size (I.hok.fresh (QC _)) (I.hok.fresh (Qq _)) (Qg (Qz _));have I2:=Inv.made (C:=C) I;have e1:((s.heap.push SH).push (Sj C s.heap.objs.size)).get? (s.heap.objs.size+1)=some (Sj C s.heap.objs.size):=by
  have:=Ts (s.heap.push SH) (o:=Sj C s.heap.objs.size) rfl
  rwa [Tt]at this
 have hb:∀self,SM (model X.prog X.w) s.heap (bindSpecial (.builtin "object.__init__") self) (.builtin "object.__init__",[self]):=λself=>PySem.W.Looks.of_pure (PySem.W.oi_bind self);refine UR (zq I.kIn M.makes M.init hb ?_);have h3:SM (model X.prog X.w) ((s.heap.push SH).push (Sj C s.heap.objs.size)) (isInstance (.ref (s.heap.objs.size+1)) (.type "object")) true:=by
  have h4:SM (model X.prog X.w) ((s.heap.push SH).push (Sj C s.heap.objs.size)) (typeOf (.ref (s.heap.objs.size+1))) (.ref C):=PySem.W.Looks.andThen (PySem.W.Looks.ld e1) PySem.W.Looks.now;exact PySem.W.Looks.andThen h4 (((SK I.kIn M.makes).top).keeps λb o q=>Tr _ (Tr _ q))
 refine Vk (b:=Builtin.«object.__init__») PySem.W.oi_plain PySem.W.entry_oi ?_;have ha:argsOk "object.__init__" {pos:=[Value.ref (s.heap.objs.size+1)],kw:=[]}:=PySem.W.oi_args _;refine PySem.W.check_slot (i:="object.__init__") (owner:="object") (n:="__init__") (self:=Value.ref (s.heap.objs.size+1)) (rest:=[]) (kw:=[]) PySem.W.oi_kind PySem.W.oi_split h3 ha ?_;rw[PySem.W.oi_run];exact Uv ⟨rfl,V.ref (s.heap.objs.size+1),_,I2,rfl,hq⟩
noncomputable def ur(K:Sn)(mg:bU)(c:Str):Prop:=∃C,clsAt K c C/\N4 K C/\mg c=some (.ref C)
noncomputable def anyB:List D->Option Bool
 |[]=>some false
 |.bl b::r=>(anyB r).bind λc=>some (b||c)
 |_=>none
noncomputable def qp:List D->bx
 |[.lst xs]=>(anyB xs).bind λb=>some (.bl b)
 |_=>none
theorem uW:∀{xs:List D}{b:Bool},anyB xs=some b->∃bs:List Bool,xs=bs.map .bl/\b=bs.any id
 |[],b,h=>by cases h;exact⟨[],rfl,rfl⟩
 |d::r,b,h=>by
  cases d with
  |bl x=>
   obtain⟨c,e1,e2⟩:=bind_some (show((anyB r).bind λc=>some (x||c))=some b from h);cases e2;obtain⟨bs,e3,e4⟩:=uW e1;exact⟨x::bs,by rw[Qw,e3],by rw[QU,e4];rfl⟩
  |_=>cases h
theorem range_any(bs:List Bool):((List.range bs.length).any λi=>(bs[i]?).getD false)=bs.any id:=by
 induction bs with
 |nil=>rfl
 |cons b bs ih=>
  rw[Qv,Rh,QU,RP,QU,<-ih];rfl
theorem yQ(hc:X.calm=true):eG X (.builtin "any") (CT X.K qp):=by
 rintro pins s σ H xs us Q I r ⟨O,ds,d,hO,hd,hg,q⟩;unfold qp at hg;split at hg
 ·rename_i ys;obtain⟨bv,e1,e2⟩:=bind_some hg;cases e2;obtain⟨bs,eb,ev⟩:=uW e1;subst eb ev;obtain⟨v,evv,h1⟩:=hd.one;subst evv;obtain⟨p,vs,ep,g1,g2⟩:=b7.mp h1;subst ep;obtain⟨u,eu,ru⟩:=vals1 r;subst eu;cases ru;obtain⟨its,rv,pl,hz⟩:=I.list ((aB H O).seq g1);have ei:=lE g2 rv;have hl:=pl.isList;have hlt:p<s.heap.objs.size:=by obtain⟨_,e,_⟩:=hl;exact To e
  refine call_any_walk (Ux hl ?_);refine⟨s.heap.objs.size,[s.heap.objs.size,p],[s.heap.objs.size],its.toArray.size,_,_,λi=>(bs[i]?).getD false,rfl,Walks.list (A:=X.A.in1) (I.ok.hd hc) _ p (Qg hlt) its.toArray,
   ⟨⟨_,Ts _ rfl,rfl,rfl⟩,hl.push _⟩,λi v s' Q' E' hP hQ=>?_,λh' tk hk=>?_⟩
  ·have e:bs[i]?.map Value.bool=some v:=by
    rw[<-QI,<-ei]
    simpa using hP
   cases eb:bs[i]? with
   |none=>rw[eb]at e;cases e
   |some b=>
    rw[eb]at e;cases e;simp only[eb,Ry]at hQ;exact Ut hQ
  ·have e:((List.range its.toArray.size).any λi=>(bs[i]?).getD false)=bs.any id:=by
    have:its.toArray.size=bs.length:=(by rw[Qs,ei,Qx]);rw[this];exact range_any bs
   rw[e];have k:∀b x,s.heap.get? b=some x->h'.get? b=some x:=λb x e=>hk b x (λhm=>by rw[List.mem_singleton.mp hm]at e;exact Qf _ (To e)) (Tr _ e);exact⟨.bl _,H,I.kept k,rfl,q _ H (aQ.refl H) (ju.mpr rfl)⟩
 ·cases hg
end
end TG
namespace TG
open PySem PySem.Spec PyProof.Rows L2
variable[ay]
noncomputable def uv:List D->List D->Option Bool
 |[],[]=>some false
 |[],_::_=>some true
 |_::_,[]=>some false
 |a::as,b::bs=>match a,b with
  |.int i,.int j=>if i=j then uv as bs else some (decide (i<j))
  |.str x,.str y=>if x=y then uv as bs else some (decide (x.cps.toList<y.cps.toList))
  |_,_=>none
inductive iE:aS->List D->Prop where
 |nil:iE [] []
 |int (i:Int) (t:Tok) {vs:aS} {ds:List D} (h:iE vs ds):iE (.int i t::vs) (.int i::ds)
 |str (x:Str) (t:Tok) {vs:aS} {ds:List D} (h:iE vs ds):iE (.str x t::vs) (.str x::ds)
theorem iE.length:∀{vs:aS}{ds:List D},iE vs ds->vs.length=ds.length
 |_,_,.nil=>rfl
 |_,_,.int _ _ h=>by rw[Qv,Qv,h.length]
 |_,_,.str _ _ h=>by rw[Qv,Qv,h.length]
theorem JN(A:Uj)(s:Ua)(a:Int)(t:Tok)(c:Int)(u:Tok):∃e,SeqAt.EqAt A s (.int a t) (.int c u) e/\(e=true↔a=c):=
 ⟨(a==c),SeqAt.EqAt.int_int a t c u,by simp⟩
theorem IX(A:Uj)(s:Ua)(a:Str)(t:Tok)(c:Str)(u:Tok):∃e,SeqAt.EqAt A s (.str a t) (.str c u) e/\(e=true↔a=c):=
 ⟨(a==c),SeqAt.EqAt.str_str a t c u,by simp⟩
theorem IV(A:Uj)(s:Ua)(a:Str)(t:Tok)(c:Str)(u:Tok)(prog:Uc)(w:Ub)(E:bL)(Q:bL)(h:Q (.bool (decide (a.cps.toList<c.cps.toList))) s):
  Um (model prog w) A (richCompare .Lt (.str a t) (.str c u)) Q E s:=
 (PySem.P.lt_str h:Um (model prog w) A (Ur .Lt (.str a t) (.str c u)) Q E s)
section
open PySem.SeqAt
open PySem.AutoSeq1 (wpAny_loadPart')
open PySem.MeetsSeq PySem.MeetsSeq2 PySem.MeetsSeq3
set_option maxHeartbeats 1000000 in
theorem qz(l b:T7)(items items2:Array T5)(n n2:Nat)(dd dd2:iq)(sl sl2:Array (Option T5))(ns ms:List D)(r:Bool)(hi:iE items.toList ns)(hj:iE items2.toList ms)(hr:uv ns ms=some r):
  Meets (Builtin.«tuple.__lt__» ⟨[.ref l,.ref b],[]⟩)
   (fun _ R s=>s.heap.get? l=some { cls:=.type "tuple",dict:=dd,data:=.seq items n,slots:=sl }/\s.heap.get? b=some { cls:=.type "tuple",dict:=dd2,data:=.seq items2 n2,slots:=sl2 } /\
    R (.ok (.ret (.bool r))) s):=
 .of_wp λprog w A R s h=>by
  obtain⟨hp,g,d,tk,os⟩:=s;obtain⟨hl,hb,h⟩:=h;have f2:=AutoSeq1.sub_tuple_tuple;have z1:items.size=ns.length:=by rw[<-hi.length];simp
  have z2:items2.size=ms.length:=by rw[<-hj.length];simp
  wp_walk using wpAny_loadPart' hl,wpAny_loadPart' hb,wpAny_forIn_list _ (λrest b s'=>b.1=none/\s'=⟨hp,g,d,tk,os⟩/\∃(vs ws:aS)(ns' ms':List D),rest=vs.zip ws/\
   iE vs ns'/\iE ws ms'/\ns'.length+items2.size=ms'.length+items.size/\uv ns' ms'=some r/\R (.ok (.ret (.bool r))) ⟨hp,g,d,tk,os⟩) _
  case turn=>
   rintro⟨y,x⟩ rest b s' ⟨hb',rfl,vs,ws,ns',ms',hz,hvi,hwi,hlen,hL,hR⟩;cases hvi with
   |nil=>rw[List.zip_nil_left]at hz;cases hz
   |int a t hvi'=>
    cases hwi with
    |nil=>rw[RQ]at hz;cases hz
    |str c u hwi'=>cases hL
    |int c u hwi'=>
     rw[RJ]at hz;injection hz with hyx hrest;injection hyx with hy hx;subst hy hx;have hL':(if a=c then uv _ _ else some (decide (a<c)))=some r:=hL;simp only[Qv]at hlen;obtain⟨e,he,hiff⟩:=JN A.in1 ⟨hp,g,d,tk,os⟩ a t c u;refine Uw (he prog w _ _ ?_);cases e with
     |true=>
      rw[if_pos (hiff.mp rfl)]at hL'
      wp_walk
      exact⟨rfl,rfl,_,_,_,_,hrest,hvi',hwi',by omega,hL',hR⟩
     |false=>
      rw[if_neg (λq=>absurd (hiff.mpr q) Qu)]at hL';cases hL';have hri:=HT.Kd A.in1 ⟨hp,g,d,tk,os⟩ a t c u prog w
      wp_walk using hri
      exact⟨_,rfl,by simpa using hR⟩
   |str a t hvi'=>
    cases hwi with
    |nil=>rw[RQ]at hz;cases hz
    |int c u hwi'=>cases hL
    |str c u hwi'=>
     rw[RJ]at hz;injection hz with hyx hrest;injection hyx with hy hx;subst hy hx;have hL':(if a=c then uv _ _ else some (decide (a.cps.toList<c.cps.toList)))=some r:=hL;simp only[Qv]at hlen;obtain⟨e,he,hiff⟩:=IX A.in1 ⟨hp,g,d,tk,os⟩ a t c u;refine Uw (he prog w _ _ ?_);cases e with
     |true=>
      rw[if_pos (hiff.mp rfl)]at hL'
      wp_walk
      exact⟨rfl,rfl,_,_,_,_,hrest,hvi',hwi',by omega,hL',hR⟩
     |false=>
      rw[if_neg (λq=>absurd (hiff.mpr q) Qu)]at hL';cases hL';have hri:=IV A.in1 ⟨hp,g,d,tk,os⟩ a t c u prog w
      wp_walk using hri
      exact⟨_,rfl,by simpa using hR⟩
  case fin=>
   rintro⟨b1,b2⟩ s' ⟨hb',rfl,vs,ws,ns',ms',hz,hvi,hwi,hlen,hL,hR⟩;simp only at hb';subst hb';have hv:r=decide (items.size<items2.size):=by
    have l1:=hvi.length;have l2:=hwi.length;cases ns' with
    |nil=>
     cases ms' with
     |nil=>
      simp only[QT]at hlen;cases hL;exact(decide_eq_false ‹0›).symm
     |cons c u=>
      simp only[QT,Qv]at hlen;cases hL;exact(decide_eq_true ‹0›).symm
    |cons a t=>
     cases ms' with
     |nil=>
      simp only[QT,Qv]at hlen;cases hL;exact(decide_eq_false ‹0›).symm
     |cons c u=>
      have:=congrArg List.length hz
      simp only[QT,List.length_zip,l1,l2,Qv]at this;omega
   rw[hv]at hR
   wp_walk
   exact⟨_,rfl,by simpa [Builtin.Tuple.tupleCompareSizes]using hR⟩
  case h=>
   exact⟨rfl,rfl,items.toList,items2.toList,ns,ms,rfl,hi,hj,by omega,hr,h⟩
end
section
variable{X:Cx}
theorem yU{α:Type}{c:Bool}{o:Option α}{a:α}(h:(if c then o else none)=some a):c=true/\o=some a:=by
 cases c with
 |true=>exact⟨rfl,h⟩
 |false=>cases h
theorem vW{prog:Uc}{w:Ub}{A:Uj}{E:bL}{s:Ua}{l b:T7}{items items2:Array T5}{ns ms:List D}{r:Bool}{Q:bL}(hl:IsTup s.heap l items)(hb:IsTup s.heap b items2)(hi:iE items.toList ns)(hj:iE items2.toList ms)(hr:uv ns ms=some r)
  (hu:A.units<UO) (h:Q (.bool r) s):Um (model prog w) A (Ur .Lt (.ref l) (.ref b)) Q E s:=by
 obtain⟨⟨cls,dd,data,sl⟩,ho,hc,n,hd⟩:=id hl;obtain⟨⟨cls2,dd2,data2,sl2⟩,ho2,hc2,n2,hd2⟩:=id hb;simp only at hc hd hc2 hd2;subst hc hd hc2 hd2;exact richCompare_meets_room (op:=.Lt) ⟨_,ho,rfl⟩ ⟨_,ho2,rfl⟩ PySem.F.slot_tuple_lt PySem.F.entry_tuple_lt (PySem.F.args_tuple_lt_2 _ _) (qz l b items items2 n n2 dd dd2 sl sl2 ns ms r hi hj hr)
  ⟨ho,ho2,show Value.bool r≠Value.notImplemented/\Q (.bool r) s from⟨(λx=>nomatch x),h⟩⟩ hu
noncomputable def vg:List D->Bool
 |[]=>true
 |.int _::r=>vg r
 |.str _::r=>vg r
 |_=>false
theorem mi{K:Sn}{H:Hp}:∀{ds:List D}{vs:aI}{us:aS},vg ds=true->aN K H ds vs->Vals vs us->iE us ds
 |[],vs,us,_,h,r=>by
  rw[cj]at h;subst h;cases r;exact .nil
 |d::ds,vs,us,hf,h,r=>by
  obtain⟨v,r',e,h1,h2⟩:=aX.mp h;subst e;cases r with
  |cons q1 q2=>
   cases d with
   |int i=>
    rw[eZ]at h1;subst h1;obtain⟨t,rfl⟩:=q1;exact .int i t (mi hf h2 q2)
   |str x=>
    rw[eV]at h1;subst h1;obtain⟨t,rfl⟩:=q1;exact .str x t (mi hf h2 q2)
   |_=>cases hf
noncomputable def lV(a b:D):bx:=match a,b with
 |.int i,.int j=>some (.bl (decide (i<j)))
 |.str x,.str y=>some (.bl (decide (x.cps.toList<y.cps.toList)))
 |.tup xs,.tup ys=>if vg xs&&vg ys then(uv xs ys).bind λr=>some (.bl r)else none
 |_,_=>none
theorem sZ(hu:X.A.units+64<UO):iQ X (Ur .Lt) (rD X.K lV):=by
 rintro pins s σ H x y u v Q I rx ry ⟨O,a,b,d,hO,ha,hb,hg,q⟩;cases a with
 |int i=>
  cases b with
  |int j=>
   cases hg;exact Jh pins s σ H x y u v Q I rx ry ⟨i,j,eZ.mp ha,eZ.mp hb,q _ H (aQ.refl H) (ju.mpr rfl)⟩
  |_=>cases hg
 |str i=>
  cases b with
  |str j=>
   cases hg;exact yk pins s σ H x y u v Q I rx ry ⟨i,j,eV.mp ha,eV.mp hb,q _ H (aQ.refl H) (ju.mpr rfl)⟩
  |_=>cases hg
 |tup xs=>
  cases b with
  |tup ys=>
   obtain⟨h1,h2⟩:=yU hg;obtain⟨r,e1,e2⟩:=bind_some h2;cases e2;rw[QN]at h1;obtain⟨p,vs,ex,g1,g2⟩:=cg.mp ha;obtain⟨p',vs',ey,g1',g2'⟩:=cg.mp hb;subst ex ey;cases rx;cases ry;obtain⟨its,r1,t1,_⟩:=I.tuple (cy (aB H O) g1);obtain⟨its2,r2,t2,_⟩:=I.tuple (cy (aB H O) g1');exact vW t1 t2 (mi h1.1 g2 r1) (mi h1.2 g2' r2) e1 ‹0› (BA I (q _ H (aQ.refl H) (ju.mpr rfl)) rfl)
  |_=>cases hg
 |_=>cases hg
end
end TG
namespace TG
open PySem PySem.Spec L2
variable[ay]
noncomputable def kZ(x:Str)(n:Int):Str:=if(n==1||x.length==0)=true then x else⟨(List.replicate n.toNat x.cps).foldl (·++·) #[]⟩
theorem foldl_size:∀(n:Nat)(c a:Array Nat),((List.replicate n c).foldl (·++·) a).size=a.size+n*c.size
 |0,_,a=>by simp
 |n+1,c,a=>by
  rw[RT,RU,foldl_size n c,Array.size_append,Nat.succ_mul];omega
theorem uR{x:Str}{n:Int}(h:1<=n):(kZ x n).length=n.toNat*x.length:=by
 unfold kZ;split
 ·rename_i q;rw[Rm]at q;rcases q with q|q
  ·have:n=1:=(by simpa using q);rw[this];simp
  ·have:x.length=0:=(by simpa using q);rw[this];simp
 ·show((List.replicate n.toNat x.cps).foldl (·++·) #[]).size=n.toNat*x.cps.size;rw[foldl_size];simp
noncomputable def w8(a b:D):bx:=match a,b with
 |.int i,.int j=>gE (.int i) (.int j)
 |.str x,.int n=>if decide (1<=n/\n<=1000/\x.length<=1000)then some (.str (kZ x n))else none
 |_,_=>none
section
variable{X:Cx}
theorem Ew:iQ X (UB .Mult) (rD X.K w8):=by
 rintro pins s σ H x y u v Q I rx ry ⟨O,a,b,d,hO,ha,hb,hg,q⟩;cases a with
 |int i=>
  cases b with
  |int j=>exact BL pins s σ H x y u v Q I rx ry (AH (.int i) (.int j) d x y O H Q hO hg ha hb q)
  |_=>cases hg
 |str z=>
  cases b with
  |int n=>
   obtain⟨h1,h2⟩:=aY hg;subst h2;obtain⟨n1,n2,zl⟩:=of_decide_eq_true h1;rw[eV]at ha;rw[eZ]at hb;subst ha hb;obtain⟨t,rfl⟩:=rx;obtain⟨t',rfl⟩:=ry;have zn:z.length*n.toNat<=1000*1000:=Nat.mul_le_mul zl ‹0›;refine P.mul_str (by rw[decide_eq_false ‹0›,decide_eq_false ‹0›];rfl) (λ_ _=>?_) (λ_ _=>?_) ?_
   ·have:(2^63-1:Int)/n>=(2^63-1)/1000:=by
     rw[ge_iff_le,Int.le_ediv_iff_mul_le ‹0›];have h3:(2^63-1:Int)/1000*n<=(2^63-1)/1000*1000:=Int.mul_le_mul_of_nonneg_left n2 (by decide);have h4:(2^63-1:Int)/1000*1000<=2^63-1:=(by decide);omega
    have h5:(2^63-1:Int)/1000=9223372036854775:=(by decide);omega
   ·unfold Builtin.Str.tooLong;rw[decide_eq_false];rw[UC];omega
   ·rw[if_neg ‹0›];have fin:∀tk,EP X pins σ Q (.str (kZ z n) tk) {s with toks:=s.toks+1}/\EP X pins σ Q (.str (kZ z n) tk) s:=λtk=>⟨⟨.str (kZ z n),H,I.tok _,⟨_,rfl⟩,q _ H (aQ.refl H) (eV.mpr rfl)⟩,⟨.str (kZ z n),H,I,⟨_,rfl⟩,q _ H (aQ.refl H) (eV.mpr rfl)⟩⟩
    by_cases e:(n==1||z.length==0)=true
    ·rw[if_pos e]
     have:kZ z n=z:=(by unfold kZ;rw[if_pos e]);rw[this]at fin;exact(fin t).2
    ·rw[if_neg e];have e2:kZ z n=⟨(List.replicate n.toNat z.cps).foldl (·++·) #[]⟩:=(by unfold kZ;rw[if_neg e]);rw[e2]at fin;refine⟨?_,(fin _).1⟩;have rl:=uR (x:=z) (n:=n) ‹0›;rw[e2]at rl;rw[rl,UC,Nat.mul_comm];omega
  |_=>cases hg
 |_=>cases hg
end
structure NotIn(K:Sn)(D C:T7):Prop where
 ne:D≠C
 cls:(S6 K C).isSome=true
 ty:SE K (.ref C)=some (.type "type")
 ins:S8 K (.ref C) (.type "type")=some true
 sub:S9 K (.ref D) (.ref C)=some false
 fc:Su K (.ref D) "__class__"=some (some (.builtin "object.__class__"))
 sg:Tb K (.builtin "object.__class__") "__get__"=some (some (.builtin "getset_descriptor.__get__"))
 tk:Tc K (.builtin "object.__class__")=some true
 mo:Td K D (.type "object")=some true
section
open PySem.W PySem.Calls PyProof.Rows
variable{prog:Uc}{w:Ub}{A:Uj}{E:bL}{s:Ua}{K:Sn}{x D C:T7}{ox od:Obj}
theorem vK{Q:Option T5->gZ}(X:K.In s.heap)(I:InstAt s.heap x ox D (some od))(cl:L2.jK K D)(n:NotIn K D C)(h:Q (some (.ref D)) {s with toks:=s.toks+1}):Um (model prog w) A (getAttr? (.ref x) "__class__") Q E s:=by
 obtain⟨hga,hk⟩:=plainGet_of (cl.get "__class__");have hf:=findObj_data (od:=od) (name:="__class__") (by obtain⟨cd,hc,_⟩:=Vl cl.hd;rw[hc];rfl) n.fc n.sg n.tk;obtain⟨hh,g,d,t,os⟩:=s;have L0:=I.type (M:=model prog w);have L1:=Vm (M:=model prog w) X hga;have L2:=looks_find (M:=model prog w) X I hf;have L3:=Vm (M:=model prog w) X hk;unfold getAttr? getAttrBy? getAttrBy;refine Uw (wpAny_mkText (Uw (Vj (U3 (Uw (L0.at (Uw (L1.at ?_))))))));show Um _ _ (getAttrEveryday _ _ _) _ _ _;refine Uw (Vg (wpAny_runValue (Vn PySem.F.plainObj_entry_getattr_hooked ?_)));refine Uw (Uv (Uw (L0.at (Uw (L2.at (Uw (L3.at ?_)))))));show Um _ _ (holding [_] (call _ [_,.ref x,.ref D]) >>= ret) _ _ _;refine Uw (U3 (UR (class_get (s:=⟨hh,g,d,t+1,os⟩) (ox:=ox) (od:=some od) X I n.mo ?_)));refine Uv ?_;show Um _ _ (handedOut (.ref D)) _ _ _;exact handed_on rfl (Uv h)
theorem um{dep:Int}{tk:Tok}{Q:PySem.Fin->gZ}(X:K.In s.heap)(I:InstAt s.heap x ox D (some od))(cl:L2.jK K D)(n:NotIn K D C)(h:Q (.done (.ret (.bool false))) {s with toks:=s.toks+1}):
  Um (model prog w) A (Builtin.«isinstance.nested» ⟨[.ref x,.ref C,.int dep tk],[]⟩) Q E s:=by
 have ca:=λ{A E}{Q:Option T5->gZ}(h:Q (some (.ref D)) {s with toks:=s.toks+1})=>vK (prog:=prog) (w:=w) (A:=A) (E:=E) X I cl n h;obtain⟨hh,g,d,tt,os⟩:=s;have ht:=I.type (M:=model prog w);unfold Builtin.«isinstance.nested»;refine Uw (ht.at ?_);rw[if_neg (λq=>n.ne (by have:=beq_iff_eq.mp q;cases this;rfl))];have L1:=looks_typeIn (M:=model prog w) X n.ty;have L2:=looks_instIn (M:=model prog w) X n.ins;have L4:Vo (model prog w) hh (isSubtype (.ref D) (.ref C)) false:=looks_subIn X n.sub;have L3:Vo (model prog w) hh (isInstance (.ref x) (.ref C)) false:=ht.andThen L4;refine Uw (L1.at ?_);rw[if_pos (by decide)]
 k_delta "plainIsInstance"
 unfold isType
 repeat lk
 have e0:=n.cls;unfold clsIn at e0;split at e0
 ·rename_i ho;refine nd_load (X _ _ ho) (nd_pure (Uv ?_));simp only[RV,QY,if_false];refine Uw (L3.at ?_);simp only[QY,if_false];refine Uw (ca ?_);have e1:(clsIn K D).isSome=true:=by obtain⟨cd,hc,_⟩:=Vl cl.hd;rw[hc];rfl
  unfold clsIn at e1;split at e1
  ·rename_i ho2;refine Uw (nd_load (X _ _ ho2) (Uv ?_));simp only[RV,QY,if_false];refine Uw (U9 ?_);refine L4.at ?_;exact Uv h
  ·cases e1
 ·cases e0
theorem zk{Q:bL}(X:K.In s.heap)(I:InstAt s.heap x ox D (some od))(cl:L2.jK K D)(n:NotIn K D C)(h:Q (.bool false) {s with toks:=s.toks+1}):
  Um (model prog w) A (call (.builtin "isinstance") [.ref x,.ref C]) Q E s:=
 call_isinstance (S:=λ_ R s=>(K.In s.heap/\InstAt s.heap x ox D (some od))/\R (.ok (.ret (.bool false))) {s with toks:=s.toks+1})
  (λ_ _ _ _ _ hs=>isinstance_outer (um hs.1.1 hs.1.2 cl n hs.2) (λz=>nomatch z)) ⟨⟨X,I⟩,h⟩
end
noncomputable def fW(K:Sn)(mg:bU)(x:Str)(yes no:ax):Prop:=∃C,mg x=some (.ref C)/\(∀c∈yes,∀D,clsAt K c D->Te K (.ref D) C=true)/\∀c∈no,∀D,clsAt K c D->jK K D/\NotIn K D C
noncomputable def eB(yes no:ax)(d:D):bx:=match d with
 |.obj c _ _=>if yes.contains c then some (.bl true)else if no.contains c then some (.bl false)else none
 |_=>none
noncomputable def Nb(K:Sn)(C:T7):aI->Hp->VK->Prop:=λxs H Q=>∃p D dx fs,xs=[.ref p,.ref C]/\H p=some (.ins D dx fs)/\((Te K (.ref D) C=true/\Q (.bl true) H)\/(jK K D/\NotIn K D C/\Q (.bl false) H))
section
variable{X:Cx}{p pos:Pos}{e:T8}{C:T7}
theorem Aq:eG X (.builtin "isinstance") (Nb X.K C):=by
 rintro pins s σ H xs us Q I r ⟨p,D,dx,fs,ex,hp,hq⟩;subst ex;obtain⟨u,w',rfl,rx,rt⟩:=vals2 r;cases rx;cases rt;obtain⟨mA,om,_⟩:=oM I.hok hp;obtain⟨od,ia,_⟩:=om.look;rcases hq with⟨hi,q⟩|⟨cl,n,q⟩
 ·exact PySem.W.isi_call I.kIn (λM=>ia.type) hi (λz=>nomatch z) ⟨.bl true,H,I,rfl,q⟩
 ·exact zk I.kIn ia cl n ⟨.bl false,H,I.tok _,rfl,q⟩
end
end TG
namespace TG
open PySem PySem.Spec PyProof.Rows PySem.W L2
variable[ay]
end TG
namespace TG
open PySem PySem.Spec L2
variable[ay]
section
variable{X:Cx}{tg:T8}
end
end TG
namespace TG
open PySem PySem.Spec L2
variable[ay]
end TG
namespace TG
open PySem PySem.Spec L2
variable[ay]
end TG
namespace TG
open PySem PySem.Spec L2
variable[ay]
noncomputable def keyOf:D->Option Key
 |.int i=>some (.inl i)
 |.str x=>some (.inr x)
 |_=>none
theorem qd{d:D}{k:Key}(h:keyOf d=some k):d=dU k:=by
 cases d with
 |int i=>cases h;rfl
 |str x=>cases h;rfl
 |_=>cases h
theorem pC{K:Sn}{H:Hp}{k:Key}{v:V}(h:cf K H (dU k) v):v=kV k:=by
 cases k with
 |inl i=>exact eZ.mp h
 |inr x=>exact eV.mp h
section
variable{P:Uc}{w:Ub}{H H':Hp}{h:Ue}{a:T7}
theorem AQ(x:cq P w H h a (.dK [])):cq P w H' h a (.dT []):=by
 obtain⟨z,hd,vs,rel,o,es,ep,h1,h2,h3,h4,h5,h6⟩:=x;have e:vs=[]:=by have:=rel.length;simpa using this.symm
 subst e;refine⟨QA _,hd,[],.nil,o,es,ep,h1,h2,h3,?_,by simp⟩
 have:=h5.length
 simpa using this
theorem Cg(x:cq P w H h a (.dT [])):cq P w H' h a (.dK []):=by
 obtain⟨z,hd,xs,rel,o,es,ep,h1,h2,h3,h4,h5⟩:=x;have e:xs=[]:=by have:=rel.length;simpa using this.symm
 subst e;have e2:es=#[]:=by simpa using h4
 subst e2;exact⟨QA _,hd,[],.nil,o,#[],ep,h1,h2,h3,λe he=>by simp at he,.nil,by simp⟩
end
section
variable{X:Cx}{pins:aU}{σ:St}{H:Hp}{s:Ua}{a:T7}
theorem Nq(I:Inv X pins σ H s)(h1:H a=some (.dK [])):Inv X pins σ (upd H a (.dT [])) s:=by
 have hx:=I.hok a _ h1;have hq:∃q,s.heap.get? a=some q:=by obtain⟨_,_,_,_,o,_,_,e,_⟩:=id hx;exact⟨o,e⟩
 exact tO (ob:=.dT []) (h':=s.heap) (t':=s.toks) I (by rw[h1];exact trivial) ⟨rfl,λ_ _=>rfl⟩ hq (AQ hx)
theorem My(I:Inv X pins σ H s)(h1:H a=some (.dT [])):Inv X pins σ (upd H a (.dK [])) s:=by
 have hx:=I.hok a _ h1;have hq:∃q,s.heap.get? a=some q:=by obtain⟨_,_,_,_,o,_,_,e,_⟩:=id hx;exact⟨o,e⟩
 exact tO (ob:=.dK []) (h':=s.heap) (t':=s.toks) I (by rw[h1];exact trivial) ⟨rfl,λ_ _=>rfl⟩ hq (Cg hx)
end
theorem AZ{H:Hp}{a:T7}{o1 o2:HO}(h:H a=some o1):upd (upd H a o2) a o1=H:=by
 funext b;by_cases e:b=a
 ·subst e;rw[aA,h]
 ·rw[aw e,aw e]
end TG
namespace TG
open PySem PySem.Spec L2
variable[ay]
end TG
namespace TG
open PySem PySem.Spec PySem.W PySem.Calls PyProof.Rows Builtin Builtin.ObjectAttr Builtin.Getset_descriptor
variable[ay]
section
variable{prog:Uc}{w:Ub}{A:Uj}{E:T5->Ua->Prop}{s:Ua}{K:Frag}{x D:T7}{ox:Obj}{R:UH->Ua->Prop}
theorem AW{M:Ul}{h:Ue}(X:K.In h)(q1:findIn K (.ref D) "__class__"=some (some (.builtin "object.__class__")))(q2:specialIn K (.builtin "object.__class__") "__get__"=some (some (.builtin "getset_descriptor.__get__")))(q3:takesIn K (.builtin "object.__class__")=some true):
  Vo M h (find (.ref x) (.ref D) "__class__") (.bind (.builtin "getset_descriptor.__get__") (.builtin "object.__class__")):=by
 have y1:=Vm (M:=M) X q1;have y2:Vo M h (getOf (some (.builtin "object.__class__"))) (some (.builtin "getset_descriptor.__get__")):=looks_specialIn X q2;have y3:=looks_takesIn (M:=M) X q3;refine y1.andThen (y2.andThen ?_);refine Looks.andThen (a:=some (.builtin "getset_descriptor.__get__",.builtin "object.__class__")) (y3.andThen .now) ?_;exact Looks.tag .now
theorem Dy{tp:T5}(y0:Vo (model prog w) s.heap (typeOf (.ref x)) (.ref D))(y1:Vo (model prog w) s.heap (isSubtype (.ref D) (.type "object")) true)(h:R (.ok (.ret (.ref D))) s):
  UI (model prog w) A (.call (.builtin "getset_descriptor.__get__") ⟨[.builtin "object.__class__",.ref x,tp],[]⟩) R s:=by
 obtain⟨h₁,g₁,d₁,t₁,o₁⟩:=s;refine Vk KF.slot_gs.plain KF.entry_gs
  (KF.slot_gs.check _ _ _ _ _ _ _ _ KF.type_class (KF.args_gs _ _ _) ?_)
 unfold Builtin.«getset_descriptor.__get__»;unfold descrGet;rw[dga_obj];refine Uw (Uv ?_);unfold descrGetter descrCheckInstance;unfold descrNameAndClass isInstance;simp only[KF.owner_class]
 repeat lk
 refine⟨Code.quiet_builtin _ (by decide +kernel),
  Vn KF.entry_class ?_⟩
 unfold Builtin.«object.__class__»;unfold shownTypeOf
 repeat lk
 exact h
structure mB(K:Frag)(D:T7):Prop where
 ga:findIn K (.ref D) "__getattribute__"=some (some (.builtin "BaseException.__getattribute__"))
 gn:findIn K (.ref D) "__getattr__"=some none
 fc:findIn K (.ref D) "__class__"=some (some (.builtin "object.__class__"))
 sg:specialIn K (.builtin "object.__class__") "__get__"=some (some (.builtin "getset_descriptor.__get__"))
 tk:takesIn K (.builtin "object.__class__")=some true
 ob:mroIn K D (.type "object")=some true
 be:mroIn K D (.type "BaseException")=some true
theorem yf{Q:Option T5->Ua->Prop}(Z:mB K D)(X:K.In s.heap)(y0:∀M,Vo M s.heap (typeOf (.ref x)) (.ref D))(h:Q (some (.ref D)) {s with toks:=s.toks+1}):Um (model prog w) A (getAttr? (.ref x) "__class__") Q E s:=by
 obtain⟨hh,g,d,t,os⟩:=s;have L0:=y0 (model prog w);have L1:=Vm (M:=model prog w) X Z.ga;have L2:=Vm (M:=model prog w) X Z.gn;have L3:=looks_mroIn (M:=model prog w) X Z.be;have L4:=AW (M:=model prog w) (x:=x) X Z.fc Z.sg Z.tk;have L5:=looks_mroIn (M:=model prog w) X Z.ob;unfold getAttr? getAttrBy? getAttrBy;refine Uw (wpAny_mkText (Uw
  (Vj (U3 (Uw (L0.at (Uw (L1.at ?_))))))))
 show Um _ _ (getAttrByItsOwn _ _ _ _ _ _) _ _ _;unfold getAttrByItsOwn;refine Uw ?_;show Um _ _ (typeLookup (Value.ref D) "__getattr__") _ _ _;refine L2.at ?_;refine Uw (Vj (U3 ?_));show Um _ _ (boundAndCalled _ _ _) _ _ _;unfold boundAndCalled;rw[PySem.F.attrBase_ValueError.ga.bind (.ref x)];refine Uw (Uv ?_);have ha:=F.args_bexc_ga (.ref x) (Value.str (Str.ofString "__class__") t);have hk:builtinKind "BaseException.__getattribute__"=some .slot:=by
  decide +kernel
 have hsplit:splitId "BaseException.__getattribute__"=some ("BaseException","__getattribute__"):=by
  decide +kernel
 refine UR (Vk PySem.F.attrBase_ValueError.ga.plain F.entry_bexc_ga ?_);have LI:Vo (model prog w) hh (isInstance (.ref x) (.type "BaseException")) true:=L0.andThen L3;have hT:∀A' (Q':Unit->Ua->Prop) E',Q' () ⟨hh,g,d,t+1,os⟩->Um (model prog w) A' (checkBuiltinCall "BaseException.__getattribute__" ⟨[.ref x,Value.str (Str.ofString "__class__") t],[]⟩) Q' E' ⟨hh,g,d,t+1,os⟩:=λA' Q' E' hq=>by
  simp only[checkBuiltinCall,hk,hsplit];refine Uw (LI.at ?_)
  repeat (first|exact hq|wp_step)
 refine hT _ _ _ ?_;show Um _ _ (Builtin.«object.__getattribute__» ⟨[.ref x,Value.str (Str.ofString "__class__") t],[]⟩) _ _ _;unfold Builtin.«object.__getattribute__»;refine Uw (Uv ?_);refine Uw (Uv ?_);refine Uw (L0.at ?_);refine Uw (L4.at ?_);show Um _ _ (Builtin.ObjectAttr.bindTo (.builtin "getset_descriptor.__get__") (.builtin "object.__class__") (.ref x) (.ref D)) _ _ _;unfold Builtin.ObjectAttr.bindTo;dsimp only;refine Uw (U3 (UR (Dy (s:=⟨hh,g,d,t+1,os⟩) L0 L5 ?_)));exact Uv (handed_on rfl (Uv h))
theorem BR(F:mB K D):KitX K (.ref x) (.ref D) (λh=>∃o,h.get? x=some o/\o.cls=.ref D):=by
 have cl:∃c d cd sl,K.lookup D=some ⟨c,d,.cls cd,sl⟩:=by
  have z:=F.fc;unfold findIn at z;dsimp only at z;split at z
  ·rename_i ho;exact⟨_,_,_,_,ho⟩
  ·cases z
 have ty:∀(M:Ul)(h:Ue),(∃o,h.get? x=some o/\o.cls=.ref D)->Vo M h (typeOf (.ref x)) (.ref D):=λM h ⟨o,e,c⟩=>c ▸ (Looks.ld e).andThen .now;refine⟨λM h _ I=>ty M h I,λM h X _=>?_,λh tp dd its n sl X htp=>?_,λX I k=>yf F X (λM=>ty M _ I) k⟩
 ·obtain⟨c,d,cd,sl,ho⟩:=cl;intro A' Q' E' s' k q;unfold isType loadHead;exact Uw (UD (k _ _ (X _ _ ho)) (Uv q))
 ·obtain⟨c,d,cd,sl,ho⟩:=cl;cases hb:(Value.ref D==Value.ref tp)with
  |false=>rfl
  |true=>
   have e:D=tp:=Value.ref.inj (beq_iff_eq.mp hb);subst e;cases(X _ _ ho).symm.trans htp
end
end TG
namespace TG
open PySem PySem.Spec PySem.W PySem.Calls PyProof.Rows Builtin Builtin.ObjectAttr Builtin.Getset_descriptor
noncomputable def v8:List T5->Bool
 |.ref _::r=>v8 r
 |l=>l==[.type "ValueError",.type "Exception",.type "BaseException",.type "object"]
noncomputable def tU(K:Frag)(D:T7):Bool:=(clsIn K D).any λcd=>v8 cd.mro
theorem rJ(self:T5):∀{l:List T5},v8 l=true->refuseLoop self "__setattr__" l=pure ()/\l.contains (.type "object")=true/\l.isEmpty=false
 |[],h=>by cases h
 |c::r,h=>by
  cases c with
  |ref C=>
   obtain⟨h1,h2,_⟩:=rJ self (l:=r) h;exact⟨by rw[refuseLoop_ref];exact h1,by rw[RK,h2,RW],rfl⟩
  |_=>
   have e:=eq_of_beq (show(_==_)=true from h);rw[e];exact⟨PySem.F.store_ValueError.passes self,by decide +kernel,rfl⟩
section
variable{prog:Uc}{w:Ub}{A:Uj}{E:T5->Ua->Prop}{s:Ua}{K:Frag}{x D:T7}{ox:Obj}{od:Option Obj}{name:Str}{v:T5}{tk:Tok}{R:UH->Ua->Prop}
theorem wX(X:K.In s.heap)(I:InstAt s.heap x ox D od)(hp:tU K D=true)(ha:findIn K (.ref D) name=some none)
  (h:Um (model prog w) A.in1 (storeInOwnDict (.ref x) (.ref D) (.str name tk) name v false) (λfin s'=>match fin with|.done f=>R (.ok f) s'|.again c'=>c'.quiet=true/\UI (model prog w) A c' R s') (λe s'=>R (.error e) s') s):
  UI (model prog w) A (.call (.builtin "object.__setattr__") ⟨[.ref x,.str name tk,v],[]⟩) R s:=by
 have SF:=PySem.F.store_object;obtain⟨cd,hc,ho⟩:=Vl hp;obtain⟨v1,v2,v3⟩:=rJ (.ref x) ho;have k1:Vo (model prog w) s.heap (isInstance (.ref x) (.type "object")) true:=I.type.andThen (looks_mroIn X (by unfold mroIn;rw[hc,Option.bind_some,if_neg (by rw[v3];decide),v2]));have k2:Vo (model prog w) s.heap (mroOf (.ref D)) cd.mro:=(looks_clsIn X hc).andThen .now;refine Vk SF.slot.plain SF.entry (@check_slot (model prog w) _ _ s "object.__setattr__" "object" "__setattr__" (.ref x) [.str name tk,v] [] _ SF.kind SF.split k1 (SF.args (.ref x) (.str name tk) v) ?_);rw[osa_eq,refuse_eq];refine Uw (Uw (I.type.here (Uw (k2.here ?_))));rw[v1];refine Uv (Uw (I.type.here (Uw ((Vm X ha).here (Uw (Uv ?_))))));exact h
end
section
variable{prog:Uc}{w:Ub}{A:Uj}{E:T5->Ua->Prop}{s:Ua}{K:Frag}{x D dx:T7}{ox:Obj}{od:Option Obj}{name:Str}{v:T5}{tk:Tok}{R:UH->Ua->Prop}{mA:Str->Option T5}{ns:List Str}{Q:Unit->Ua->Prop}
structure FY(K:Frag)(D:T7):Prop where
 sa:findIn K (.ref D) "__setattr__"=some (some (.builtin "object.__setattr__"))
 ov:tU K D=true
 hd:hasDictIn K D=true
theorem BW(Z:FY K D)(X:K.In s.heap)(hx:s.heap.get? x=some ox)(hc:ox.cls=.ref D)(hn:notCls ox=true)(hd:ox.dict=some dx)(hns:s.heap.Ns1 dx mA)(ha:findIn K (.ref D) name=some none)(hw:PySem.Within mA ns)(hsz:ns.length<=Ug)
  (h:∀h',h'.Ns1 dx (λy=>if y=name then some v else mA y)->Tq dx s.heap h'->Q () {s with heap:=h',toks:=s.toks+2}):Um (model prog w) A (setAttr (.ref x) name v) Q E s:=by
 obtain⟨oD0,ho0,hl0⟩:=L2.zJ hns;have I:InstAt s.heap x ox D (some oD0):=⟨hx,hc,hn,by rw[hd];exact ho0⟩
 refine set_plain X I Z.sa (wX (s:={s with toks:=s.toks+1}) X I Z.ov ha ?_);obtain⟨cd,c1,c2⟩:=Vl Z.hd;obtain⟨oc,odi,oda,osl⟩:=ox;dsimp only at hc hd;subst hc hd;refine Uw (Uv (Uw (Uw (UD hx (Uw (Looks.here (s:={s with toks:=s.toks+1}) (looks_clsIn X c1) ?_))))));rw[c2];refine Uv (a:=some dx) (Uw (Uv (Uw ?_)));refine wpAny_nsSet1 (s:={s with toks:=s.toks+1}) hns λh' n2 s2=>?_;obtain⟨o3,es3,ep3,q1,q2,q3⟩:=n2.count (PySem.Within.cons name v hw);refine Uw (UE q1 (by rw[q2];exact UG (Qh q3 (by rw[Qv];omega))) ?_);exact Uv (h _ n2 s2)
theorem A7{vs:Array T5}(Z:FY K D)(X:K.In s.heap)(hx:s.heap.get? x=some ox)(hc:ox.cls=.ref D)(hdat:ox.data=.fields vs)(hd:ox.dict=none)(ha:findIn K (.ref D) name=some none)
  (h:∀h',h'.Ns1 s.heap.objs.size (λy=>if y=name then some v else none)->Tq s.heap.objs.size ((s.heap.push {cls:=.type "dict",data:=.dict #[]}).update x λo=>{o with dict:=some s.heap.objs.size}) h'->Q () {s with heap:=h',toks:=s.toks+2}):Um (model prog w) A (setAttr (.ref x) name v) Q E s:=by
 obtain⟨oc,odi,oda,osl⟩:=ox;dsimp only at hc hd hdat;subst hc hd hdat;have I:InstAt s.heap x ⟨.ref D,none,.fields vs,osl⟩ D none:=⟨hx,rfl,rfl,trivial⟩
 refine set_plain X I Z.sa (wX (s:={s with toks:=s.toks+1}) X I Z.ov ha ?_);obtain⟨cd,c1,c2⟩:=Vl Z.hd;refine Uw (Uv (Uw (Uw (UD hx (Uw (Looks.here (s:={s with toks:=s.toks+1}) (looks_clsIn X c1) ?_))))));rw[c2];have hx1:(s.heap.push {cls:=.type "dict",data:=.dict #[]}).get? x=some ⟨.ref D,none,.fields vs,osl⟩:=Tr _ hx;have ne:x≠s.heap.objs.size:=Qg (To hx);rw[if_neg (by decide)];dsimp only;rw[if_neg (by simp[typeHasDict])];refine Uw (wpAny_alloc' (Uw (wpAny_update' hx1 (Uv ?_))));have g1:((s.heap.push {cls:=.type "dict",data:=.dict #[]}).update x λo=>{o with dict:=some s.heap.objs.size}).get? s.heap.objs.size=some {cls:=.type "dict",data:=.dict #[]}:=(Tx _ _ _ _ ne.symm).trans (Tz rfl rfl);have g3:((s.heap.push {cls:=.type "dict",data:=.dict #[]}).update x λo=>{o with dict:=some s.heap.objs.size}).Ns s.heap.objs.size (λ_=>none):=⟨_,#[],_,g1,rfl,λe he=>absurd he (by simp),λ_=>rfl⟩
 show Um _ _ (storeInDict s.heap.objs.size (.str name s.toks) name v) _ _ _;unfold storeInDict newKeyGuard;refine Uw (Uv (Uw (wpAny_nsSet1 (Heap.Ns1.of_empty g3) λh' n2 s2=>?_)));obtain⟨o3,es3,ep3,q1,q2,q3⟩:=n2.count (PySem.Within.cons name v PySem.Within.nil);refine Uw (UE q1 (by rw[q2];exact UG (Qh q3 (by rw[Qv,QT,UC];omega))) ?_);exact Uv (h h' n2 s2)
end
end TG
namespace TG
open PySem PySem.Spec L2
variable[ay]
open PyProof.Rows (AllBare OwnCls)
section
variable{X:Cx}{pins:aU}{σ:St}{H:Hp}{s:Ua}{h':Ue}
theorem xG(I:Inv X pins σ H s)(hx:X.ex=[])(hst:X.stack=X.env::X.outer)(hf:X.env.frame=some X.env.locals)(hfn:∀x,X.fn x=true)(us:s.heap.UpToSlots h')(k:∀b o,s.heap.get? b=some o->jl X H b->b∉frs X.stack->h'.get? b=some o):
  Inv X [] σ H {s with heap:=h'}:=by
 have un:=Ci I hx hst hf us k;have cellF:∀x c,X.env.cells.lookup x=some c->c∉frs X.stack:=λx c e z=>by
  obtain⟨v,o,q,d⟩:=I.cell x c e;rw[hst]at z;have z':c∈X.env.locals::frs X.outer:=by
   have:frs (X.env::X.outer)=X.env.locals::frs X.outer:=(by show List.filterMap _ (_::_)=_;rw[Qj,hf];rfl);rw[this]at z;exact z
  rcases List.mem_cons.mp z' with z|z
  ·obtain⟨m,⟨o2,es,ep,e2,d2,_⟩,_⟩:=I.loc;rw[<-z,q]at e2;cases e2;rw[d]at d2;cases d2
  ·obtain⟨_,o2,e2,_⟩:=I.ok.funs.mem z;exact Qf _ (Qe (To e2) (I.ok.cab x c (hfn x) e))
 have cellK:∀x c v,X.env.cells.lookup x=some c->s.heap.IsCell c v->h'.IsCell c v:=λx c v e ⟨o,q,d⟩=>⟨o,k c o q (.inr (.inr (.inr ⟨x,e⟩))) (cellF x c e),d⟩
 obtain⟨m,hn,hl⟩:=I.loc;refine⟨I.ok,I.os,I.bare,by rw[hx];exact un,⟨m,us.ns hn,λi x v e1 e2 e3=>?_⟩,λx c e=>?_,I.free,I.freeC,λp hp=>?_,xW I k,I.len⟩
 ·obtain⟨u,r,q⟩:=hl i x v e1 e2 e3;refine⟨u,r,?_⟩;rcases q with q|⟨q1,c,q2,q3⟩
  ·exact .inl q
  ·exact .inr ⟨q1,c,q2,cellK x c _ q2 q3⟩
 ·obtain⟨v,q⟩:=I.cell x c e;exact⟨v,cellK x c v e q⟩
 ·rw[QB]at hp;obtain⟨e,n,ne,nf,d⟩:=I.pin p (Qm _ hp);have nfs:p.1∉frs X.stack:=λz=>by
   have:frs X.stack=X.env.locals::frs X.outer:=(by rw[hst];show List.filterMap _ (_::_)=_;rw[Qj,hf];rfl);rw[this]at z;rcases List.mem_cons.mp z with z|z
   ·exact ne z
   ·exact nf z
  exact⟨k _ _ e (.inr (.inr (.inl ⟨p.2,hp⟩))) nfs,n,ne,nf,d⟩
theorem zB{e C:T7}{oe:Obj}(I:Inv X pins σ H s)(hx:X.ex=[])(hn:H e=none)(he:s.heap.get? e=some oe)(hc:oe.cls=.ref C)(hno:S3 oe=true)(h0:X.s₀.heap.get? e=none)(hL:e≠X.env.locals)(hcl:∀x,X.env.cells.lookup x≠some e)(hp:∀p∈X.pn++pins,p.1≠e):
  Inv X pins σ (upd H e (.ext (u6 C e oe.dict))) s:=by
 have ne:∀b u,H b=some u->b≠e:=λb u q z=>by rw[z,hn]at q;cases q
 have U:=I.base;refine⟨I.ok,I.os,I.bare,⟨U.keep,U.slot,λb o q n nx=>?_,U.there,λb xs q=>?_,λb o u q=>?_,λb ps q=>?_⟩,I.loc,I.cell,?_,λx c q=>?_,λp q=>?_,λa o q=>?_,I.len⟩
 ·rw[aw λz=>by rw[z,h0]at q;cases q];exact U.free b o q n nx
 ·have:=U.tups b xs q;rw[aw (ne _ _ this)];exact this
 ·have:=U.frzs b o u q;rw[aw (ne _ _ this)];exact this
 ·obtain⟨more,z⟩:=U.tbls b ps q;exact⟨more,by rw[aw (ne _ _ z)];exact z⟩
 ·rw[aw hL.symm];exact I.free
 ·rw[aw λz=>hcl x (by rw[<-z];exact q)];exact I.freeC x c q
 ·obtain⟨a1,a2,a3⟩:=I.pin p q;exact⟨a1,by rw[aw (hp p q)];exact a2,a3⟩
 ·by_cases z:a=e
  ·subst z;rw[aA]at q;cases q;exact⟨⟨oe,he,hc,rfl,hno⟩,⟨oe,he⟩,λ_ _ h1 h2 ⟨o,q1,q2⟩ _ k=>⟨o,k _ o (.inl rfl) q1,q2⟩⟩
  ·rw[aw z]at q;exact(I.hok a o q).stay (λb u _ q=>q) (λb q=>by rw[aw (ne _ _ q)];exact q) λb xs q=>by rw[aw (ne _ _ q)];exact q
end
abbrev CQ:aS:=[.type "ValueError",.type "Exception",.type "BaseException",.type "object"]
theorem Dn{K:Sn}{h:Ue}{C:T7}{bmB:aS}{newId:String}(X:K.In h)(q:Tf K C bmB newId=true)(x:Str):OwnCls x C bmB newId (λ_=>some (.ref C)) h:=by
 constructor
 ·rfl
 ·unfold Tf at q;split at q
  ·rename_i od data slots look;split at q
   ·rename_i C0 tl s0 s1 s2 s3 nid s5 e1 e2;simp only[QN,beq_iff_eq,RX]at q;obtain⟨⟨⟨⟨⟨y1,y2⟩,y3⟩,y4⟩,y5⟩,y6⟩:=q;subst y1 y2;obtain⟨d1,d2,d3,d4,d5,d6,d7,d8,d9,d10,d11⟩:=data;dsimp only at e1 y3 y5 y6;subst e1 y3;have hs:slots=#[s0,s1,s2,s3,some (.builtin nid),s5]:=by
     cases slots with
     |mk l=>rw[show l=_ from e2]
    subst hs;exact⟨tl,d4,d1,d5,d2,d6,d7,d8,d9,d10,od,s0,s1,s2,s3,s5,_,X _ _ look,.of_isNs (Tg X y5),PySem.W.nsMap_none_of_in X y5 y6,Th X y4⟩
   ·cases q
  ·cases q
noncomputable def ExcAt(K:Sn)(mg:bU)(x:Str):Prop:=∃C,clsAt K x C/\mg x=some (.ref C)/\Tf K C CQ "ValueError.__new__"=true
noncomputable def bW(c:Str)(f:aO):bw:=λk ρ=>oW (f ρ) k ρ λds=>if small ds.length then k.ex ⟨c,[],[]⟩ ρ else un
theorem jr{base B h h':Ue}(k:∀b o,h.get? b=some o->h'.get? b=some o):∀{l:List Env},(∀b∈frs l,B.get? b=none)->h.FunFrames base l->h'.FunFrames B l
 |[],_,_=>trivial
 |env::l,hb,⟨h1,⟨L,o,h2,_,h3,h4⟩,h5⟩=>by
  have mem:L∈frs (env::l):=by show L∈List.filterMap _ (_::_);rw[Qj,h2];exact Qk
  refine⟨h1,⟨L,o,h2,hb L mem,k _ _ h3,h4⟩,jr k (λb z=>hb b ?_) h5⟩;show b∈List.filterMap _ (_::_);rw[Qj,h2];exact Ql _ z
section
variable{X:Cx}{pos:Pos}
theorem BK{pins:aU}{σ:St}{H:Hp}{s:Ua}{h':Ue}{e C:T7}{us:aS}(I:Inv X pins σ H s)(m:TB s.heap h' e (.ref C) us):uY X H {s with heap:=h'} e C none:=by
 have hd:∀b o,(kY s.heap (λb=>if b∈frs X.stack then some (.tup [])else none)).get? b=some o->s.heap.get? b=some o/\b∉frs X.stack:=λb o q=>by
  obtain⟨q1,q2⟩:=mq q;refine⟨q1,λz=>?_⟩;rw[if_pos z]at q2;cases q2
 obtain⟨t,m1,m2,m3⟩:=m.there;refine⟨λoe q=>by rw[m1]at q;cases q;rfl,kY s.heap (λb=>if b∈frs X.stack then some (.tup [])else none),.ref t,λb o q=>m.keeps b o (hd b o q).1,?_,jr m.keeps (λb hb=>?_) I.stack,.inr ⟨_,_,m1,rfl,rfl,rfl,rfl⟩,λb o q kb nf=>?_⟩
 ·cases q:(kY s.heap (λb=>if b∈frs X.stack then some (.tup [])else none)).get? e with
  |none=>rfl
  |some o=>have:=(hd e o q).1;rw[m.new]at this;cases this
 ·cases q:(kY s.heap (λb=>if b∈frs X.stack then some (.tup [])else none)).get? b with
  |none=>rfl
  |some o=>exact absurd hb (hd b o q).2
 ·obtain⟨o1,e1⟩:∃o1,s.heap.get? b=some o1:=by
   rcases kb with⟨⟨o0,z⟩,nx⟩|z|⟨o0,z⟩|⟨y,z⟩
   ·exact I.base.there b o0 z nx
   ·cases q0:H b with
    |none=>exact absurd q0 z
    |some ob=>exact wB (I.hok b ob q0)
   ·exact⟨_,(I.pin _ (Qm _ z)).1⟩
   ·obtain⟨v,o0,z0,_⟩:=I.cell y b z;exact⟨o0,z0⟩
  have:=m.keeps b o1 e1
  rw[show h'.get? b=some o from q]at this;cases this;exact qo e1 (if_neg nf)
end
end TG
namespace TG
open PySem PySem.Spec L2
variable[ay]
noncomputable abbrev uo(X:Cx)(E:bL)(pn:aU):Cx:={X with xe:=E,pn:=pn}
noncomputable abbrev pD(X:Cx)(A:Uj)(pn:aU):Cx:={X with A:=A,xe:=λ_ _=>False,calm:=false,pn:=pn}
section
variable{X:Cx}{pins:aU}{σ:St}{H:Hp}{s:Ua}{E:bL}{A:Uj}
theorem CY(I:L2.Inv X pins σ H s)(E:bL):L2.Inv (uo X E (X.pn++pins)) [] σ H s:=
 ⟨⟨I.ok.mod,I.ok.kind,I.ok.glob,I.ok.blt,I.ok.above,I.ok.inj,I.ok.has,I.ok.cab,I.ok.hd,I.ok.frames,I.ok.stk,I.ok.exf,I.ok.bs,I.ok.bsz,I.ok.noex,I.ok.exfs,I.ok.funs,I.ok.frf⟩,
  I.os,I.bare,I.base,I.loc,I.cell,I.free,I.freeC,λp hp=>I.pin p (by simpa using hp),I.hok,I.len⟩
theorem jP{E':bL}{A':Uj}{c':Bool}(ok:X.Ok)(I:L2.Inv {X with A:=A',xe:=E',calm:=c',pn:=X.pn++pins} [] σ H s):L2.Inv X pins σ H s:=
 ⟨ok,I.os,I.bare,I.base,I.loc,I.cell,I.free,I.freeC,λp hp=>I.pin p (by simpa using hp),I.hok,I.len⟩
theorem vp{pn:aU}{ps:aU}(I:L2.Inv (uo X E pn) ps σ H s)(hA:A.frames=X.A.frames):L2.Inv (pD X A pn) ps σ H s:=
 ⟨⟨I.ok.mod,I.ok.kind,I.ok.glob,I.ok.blt,I.ok.above,I.ok.inj,I.ok.has,I.ok.cab,(fun z=>nomatch z),by rw [show (pD X A pn).A=A from rfl,hA]; exact I.ok.frames,I.ok.stk,I.ok.exf,I.ok.bs,I.ok.bsz,I.ok.noex,I.ok.exfs,I.ok.funs,I.ok.frf⟩,
  I.os,I.bare,I.base,I.loc,I.cell,I.free,I.freeC,I.pin,I.hok,I.len⟩
theorem Bb{i:Nat}{n:Str}{v:Option T5}{m:bU}{h9:Ue}{t:Nat}(I:L2.Inv X pins σ H s)(hN:X.N.Nodup)(hi:X.N[i]?=some n)(hn:s.heap.Ns X.env.locals m)
  (hl:∀(i:Nat)(x:Str)(v:V),X.N[i]?=some x->σ[i]?=some (some v)->HM X.env.scope x->∃u,RelV v u/\Look X.env s.heap m x u)
  (ns:h9.Ns X.env.locals (λx=>if x=n then v else m x)) (sb:Tq X.env.locals s.heap h9):L2.Inv X pins (σ.set i none) H {s with heap:=h9,toks:=t}:=by
 have old:∀b o,X.s₀.heap.get? b=some o->b≠X.env.locals:=λb o q z=>by
  have h1:=To q;rw[z]at h1;exact Qf _ (Qe h1 I.ok.above)
 have go:∀b o,b≠X.env.locals->s.heap.get? b=some o->h9.get? b=some o:=λb o ne q=>(sb.2 b ne).trans q;have cne:∀c w,s.heap.IsCell c w->c≠X.env.locals:=λc w ⟨o,q,d⟩ z=>by
  obtain⟨o2,es,ep,e2,d2,_⟩:=hn;rw[z,e2]at q;cases q;rw[d2]at d;cases d
 have U:=I.base;refine⟨I.ok,I.os,I.bare,⟨λb o q n nb nx=>go b o (old b o q) (U.keep b o q n nb nx),λb o q n nb nx=>?_,U.free,λb o q nx=>?_,U.tups,U.frzs,U.tbls⟩,⟨_,ns,λj y v' e1 e2 e3=>?_⟩,λx c q=>?_,I.free,I.freeC,λp hp=>?_,λa o q=>?_,by rw[List.length_set];exact I.len⟩
 ·obtain⟨sl,z⟩:=U.slot b o q n nb nx;exact⟨sl,go b _ (old b o q) z⟩
 ·obtain⟨o1,z⟩:=U.there b o q nx;exact⟨o1,go b _ (old b o q) z⟩
 ·by_cases hj:j=i
  ·subst hj;have hlt:j<σ.length:=(by rw[I.len];exact(List.getElem?_eq_some_iff.mp hi).1);rw[Qn hlt]at e2;cases e2
  ·rw[Qo (Ne.symm hj)]at e2;have hy:y≠n:=λz=>by
    subst z;obtain⟨l1,g1⟩:=List.getElem?_eq_some_iff.mp e1;obtain⟨l2,g2⟩:=List.getElem?_eq_some_iff.mp hi;exact hj (List.getElem_inj hN |>.mp (g1.trans g2.symm))
   obtain⟨u,r,q⟩:=hl j y v' e1 e2 e3;refine⟨u,r,?_⟩;rcases q with⟨q1,q2⟩|⟨q1,c,q2,q3⟩
   ·exact .inl ⟨q1,by show(if y=n then v else m y)=some u;rw[if_neg hy];exact q2⟩
   ·obtain⟨o,z1,z2⟩:=id q3;exact .inr ⟨q1,c,q2,o,go c o (cne c _ q3) z1,z2⟩
 ·obtain⟨w,z⟩:=I.cell x c q;obtain⟨o,z1,z2⟩:=id z;exact⟨w,o,go c o (cne c _ z) z1,z2⟩
 ·obtain⟨e,n',ne,r⟩:=I.pin p hp;exact⟨go _ _ ne e,n',ne,r⟩
 ·refine(I.hok a o q).stay (λb u hb z=>go b u (λw=>?_) z) (λ_ q=>q) λ_ _ q=>q;have hz:=I.free;rw[<-w]at hz;rcases hb with e|e
  ·rw[e,q]at hz;cases hz
  ·rw[e]at hz;cases hz
theorem z9{e C:T7}{dx:iq}(fl:uY X H s e C dx):∃oe vs,s.heap.get? e=some oe/\oe.cls=.ref C/\oe.data=.fields vs:=by
 obtain⟨_,B,a0,_,_,_,b4,_⟩:=fl;rcases b4 with⟨oe,vs,T,oT,ts,h1,h2,h3,_⟩|⟨oe,vs,h1,h2,h3,_⟩
 ·exact⟨oe,vs,h1,h2.1,h3⟩
 ·exact⟨oe,vs,h1,h2,h3⟩
theorem CG{M:Ul}{e C:T7}{dx:iq}{Q:Unit->gZ}(hfr:A.frames=some X.stack)(hst:X.stack=X.env::X.outer)(hf:X.env.frame=some X.env.locals)(fl:uY X H s e C dx)
  (hQ:∀B a0 h',Heap.HeldW B X.stack e (.ref C) a0 X.env.locals h'->s.heap.UpToSlots h'->(∀b o,s.heap.get? b=some o->jl X H b->b∉frs X.stack->B.get? b=some o)->DS s.heap h'->Q () {s with heap:=h'}):
  Um M A (noteFrame (.ref e) X.env) Q E s:=by
 obtain⟨_,B,a0,b1,b2,b3,b4,b5⟩:=fl;rw[hst]at hfr b3;refine DP.go (xJ _ _) (P:=λh'=>Heap.HeldW B X.stack e (.ref C) a0 X.env.locals h'/\s.heap.UpToSlots h') ?_ λh' z ds=>hQ B a0 h' z.1 z.2 b5 ds;rcases b4 with b4|⟨oe,vs,c1,c2,c3,c4,c5⟩
 ·exact wpAny_looks_onW hfr hf ⟨b1,b2,b3,b4⟩ λh' hd us=>⟨h',rfl,by rw[hst];exact hd,us⟩
 ·unfold noteFrame;simp only[hf];refine Uw (U2 c1 c3 c4 ?_);rw[if_neg (by decide)];refine wpAny_entryW hfr b3 hf c1 b1 b2 c3 (Array.getElem?_eq_some_iff.mp c4).1 c5 λh' hN=>?_;obtain⟨k1,k2,k3,k4⟩:=hN;exact⟨h',rfl,⟨k1,b2,by rw[hst];exact k2,c2 ▸ k3⟩,k4⟩
end
theorem dQ.unset{K:Sn}{Hb:Hp}{Ob O:aH}{H:Hp}{ρ:av}{σ:St}(T:dQ K Hb Ob O H ρ σ)(i:Nat):dQ K Hb Ob O H (ρ.set i none) (σ.set i none):=by
 have key:∀(j:Nat)(x:S),(ρ.set i none)[j]?=some (some x)->j≠i/\ρ[j]?=some (some x):=λj x e=>by
  rcases bc e with⟨_,q⟩|⟨ne,q⟩
  ·cases q
  ·exact⟨ne,q⟩
 refine⟨⟨λj d e=>?_,λj d e=>?_,λj l xs ys a e1 e2 e3 e4=>?_,T.env.all⟩,T.base,λj xs a e1 e2=>?_,λj dn e=>?_⟩
 ·obtain⟨ne,q⟩:=key j _ e;obtain⟨v,q1,q2⟩:=T.env.val j d q;exact⟨v,by rw[Qo ne.symm];exact q1,q2⟩
 ·obtain⟨ne,q⟩:=key j _ e;obtain⟨a,q1,q2⟩:=T.env.own j d q;exact⟨a,by rw[Qo ne.symm];exact q1,q2⟩
 ·obtain⟨n1,q1⟩:=key j _ e1;obtain⟨n2,q2⟩:=key l _ e2;rw[Qo n1.symm]at e3;rw[Qo n2.symm]at e4;exact T.env.one j l xs ys a q1 q2 e3 e4
 ·obtain⟨ne,q⟩:=key j _ e1;rw[Qo ne.symm]at e2;exact T.mine j xs a q e2
 ·obtain⟨ne,q⟩:=key j _ e;refine(T.nst j dn q).to (Qo ne.symm) (λ_ _ z=>z) (λb q1 q2 q3 q4 _=>⟨rfl,q1,q2,λl d1 w=>?_⟩) λl d1 w=>⟨d1,(key l _ w).2⟩
  obtain⟨nl,z⟩:=key l _ w;rw[Qo nl.symm];exact q4 l d1 z
noncomputable def vi(K:Sn)(mg:bU)(g:Str)(cs:ax):Prop:=∃G,mg g=some (.ref G)/\∀c∈cs,∀C,clsAt K c C->Ti K (.ref C) (.ref G)=some true
noncomputable def IP(i:Nat)(k:Ks):Ks:=⟨λρ=>k.nx (ρ.set i none),λρ=>k.bk (ρ.set i none),λρ=>k.ct (ρ.set i none),λ_ _=>un⟩
noncomputable def zY(cs:ax)(i:Nat)(F Fh:bw):bw:=λk ρ=>F {k with ex:=λx ρ1=>if cs.contains x.c=true then Fh (IP i k) (setV i (.exc x.c x.fs x.vs) ρ1)else un} ρ
section
variable{X:Cx}{pos:Pos}
theorem LK{body suite:dE}{b₀:T9}{g n:Str}{gp hpos:Pos}{F Fh:bw}{cs:ax}{i:Nat}(hx:X.ex=[])(hst:X.stack=X.env::X.outer)(hf:X.env.frame=some X.env.locals)(hfn:∀x,X.fn x=true)
  (hT:vi X.K X.mg g cs) (hg:Gl X g) (hN:X.N.Nodup) (hi:X.N[i]?=some n) (hl:X.env.scope.names.lookup n=some .local)
  (hb:∀E pn,Uy (model X.prog X.w) X.A X.env E->Ke (uo X E pn) body F) (hs:∀A pn,A.depth=X.A.depth->A.units=X.A.units->Ke (pD X A pn) (b₀::suite) Fh) (hdb:(g==("__debug__":Str))=false:=by decide):
  FS X (.Try body [.ExceptHandler (some (.Name g gp)) (some n) (b₀::suite) hpos] [] [] pos) (zY cs i F Fh):=λHb Ob pins s σ H E I ⟨O,ρ,k,r,S,hF,hk⟩=>by
 obtain⟨G,hG,hcs⟩:=hT;refine wpAny_Try_except ?_;have land:∀O1 ρ1 σ1 H1 x,dQ X.K Hb Ob O1 H1 ρ1 σ1->(if cs.contains x.c=true then Fh (IP i k) (setV i (.exc x.c x.fs x.vs) ρ1)else un)=r->
   GZ (uo X (λe s₁=>Um (model X.prog X.w) X.A (noteFrame e X.env) (λ_ s₂=>Um (model X.prog X.w) X.A (setFlight e none) (λ_ s₃=>Um (model X.prog X.w) X.A (handleBy e X.env [.ExceptHandler (some (.Name g gp)) (some n) (b₀::suite) hpos]) (SP X pins E) X.xe s₃) X.xe s₂) X.xe s₁) (X.pn++pins)) σ1 O1 H1 x:=by
  rintro O1 ρ1 σ1 H1 x S1 ex pins' s1 u H2 I1 sm ⟨e,C,dx,rfl,hd,fl⟩;have cond:cs.contains x.c=true:=by
   cases z:cs.contains x.c with
   |true=>rfl
   |false=>rw[z]at ex;exact absurd ex.symm hk.ne
  rw[if_pos cond]at ex;obtain⟨oe1,vs1,he1,hc1,hd1⟩:=z9 fl;have nfr:e∉frs X.stack:=λz=>by
   obtain⟨_,o,q,nf⟩:=I1.stack.mem z;rw[he1]at q;cases q;exact nf _ hd1
  refine CG (X:=uo X _ (X.pn++pins)) I1.ok.frames hst hf fl λB a0 h4 held us4 kb ds4=>?_;have nk:¬jl (uo X _ (X.pn++pins)) H2 e:=λz=>by
   have:=kb e oe1 he1 z nfr
   rw[held.2.1]at this;cases this
  refine DP.go (nT _ _) (P:=λh'=>Tv B X.stack e (.ref C) a0 h'/\h4.UpToSlots h') (wpAny_landsW held λh' x y=>⟨h',rfl,x,y⟩) λh5 z5 ds5=>?_;obtain⟨fl5,us5⟩:=z5;have I5:=xG I1 hx hst hf hfn (us4.trans us5) λb o q kb' nf=>fl5.1 b o (kb b o q kb' nf);obtain⟨oe5,he5,hc5⟩:=fl5.there;have I5h:=vp (A:=X.A.mark (some (.ref e))) I5 rfl;refine wpAny_handleBy_cons (codeAny_handlers_test (hW (X:=pD X (X.A.mark (some (.ref e))) (X.pn++pins)) I5h hg hG ?_ hdb)) (by intro z;cases z);refine(PySem.W.exm_one I5.kIn (show SM _ h5 (typeOf (.ref e)) (.ref C)from hc5 ▸ (PySem.W.Looks.ld he5).andThen .now) (hcs x.c (by simpa using cond) C hd.1)).at ?_;refine codeAny_handlers_suite_as ?_;refine DP.go (nT _ _) (P:=λh'=>Tv B X.stack e (.ref C) a0 h'/\h5.UpToSlots h') (PyProof.Rows.lands_againW fl5 λh' x y=>⟨h',rfl,x,y⟩) λh6 z6 ds6=>?_;obtain⟨fl6,us6⟩:=z6;have I6:=xG I1 hx hst hf hfn ((us4.trans us5).trans us6) λb o q kb' nf=>fl6.1 b o (kb b o q kb' nf);obtain⟨oe6,ws6,he6,hc6,hd6,_⟩:=fl6.first;have hdx:oe6.dict=dx:=(((ds4.trans ds5).trans ds6).dict he1 he6).trans (fl.1 _ he1);have hn:H2 e=none:=by
   cases q:H2 e with
   |none=>rfl
   |some ob=>exact absurd (.inr (.inl (by rw[q];intro z;cases z))) nk
  have I6a:=zB (C:=C) I6 hx hn he6 hc6 (by unfold S3;rw[hd6]) (by
    cases q:X.s₀.heap.get? e with
    |none=>rfl
    |some o=>exact absurd (.inl ⟨⟨o,q⟩,by rw[show(uo X _ (X.pn++pins)).ex=X.ex from rfl,hx];simp⟩) nk) (λz=>by
    apply nfr;rw[hst,z];show X.env.locals∈List.filterMap _ (_::_);rw[Qj,hf];exact Qk)
   (λy q=>nk (.inr (.inr (.inr ⟨y,q⟩)))) (λp hp q=>by
    rw[QB]at hp;exact nk (.inr (.inr (.inl ⟨p.2,by rw[<-q];exact hp⟩))))
  have I6h:=vp (A:=X.A.mark (some (.ref e))) I6a rfl;have same26:aQ H2 (upd H2 e (.ext (u6 C e oe6.dict))):=λb o q=>by rw[aw λz=>by rw[z,hn]at q;cases q];exact q
  have eO:e∉O1:=(S1.env.all.same sm).not hn;refine pV (X:=pD X (X.A.mark (some (.ref e))) (X.pn++pins)) I6h hN hi (.inl hl) (show RelV (.ref e) (.ref e)from rfl) (λs7 I7=>?_) (.inl (hfn n));have S7:=(S1.same (sm.trans same26)).setV (i:=i) (d:=.exc x.c x.fs x.vs) (v:=.ref e) (by rw[I1.len];exact(List.getElem?_eq_some_iff.mp hi).1)
   (by
    obtain⟨c1,ws,w1,w2,w3⟩:=hd;have sh:aQ (hid H2 O1) (hid (upd H2 e (.ext (u6 C e oe6.dict))) O1):=bQ same26;exact Kt.mpr ⟨e,ws,rfl,w1.mono sh,w2,C,oe6.dict,c1,by rw[jQ eO];exact aA,w3.imp id λ⟨d,q1,q2⟩=>⟨d,hdx.trans q1,sh _ _ q2⟩⟩)
  refine Up (hs (X.A.mark (some (.ref e))) (X.pn++pins) rfl rfl Hb Ob [] s7 _ _ {nx:=λσ' H'=>E.nx (σ'.set i none) H',rt:=E.rt,bk:=λσ' H'=>E.bk (σ'.set i none) H',ct:=λσ' H'=>E.ct (σ'.set i none) H'} I7
   ⟨O1,_,IP i k,r,S7,ex,hk.ne,λO' ρ' σ' H' S' q=>hk.nx O' _ _ H' (S'.unset i) q,λO' ρ' σ' H' S' q=>hk.bk O' _ _ H' (S'.unset i) q,λO' ρ' σ' H' S' q=>hk.ct O' _ _ H' (S'.unset i) q,hk.rt,λO' ρ' σ' H' y S' q=>absurd q.symm hk.ne⟩) (λf s8 h8=>?_) λ_ _ z=>z.elim
  have fin:∀σ' H',L2.Inv (pD X (X.A.mark (some (.ref e))) (X.pn++pins)) [] σ' H' s8->∀Q:gZ,(∀s9,L2.Inv X pins (σ'.set i none) H' s9->Q s9)->
    Um (model X.prog X.w) X.A (do bindName X.env n .none;unbindBehindTheSuite X.env n hpos) (λ_ s₃=>Q s₃) X.xe s8:=λσ' H' I8 Q q=>by
   obtain⟨m,hm,hlk⟩:=I8.loc;exact wpAny_nameGoes_keeps hl hm (by rw[I8.ok.kind];rfl) λh9 v ns9 sb9=>q _ (jP I.ok (Bb I8 hN hi hm hlk ns9 sb9))
  cases f with
  |next=>obtain⟨σ',H',I8,q⟩:=h8;exact fin σ' H' I8 _ λs9 I9=>⟨_,H',I9,q⟩
  |brk=>obtain⟨σ',H',I8,q⟩:=h8;exact fin σ' H' I8 _ λs9 I9=>⟨_,H',I9,q⟩
  |cont=>obtain⟨σ',H',I8,q⟩:=h8;exact fin σ' H' I8 _ λs9 I9=>⟨_,H',I9,q⟩
  |ret u=>obtain⟨v,σ',H',I8,rv,q⟩:=h8;exact fin σ' H' I8 _ λs9 I9=>⟨v,_,H',I9,rv,q⟩
 refine Up (hb _ (X.pn++pins) PassesOwn.looking Hb Ob [] s σ H E (CY I _) ⟨O,ρ,_,r,S,hF,hk.ne,hk.nx,hk.bk,hk.ct,hk.rt,land⟩) (λf s1 h1=>?_) λ_ _ z=>z;cases f with
 |next=>obtain⟨σ',H',I1,q⟩:=h1;exact xr pins s1 σ' H' E (jP I.ok I1) q
 |brk=>obtain⟨σ',H',I1,q⟩:=h1;exact⟨σ',H',jP I.ok I1,q⟩
 |cont=>obtain⟨σ',H',I1,q⟩:=h1;exact⟨σ',H',jP I.ok I1,q⟩
 |ret u=>obtain⟨v,σ',H',I1,rv,q⟩:=h1;exact⟨v,σ',H',jP I.ok I1,rv,q⟩
end
end TG
namespace TG
open PySem PySem.Spec L2
variable[ay]
noncomputable def uJ(K:Sn)(T:T5)(tbl:List (Str×Bool)):Prop:=∀c b,tbl.lookup c=some b->∀D,clsAt K c D->mB K D/\S4 K (.ref D) T=some b
noncomputable def dR(tbl:List (Str×Bool))(d:D):bx:=match d with
 |.exc c _ _=>(tbl.lookup c).map .bl
 |_=>none
noncomputable def cR(K:Sn)(mg:bU)(x:Str)(tbl:List (Str×Bool)):Prop:=∃C,mg x=some (.ref C)/\uJ K (.ref C) tbl
theorem cF{K:Sn}{T:T5}:uJ K T []:=λ_ _ h=>by cases h
theorem ai{K:Sn}{T:T5}{c:Str}{D:T7}{b:Bool}{tbl:List (Str×Bool)}(ac:clsAt K c D)(F:mB K D)(k:S4 K (.ref D) T=some b)(r:uJ K T tbl):uJ K T ((c,b)::tbl):=λc' b' h D' hD=>by
 rw[QW]at h;split at h
 ·rename_i e;have e:=beq_iff_eq.mp e;subst e;cases h;cases aj hD ac;exact⟨F,k⟩
 ·exact r c' b' h D' hD
theorem vt{K:Sn}{C:T7}{v:T5}(h:Td K C v=some true):(S6 K C).isSome=true:=by
 unfold Td at h;cases e:S6 K C with
 |none=>rw[e]at h;cases h
 |some c=>rfl
theorem ak{K:Sn}{C D:T7}{b:Bool}(hs:S9 K (.ref D) (.ref C)=some b)(ho:Td K C (.type "object")=some true)(ht:SE K (.ref C)=some (.type "type"))(hn:b=true\/D≠C):S4 K (.ref D) (.ref C)=some b:=by
 unfold S4;by_cases e:D=C
 ·rcases hn with hn|hn
  ·rw[if_pos (by rw[e];simp),hn]
  ·exact absurd e hn
 ·rw[if_neg (by simpa using e)];unfold Tj;dsimp only;rw[if_pos (by rw[vt ho,ht];rfl)];exact hs
theorem ji{K:Sn}{D:T7}{b:Bool}(hs:S9 K (.ref D) (.type "ValueError")=some b):S4 K (.ref D) (.type "ValueError")=some b:=by
 unfold S4;rw[if_neg (by simp)];unfold Tj;dsimp only;rw[if_pos (by decide +kernel)];exact hs
theorem gr{K:Sn}{C G:T7}(hb:S9 K (.ref G) (.type "BaseException")=some true)(hs:S9 K (.ref C) (.ref G)=some true)(ho:Td K G (.type "object")=some true)(ht:SE K (.ref G)=some (.type "type")):Ti K (.ref C) (.ref G)=some true:=by
 unfold Ti;rw[if_pos (by rw[hb];rfl)];unfold Tj;dsimp only;rw[if_pos (by rw[vt ho,ht];rfl)];exact hs
theorem AK{K:Sn}{mg:bU}{g:Str}{G:T7}{cs:ax}(hm:mg g=some (.ref G))(h:∀c∈cs,∃C,clsAt K c C/\Ti K (.ref C) (.ref G)=some true):vi K mg g cs:=⟨G,hm,λc hc C hC=>by
 obtain⟨C',h1,h2⟩:=h c hc;cases aj hC h1;exact h2⟩
section
variable{X:Cx}{p pos:Pos}{e:T8}
noncomputable def Ga(K:Sn)(tv:V)(T:T5):aI->Hp->VK->Prop:=λxs H Q=>∃a D dx b,xs=[.ref a,tv]/\H a=some (.ext (u6 D a dx))/\mB K D/\S4 K (.ref D) T=some b/\Q (.bl b) H
theorem sB{tv:V}{T:T5}(hT:∀u,RelV tv u->u=T):eG X (.builtin "isinstance") (Ga X.K tv T):=by
 rintro pins s σ H xs us Q I r ⟨a,D,dx,b,ex,ha,F,hk,q⟩;subst ex;obtain⟨u,w',rfl,rx,rt⟩:=vals2 r;cases rx;cases hT _ rt;obtain⟨⟨o,e1,e2,_⟩,_⟩:=(show cq X.prog X.w H s.heap a (.ext (u6 D a dx))from I.hok a _ ha)
 exact S5 (BR F) I.kIn ⟨o,e1,e2⟩ hk (λz=>nomatch z) λtk=>⟨.bl _,H,I.tok _,rfl,q⟩
theorem vN{tbl:List (Str×Bool)}{a d:D}(h:dR tbl a=some d):∃c fs vs b,a=.exc c fs vs/\tbl.lookup c=some b/\d=.bl b:=by
 unfold dR at h;split at h
 ·rename_i c fs vs;cases e:tbl.lookup c with
  |none=>rw[e]at h;cases h
  |some b=>rw[e]at h;cases h;exact⟨c,fs,vs,b,rfl,e,rfl⟩
 ·cases h
theorem FZ{tbl:List (Str×Bool)}{tv:V}{T:T5}{f:FX}(h:uJ X.K T tbl):∀σ H Q,tF X (f1 (dR tbl) f) σ H Q->Kx (Ga X.K tv T) (wU (tF X f) (wU (tC tv) Hm)) σ H Q:=λσ H Q ⟨O,ρ,E,hF⟩=>⟨O,ρ,E,(fi.bind hF).imp λa hF v H1 s1 d1=>by
  obtain⟨d,e,q⟩:=fi.rO hF;obtain⟨c,fs,vs,b,rfl,e2,rfl⟩:=vN e;obtain⟨a,ws,rfl,_,_,D,dx,hcl,ha,_⟩:=Kt.mp d1;obtain⟨F,hk⟩:=h c b e2 D hcl;exact⟨a,D,dx,b,rfl,aB _ _ _ _ ha,F,hk,q _ H1 s1 (ju.mpr rfl)⟩⟩
end
noncomputable def ug(val:Nat->Int):Nat->Int
 |0=>0
 |1=>val 0
 |n+2=>if val (n+1)>ug val (n+1)then val (n+1)else ug val (n+1)
noncomputable def mx:List D->Option (List Int)
 |[]=>some []
 |.int i::r=>(mx r).map (i::·)
 |_=>none
theorem sG:∀{xs:List D}{ns:List Int},mx xs=some ns->xs=ns.map .int
 |[],_,h=>by cases h;rfl
 |d::r,ns,h=>by
  cases d with
  |int i=>
   cases e:mx r with
   |none=>rw[show mx (.int i::r)=(mx r).map (i::·)from rfl,e]at h;cases h
   |some ms=>rw[show mx (.int i::r)=(mx r).map (i::·)from rfl,e]at h;cases h;rw[sG e];rfl
  |_=>cases h
noncomputable def rN(i:Int)(d:D):bx:=match d with
 |.lst xs=>(mx xs).map λns=>.int (if ns.length=0 then i else ug (λk=>ns.getD k 0) ns.length)
 |_=>none
section
variable{prog:Uc}{w:Ub}{A:Uj}{R:UH->gZ}{I:T7}{fp wr:aH}{n:Nat}{P:Nat->T5->Prop}{St:Nat->Ue->Prop}
theorem zP(W:Walks prog w A.in1 I fp wr n P St)(val:Nat->Int)(hv:∀i v,P i v->∃t,v=.int (val i) t)(dv:T5)(Z:T7)(hZ:Z∉fp):
  ∀(k j:Nat)(s:Ua)(cs:Array T5)(c:Nat),n-j=k->j<=n->St j s.heap->(cs=#[]/\j=0\/0<j/\∃t,cs=#[.int (ug val j) t,.int (ug val j) t])->
   s.heap.get? Z=some {cls:=.type "list",dict:=none,data:=.seq cs c,slots:=#[]}->
   (∀v h' tk,(n=0/\v=dv\/0<n/\∃t,v=.int (ug val n) t)->(∀b o,b∉wr->b≠Z->s.heap.get? b=some o->h'.get? b=some o)->R (.ok (.ret v)) {s with heap:=h',toks:=tk})->
   UI (model prog w) A (.builtin "max.loop" ⟨[.ref I,.none,.ref Z],[(Str.ofString "default",dv)]⟩) R s:=by
 have zw:Z∉wr:=λh=>hZ (W.sub _ h);have nm:(toString "max"++toString ".loop":String)="max.loop":=by
  decide
 intro k
 induction k with
 |zero=>
  intro j s cs c hk hj hst hcs hl hR;have en:j=n:=by omega
  subst en;refine Vn F.entry_max_loop ?_;rw[Around.under_plainId F.plain_max_loop _];refine Uw (m:=seqItems? (.ref Z)) (Vc hl rfl ?_);refine Uw (m:=tryCatch (pyNext (.ref I)) _)
   (Vp (W.done s _ _ hst λh' tk hk'=>?_))
  have hl':=hk' Z _ zw hl;rcases hcs with⟨rfl,rfl⟩|⟨hp,t,rfl⟩
  ·refine Uw (U9 ?_);exact Uv (hR dv h' tk (.inl ⟨rfl,rfl⟩) λb o hb _ e=>hk' b o hb e)
  ·refine Uw (m:=updateSeq Z λ_=>#[]) (Vq hl' rfl
    (Uw (Vi (Uv (hR _ _ tk (.inr ⟨hp,t,rfl⟩) λb o hb hz e=>?_)))))
   exact(Tu _ _ hz.symm).trans (hk' b o hb e)
 |succ k ih=>
  intro j s cs c hk hj hst hcs hl hR;have hlt:j<n:=by omega
  refine Vn F.entry_max_loop ?_;rw[Around.under_plainId F.plain_max_loop _];refine Uw (m:=seqItems? (.ref Z)) (Vc hl rfl ?_);refine Uw (m:=tryCatch (pyNext (.ref I)) _)
   (Vp (W.item j s _ _ hlt hst λv h' tk hP hst' hk'=>?_))
  have hl':=hk' Z _ zw hl;obtain⟨tv,rfl⟩:=hv j v hP;have next:∀(h2:Ue)(cs2:Array T5)(c2:Nat),(∀b o,b≠Z->h'.get? b=some o->h2.get? b=some o)->h2.get? Z=some {cls:=.type "list",dict:=none,data:=.seq cs2 c2,slots:=#[]}->(∃t,cs2=#[.int (ug val (j+1)) t,.int (ug val (j+1)) t])->
    UI (model prog w) A (.builtin "max.loop" ⟨[.ref I,.none,.ref Z],[(Str.ofString "default",dv)]⟩) R {s with heap:=h2,toks:=tk}:=λh2 cs2 c2 k2 l2 hc2=>by
   refine ih (j+1) _ cs2 c2 ‹0› hlt (W.frame _ _ _ hst' λb hb o e=>k2 b o (λz=>hZ (z ▸ hb)) e) (.inr ⟨by omega,hc2⟩) l2 λv' h'' tk'' hv' hk''=>?_;exact hR v' h'' tk'' hv' λb o hb hz e=>hk'' b o hb hz (k2 b o hz (hk' b o hb e))
  rcases hcs with⟨rfl,rfl⟩|⟨hp,t,rfl⟩
  ·refine Uw (Uv ?_);refine Uw (m:=updateSeq Z λ_=>#[.int (val 0) tv,.int (val 0) tv]) (Vq hl' rfl ?_);rw[nm];exact Uv ⟨Vr F.plain_max_loop _,next _ _ _ (λb o hz e=>(Tu _ _ hz.symm).trans e) (Tw _ hl' rfl) ⟨tv,rfl⟩⟩
  ·obtain⟨m,rfl⟩:∃m,j=m+1:=⟨j-1,by omega⟩
   refine Uw (Uv ?_);refine Uw (m:=tryCatch _ _) (Vp (U3
    (Uw (CmpOf.ints_gt (P:=λi v=>∃t,v=.int (if i=0 then val (m+1)else ug val (m+1)) t) (λi=>if i=0 then val (m+1)else ug val (m+1)) (λi v h=>h) 0 1 _ _ _ _ _ ⟨tv,rfl⟩ ⟨t,rfl⟩ ?_))))
   refine Uw (U3 (Ut ?_));refine Uw (Vi
    (Uv ?_))
   split
   ·rename_i hz;have hb:val (m+1)>ug val (m+1):=of_decide_eq_true (show decide (val (m+1)>ug val (m+1))=true from hz);refine Uw (m:=updateSeq Z λ_=>#[.int (val (m+1)) tv,.int (val (m+1)) tv])
     (Vq hl' rfl (Uw (Vi ?_)))
    rw[nm];exact Uv ⟨Vr F.plain_max_loop _,next _ _ _ (λb o hz e=>(Tu _ _ hz.symm).trans e) (Tw _ hl' rfl) ⟨tv,by rw[ug,if_pos hb]⟩⟩
   ·rename_i hz;have hb:¬val (m+1)>ug val (m+1):=λz=>hz (show decide (val (m+1)>ug val (m+1))=true from decide_eq_true z);refine Uw (Vi ?_);rw[nm];exact Uv ⟨Vr F.plain_max_loop _,next _ _ _ (λb o _ e=>e) hl' ⟨t,by rw[ug,if_neg hb]⟩⟩
theorem zF(a v:T5):argsOk "max" ⟨[a],[(Str.ofString "default",v)]⟩:=by
 unfold argsOk
 kernel_rfl
theorem Aa:Ui "max"=some (.builtin "max"):=by first|rfl|decide +kernel
theorem yX{E:bL}{s:Ua}{l:T7}{its:aS}{ns:List Int}{dv:T5}{Q:bL}(hh:A.handled=none)(hl:s.heap.IsList l its.toArray)(hi:∀(i:Nat)(v:T5),its[i]?=some v->∃t,v=.int (ns.getD i 0) t)(hn:its.length=ns.length)
  (hQ:∀v h' tk,(ns.length=0/\v=dv\/0<ns.length/\∃t,v=.int (ug (λk=>ns.getD k 0) ns.length) t)->(∀b o,s.heap.get? b=some o->h'.get? b=some o)->Q v {s with heap:=h',toks:=tk}):
  Um (model prog w) A (call (.builtin "max") [.ref l] [(Str.ofString "default",dv)]) Q E s:=by
 have nm:(toString "max"++toString ".loop":String)="max.loop":=by
  decide
 have hlt:l<s.heap.objs.size:=by obtain⟨_,e,_⟩:=hl;exact To e
 refine UR (Vk F.plain_max F.entry_max ?_);have go:Um (model prog w) A.in1 (Builtin.«max» ⟨[.ref l],[(Str.ofString "default",dv)]⟩) (λfin s'=>match fin with
   |.done f=>(match(Except.ok f:UH)with|.ok (.ret v)=>Q v s'|.ok _=>False|.error e=>E e s')
   |.again c'=>c'.quiet=true/\UI (model prog w) A c' (λr s'=>match r with|.ok (.ret v)=>Q v s'|.ok _=>False|.error e=>E e s') s') E s:=by
  show Um _ A.in1 (Builtin.Builtins.bindParams "max" ["key","default"] 0 ⟨[],[(Str.ofString "default",dv)]⟩ >>= _) _ _ s;refine Uw (wpAny_of_eq (show Builtin.Builtins.bindParams "max" ["key","default"] 0 ⟨[],[(Str.ofString "default",dv)]⟩=pure [none,some dv]from rfl) ?_);refine Uw (Uv ?_);refine Uw (Ux hl ?_);refine Uw (U7 ?_);rw[nm];have hne:l≠s.heap.objs.size:=Qg hlt;refine Uv ⟨Vr F.plain_max_loop _,zP (Walks.list (A:=A.in1) hh s.heap.objs.size l hne its.toArray) (λk=>ns.getD k 0) (λi v h=>hi i v (by simpa using h)) dv _ (λhm=>?_) _ 0 _ #[] _ rfl (QA _) ⟨⟨_,Tr _ (Ts _ rfl),rfl,rfl⟩,(hl.push _).push _⟩ (.inl ⟨rfl,rfl⟩) (Ts _ rfl) λv h' tk hv hk=>?_⟩
  ·simp only[Tt,Rz,RY,or_false]at hm;rcases hm with hm|hm
   ·exact Nat.succ_ne_self _ hm
   ·rw[<-hm]at hlt;exact Qf _ (Nat.lt_of_succ_lt hlt)
  ·have e:its.toArray.size=ns.length:=(by rw[Qs,hn]);rw[e]at hv;refine hQ v h' tk hv λb o q=>hk b o (λz=>?_) (λz=>?_) (Tr _ (Tr _ q))
   ·have h1:=To q;simp only[Rz,RY,or_false]at z;rw[z]at h1;exact Qf _ h1
   ·have h1:=To q;rw[z,Tt]at h1;exact Qf _ (Nat.lt_of_succ_lt h1)
 simp only[checkBuiltinCall,F.kind_max];cases hsig:Manifest.signature? "max"with
 |none=>exact Uv go
 |some sig=>
  have ha:Bind.checkArgs "max" sig ⟨[.ref l],[(Str.ofString "default",dv)]⟩=pure ():=by
   have:=zF (.ref l) dv
   unfold argsOk at this;rw[hsig]at this;exact this
  simp only[ha];exact Uv go
end
section
variable{X:Cx}{p pos kp:Pos}{e:T8}
theorem xF{K:Sn}{H:Hp}:∀{ns:List Int}{ys:aI}{its:aS},aN K H (ns.map .int) ys->Vals ys its->∀(k:Nat)(v:T5),its[k]?=some v->∃t,v=.int (ns.getD k 0) t
 |[],ys,its,h,r,k,v,e=>by
  rw[QR,cj]at h;subst h;cases r;simp at e
 |n::ns,ys,its,h,r,k,v,e=>by
  rw[Qw,aX]at h;obtain⟨y,ys',rfl,h1,h2⟩:=h;cases r with
  |cons r1 r2=>
   cases k with
   |zero=>
    rw[eZ]at h1;subst h1;obtain⟨t,rfl⟩:=r1;simp at e;exact⟨t,e.symm⟩
   |succ k=>
    simp only[RD]at e;exact xF h2 r2 k v e
end
end TG
namespace TG
open PySem PySem.Spec L2
variable[ay]
end TG
namespace TG
open PySem PySem.Spec L2
open PySem PySem.Spec PyProof.Rows PySem.W L2
variable[ay]
end TG
namespace TG
open PySem PySem.Spec PyProof.Rows PySem.W L2
variable[ay]
end TG
namespace TG
open PySem PySem.Spec PyProof.Rows PySem.W L2
variable[ay]
end TG
namespace TG
open PySem PySem.Spec PyProof.Rows PySem.W L2
end TG
namespace TG
open PySem PySem.Spec PySem.Calls L2
open PySem.SeqAt (EqAt list_indexAt)
variable[ay]
section
variable{X:Cx}{p pos:Pos}{e:T8}
theorem B3{pins:aU}{σ:L2.St}{H:Hp}{s:Ua}(I:Inv X pins σ H s){xd:D}{x:V}{u:T5}{A:Uj}(px:pl xd=true)(hd:cV 8 xd=true)(hx:cf X.K H xd x)(ru:RelV x u)(hA:A.units+8<UO){ys:List D}{vs:aI}{its:aS}(py:lu ys=true)(hy:aN X.K H ys vs)(rv:Vals vs its):
  ∃e:T5->Bool,(∀y,y∈its.toArray->EqAt A s y u (e y))/\∀(j:Nat)(d:D)(w:T5),ys[j]?=some d->its[j]?=some w->e w=pyEq d xd:=by
 classical
 let e:T5->Bool:=λy=>decide (∃d w,pl d=true/\cf X.K H d w/\RelV w y/\pyEq d xd=true)
 have he:∀d w y,pl d=true->cf X.K H d w->RelV w y->e y=pyEq d xd:=λd w y h0 h1 h2=>by
  cases hq:pyEq d xd with
  |true=>exact decide_eq_true ⟨d,w,h0,h1,h2,hq⟩
  |false=>
   refine decide_eq_false ?_;rintro⟨d',w',g0,g1,g2,g3⟩;have ew:=RelV.inj h2 g2;subst ew;rw[Inv.den_inj I h0 g0 h1 g1,g3]at hq;cases hq
 refine⟨e,λy hy'=>?_,λj d w e1 e2=>?_⟩
 ·have hm:y∈its:=by simpa using hy'
  obtain⟨j,hj,rfl⟩:=Rn hm;obtain⟨w,e1,r1⟩:=kN rv (j:=j) (by simpa using hj);obtain⟨d,f1,g1⟩:=kJ hy e1;have r1':RelV w its[j]:=by simpa using r1
  have pd:=ik py _ (QJ f1);rw[he d w _ pd g1 r1'];exact vQ I 8 d xd w x _ u A pd px (.inr hd) g1 hx r1' ru hA
 ·obtain⟨v,f1,f2⟩:=hy.get e1;obtain⟨w',f3,f4⟩:=rv.get f1;rw[e2]at f3;cases f3;exact he d v w (ik py _ (QJ e1)) f2 f4
noncomputable def uG(x:D):List D->Option Nat
 |[]=>none
 |y::ys=>if pyEq y x then some 0 else(uG x ys).map (·+1)
theorem sk{x:D}:∀{ys:List D}{j:Nat},uG x ys=some j->∃h:j<ys.length,pyEq ys[j] x=true/\∀m (hm:m<ys.length),m<j->pyEq ys[m] x=false
 |[],_,h=>by cases h
 |y::ys,j,h=>by
  unfold uG at h;split at h
  ·rename_i e;cases h;exact⟨by simp,e,λm _ hm=>absurd hm (Nat.not_lt_zero _)⟩
  ·rename_i e;cases q:uG x ys with
   |none=>rw[q]at h;cases h
   |some i=>
    rw[q]at h;cases h;obtain⟨h1,h2,h3⟩:=sk q;refine⟨by simpa using h1,by simpa using h2,λm hm hlt=>?_⟩;cases m with
    |zero=>simpa using e
    |succ m=>
     have hlt:m+1<i+1:=hlt
     simpa using h3 m (by simpa using hm) ‹0›
noncomputable def AD(a b:D):bx:=match a with
 |.lst ys=>if(pl b&&lu ys)&&cV 8 b then(uG b ys).map (λ(j:Nat)=>D.int (j:Int))else none
 |_=>none
noncomputable def vS(f:FX)(g:aO):FX:=λρ=>(f ρ).bind λa=>match a with
 |.lst ys=>(g ρ).bind λds=>match ds with
  |[b]=>rO (AD (.lst ys) b)
  |_=>un
 |_=>un
noncomputable def GV(K:Sn):V->aI->Hp->VK->Prop:=λx xs H Q=>∃Hd a ys vs b v d,aQ Hd H/\x=.ref a/\xs=[v]/\lI K Hd a vs/\aN K H ys vs/\cf K H b v/\AD (.lst ys) b=some d/\∀w,cf K H d w->Q w H
theorem Av(hu:X.A.units+64<UO):LY X "list.index" (GV X.K):=by
 rintro pins s σ H x xs v us Q I rx rs ⟨Hd,a,ys,vs,b,y,d,sm,ex,exs,hl,dl,db,hg,q⟩;subst ex exs;cases rx;obtain⟨u,rfl,ru⟩:=vals1 rs;obtain⟨its,r,⟨o,n,ho,hc,hd',hdd⟩,hz⟩:=I.list (sm.seq hl);have hg':(if(pl b&&lu ys)&&cV 8 b then(uG b ys).map (λ(j:Nat)=>D.int (j:Int))else none)=some d:=hg;obtain⟨h1,h2⟩:((pl b&&lu ys)&&cV 8 b)=true/\(uG b ys).map (λ(j:Nat)=>D.int (j:Int))=some d:=by
  split at hg'
  ·rename_i z;exact⟨z,hg'⟩
  ·cases hg'
 rw[QN,QN]at h1;obtain⟨j,ej,ed⟩:=Option.map_eq_some_iff.mp h2;subst ed;obtain⟨hj,hit,hno⟩:=sk ej;obtain⟨e,he,hv⟩:=B3 (A:=X.A.in1) I h1.1.1 h1.2 db ru (by rw[in1_units];omega) h1.1.2 dl r;have l1:=dl.length;have l2:=r.length;have hj':j<its.length:=by omega
 obtain⟨oc,od,odt,osl⟩:=o;cases hc;cases hd';cases hdd;refine call_meets TY ⟨_,ho,rfl⟩ PySem.F.entry_list_index (PySem.F.args_list_index_2 _ _)
  (list_indexAt a its.toArray n none osl u e j (by simpa using hj') (by rw[PySem.sizeLine_eq]at hz;omega) ?_ ?_) ⟨ho,he,?_⟩
 ·have:=hv j ys[j] its[j] (by simp[hj]) (by simp[hj'])
  rw[hit]at this
  simpa using this
 ·intro m hm hlt;have hm':m<its.length:=by simpa using hm
  have:=hv m (ys[m]'‹0›) its[m] (by simp[show m<ys.length by omega]) (by simp[hm'])
  rw[hno m ‹0› hlt]at this
  simpa using this
 ·exact⟨.int j,H,I.tok _,⟨_,rfl⟩,q _ (eZ.mpr rfl)⟩
end
end TG
namespace TG
open PySem PySem.Spec L2
variable[ay]
noncomputable def An(a b:D):bx:=match a,b with
 |.lst xs,.lst ys=>if small (xs.length+ys.length)then some (.lst (xs++ys))else none
 |_,_=>none
end TG
namespace TG
open PySem PySem.Spec PySem.Calls L2
open PySem.SeqAt (EqAt list_countAt)
variable[ay]
noncomputable def lL:List D->List D->Option (List (Key×D))
 |[],[]=>some []
 |k::ks,d::ds=>(keyOf k).bind λk=>(lL ks ds).map ((k,d)::·)
 |_,_=>none
noncomputable abbrev lr(al:List (Key×D)):List D:=al.map λp=>dU p.1
noncomputable abbrev qD(al:List (Key×D)):D:=.dct (lr al) (al.map (·.2))
theorem lH(k:Key):keyOf (dU k)=some k:=by cases k<;>rfl
theorem B5{a b:Key}(h:dU a=dU b):a=b:=by
 have e:=congrArg keyOf h;rw[lH,lH]at e;exact Option.some.inj e
theorem ut:∀{ks ds:List D}{al:List (Key×D)},lL ks ds=some al->ks=lr al/\ds=al.map (·.2)
 |[],[],_,h=>by cases h;exact⟨rfl,rfl⟩
 |k::ks,d::ds,al,h=>by
  unfold lL at h;cases e1:keyOf k with
  |none=>rw[e1]at h;cases h
  |some k'=>
   rw[e1]at h;cases e2:lL ks ds with
   |none=>rw[e2]at h;cases h
   |some al'=>
    rw[e2]at h;cases h;obtain⟨h1,h2⟩:=ut e2;rw[qd e1,h1,h2];exact⟨rfl,rfl⟩
 |[],_::_,_,h=>by cases h
 |_::_,[],_,h=>by cases h
theorem rh:∀al:List (Key×D),lL (lr al) (al.map (·.2))=some al
 |[]=>rfl
 |p::r=>by
  show(keyOf (dU p.1)).bind _=_;rw[lH];show(lL (lr r) (r.map (·.2))).map ((p.1,p.2)::·)=_;rw[rh r];rfl
theorem qW:∀{al:List (Key×D)}{ks:List Key},lr al=ks.map dU->al.map (·.1)=ks
 |[],[],_=>rfl
 |p::r,k::ks,h=>by
  have h:dU p.1::lr r=dU k::ks.map dU:=h;injection h with h1 h2;rw[Qw,B5 h1,qW h2]
 |[],_::_,h=>by cases h
 |_::_,[],h=>by cases h
section
variable{κ:Type}[DecidableEq κ]
noncomputable def tu(al:List (κ×D))(k:κ)(v:D):List (κ×D):=if(al.any λp=>decide (p.1=k))=true then al.map (λp=>if p.1=k then(p.1,v)else p)else al++[(k,v)]
theorem yI{kvs:List (κ×V)}{al:List (κ×D)}(e:kvs.map (·.1)=al.map (·.1))(k:κ)(w:V)(d:D):(putK kvs k w).map (·.1)=(tu al k d).map (·.1):=by
 have e2:(kvs.any λp=>decide (p.1=k))=(al.any λp=>decide (p.1=k)):=by
  have:=congrArg (λl=>l.any λq=>decide (q=k)) e
  simpa [RP,Function.comp_def]using this
 unfold putK tu;rw[e2];split
 ·have e3:∀(l:List (κ×V)),(l.map λkv=>if kv.1=k then(kv.1,w)else kv).map (·.1)=l.map (·.1):=λl=>by
   rw[RZ];refine Rp λp _=>?_;show(if p.1=k then(p.1,w)else p).1=p.1;split<;>rfl
  have e4:∀(l:List (κ×D)),(l.map λkv=>if kv.1=k then(kv.1,d)else kv).map (·.1)=l.map (·.1):=λl=>by
   rw[RZ];refine Rp λp _=>?_;show(if p.1=k then(p.1,d)else p).1=p.1;split<;>rfl
  rw[e3,e4,e]
 ·rw[Rq,Rq,e];rfl
theorem qT{K:Sn}{H:Hp}{k:κ}{w:V}{d:D}(hw:cf K H d w):∀{kvs:List (κ×V)}{al:List (κ×D)},kvs.map (·.1)=al.map (·.1)->aN K H (al.map (·.2)) (kvs.map (·.2))->
  aN K H ((al.map λp=>if p.1=k then(p.1,d)else p).map (·.2)) ((kvs.map λp=>if p.1=k then(p.1,w)else p).map (·.2))
 |[],[],_,h=>h
 |p::r,q::r',e,h=>by
  rw[Qw,Qw]at e;injection e with e1 e2;rw[Qw,Qw,aX]at h;obtain⟨v,ws,h0,h1,h2⟩:=h;injection h0 with h0 h0';subst h0 h0';have ih:=qT (k:=k) hw e2 h2;rw[Qw,Qw,Qw,Qw,aX];refine⟨_,_,rfl,?_,ih⟩;rw[e1];split
  ·exact hw
  ·exact h1
 |[],_::_,e,_=>by cases e
 |_::_,[],e,_=>by cases e
theorem Bo{K:Sn}{H:Hp}{k:κ}{w:V}{d:D}(hw:cf K H d w){kvs:List (κ×V)}{al:List (κ×D)}(e:kvs.map (·.1)=al.map (·.1))(h:aN K H (al.map (·.2)) (kvs.map (·.2))):
  aN K H ((tu al k d).map (·.2)) ((putK kvs k w).map (·.2)):=by
 have e2:(kvs.any λp=>decide (p.1=k))=(al.any λp=>decide (p.1=k)):=by
  have:=congrArg (λl=>l.any λq=>decide (q=k)) e
  simpa [RP,Function.comp_def]using this
 unfold putK tu;rw[e2];split
 ·exact qT hw e h
 ·rw[Rq,Rq];exact h.append (aX.mpr ⟨w,[],rfl,hw,cj.mpr rfl⟩)
end
theorem xg{kvs:List (Key×V)}{al:List (Key×D)}(e:kvs.map (·.1)=al.map (·.1)):lr al=kvs.map λp=>dU p.1:=by
 have:=congrArg (List.map dU) e
 rw[RZ,RZ]at this;exact this.symm
section
variable{X:Cx}
noncomputable def Cq(a b:D):bx:=match a with
 |.lst ys=>if(pl b&&lu ys)&&cV 8 b then some (.int (ys.countP λy=>pyEq y b:Nat))else none
 |_=>none
noncomputable def wu(f:FX)(g:aO):FX:=λρ=>(f ρ).bind λa=>match a with
 |.lst ys=>(g ρ).bind λds=>match ds with
  |[b]=>rO (Cq (.lst ys) b)
  |_=>un
 |_=>un
noncomputable def Hr(K:Sn):V->aI->Hp->VK->Prop:=λx xs H Q=>∃Hd a ys vs b v d,aQ Hd H/\x=.ref a/\xs=[v]/\lI K Hd a vs/\aN K H ys vs/\cf K H b v/\Cq (.lst ys) b=some d/\∀w,cf K H d w->Q w H
theorem qj{α β:Type}{p:α->Bool}{q:β->Bool}:∀{xs:List α}{ys:List β},xs.length=ys.length->(∀(j:Nat)(x:α)(y:β),xs[j]?=some x->ys[j]?=some y->p x=q y)->xs.countP p=ys.countP q
 |[],[],_,_=>rfl
 |x::xs,y::ys,hl,h=>by
  rw[List.countP_cons,List.countP_cons,qj (by simpa using hl) λj a b e1 e2=>h (j+1) a b (by simpa using e1) (by simpa using e2),h 0 x y rfl rfl]
 |[],_::_,hl,_=>by cases hl
 |_::_,[],hl,_=>by cases hl
theorem A9(hu:X.A.units+64<UO):LY X "list.count" (Hr X.K):=by
 rintro pins s σ H x xs v us Q I rx rs ⟨Hd,a,ys,vs,b,y,d,sm,ex,exs,hl,dl,db,hg,q⟩;subst ex exs;cases rx;obtain⟨u,rfl,ru⟩:=vals1 rs;obtain⟨its,r,⟨o,n,ho,hc,hd',hdd⟩,hz⟩:=I.list (sm.seq hl);obtain⟨h1,h2⟩:=aY (show(if(pl b&&lu ys)&&cV 8 b then some (D.int (ys.countP λy=>pyEq y b:Nat))else none)=some d from hg);rw[QN,QN]at h1;subst h2;obtain⟨e,he,hv⟩:=B3 (A:=X.A.in1) I h1.1.1 h1.2 db ru (by rw[in1_units];omega) h1.1.2 dl r;have l1:=dl.length;have l2:=r.length;obtain⟨oc,od,odt,osl⟩:=o;cases hc;cases hd';cases hdd;refine call_meets TZ ⟨_,ho,rfl⟩ PySem.F.entry_list_count (PySem.F.args_list_count_2 _ _) (list_countAt a its.toArray n none osl u e) ⟨ho,he,?_⟩;have ec:its.toArray.toList.countP e=ys.countP λy=>pyEq y b:=by
  rw[show its.toArray.toList=its from rfl];exact qj ‹0› λj x d e1 e2=>hv j d x e2 e1
 rw[ec];exact⟨.int _,H,I.tok _,⟨_,rfl⟩,q _ (eZ.mpr rfl)⟩
end
end TG
namespace TG
open PySem PySem.Spec L2
variable[ay]
structure hV(k:Nat)(A:Uj):Prop where
 dp:A.depth+3*k+5<UN
 un:A.units+16*k+200<UO
theorem hV.mono{j k:Nat}{A:Uj}(r:hV k A)(h:j<=k):hV j A:=⟨by have:=r.dp;omega,by have:=r.un;omega⟩
theorem hV.deeper{k:Nat}{A:Uj}(r:hV (k+1) A)(env:Env):hV k (A.deeper env):=
 ⟨by have:=r.dp;show A.depth+1+3*k+5<_;omega,by have:=r.un;show A.units+3+16*k+200<_;omega⟩
theorem hV.depth{k:Nat}{A:Uj}(r:hV k A):A.depth<UN:=by have:=r.dp;omega
theorem hV.units{k:Nat}{A:Uj}(r:hV k A):A.units+64<UO:=by have:=r.un;omega
theorem hV.at{k:Nat}{A A':Uj}(r:fM k A)(h1:A'.depth=A.depth)(h2:A'.units=A.units):hV k A':=⟨by rw[h1];exact r.dp,by rw[h2];exact r.un⟩
noncomputable abbrev FR(P:Uc)(w:Ub)(K:Sn)(mg:bU)(base:Ue)(N:ax)(qual:Str)(scope:Uk)(f:T7)(cd:T5)(A:Uj)(outer:List Env)(s:Ua)(H:Hp)(E:XK):Cx:=
 {jg (kX P w) P w K mg base N qual scope f cd A outer s H E with calm:=false}
structure ux(P:Uc)(w:Ub)(K:Sn)(mg:bU)(base:Ue)(k:Nat)(f:T7)(fd:UP)(ps:ax)(sp:Sp):Prop where
 len:∀vs H Q E,sp vs H Q E->vs.length=ps.length
 run:∀(A:Uj)(outer:List Env)(s:Ua)(H:Hp)(args:Args)(us:aS)(vs:aI)(Q:VK)(E:XK),hV k A->sW P w K mg base A outer s H->UQ s fd args (ps.zip us)->Vals vs us->sp vs H Q E->
  UI (model P w) A (.call (.ref f) args) (CR (kX P w) outer P w H s Q E) s
section
variable{P:Uc}{w:Ub}{K:Sn}{mg:bU}{base:Ue}{N ps:ax}{qual:Str}{f:T7}
theorem wt{scope:Uk}{cd:T5}{A:Uj}{outer:List Env}{s s1:Ua}{H:Hp}{E:XK}{us:aS}{vs:aI}
  (S:bu N ps scope) (e0:sW P w K mg base A outer s H) (hl:vs.length=ps.length) (r:Vals vs us)
  (x:InCallC s s.heap.objs.size (bindL (TH qual scope s.heap.objs.size f cd).kindOf (ps.zip us) λ_=>none) (cellsFrom (s.heap.objs.size+1) scope.names []) (bindC (TH qual scope s.heap.objs.size f cd).kindOf (ps.zip us) λ_=>none) s1):
  L2.Inv (FR P w K mg base N qual scope f cd A outer s H E) [] (L2.start N vs) H s1:=by
 have e0':sW P w K mg base {A with handled:=none} outer s H:=⟨e0.frames,e0.mod,e0.bs,e0.bsz,e0.funs,e0.frf,e0.hok,e0.bare⟩
 have I:=rP (CX:=kX P w) (A:={A with handled:=none}) (E:=E) S rfl e0' hl r x;exact⟨⟨I.ok.mod,I.ok.kind,I.ok.glob,I.ok.blt,I.ok.above,I.ok.inj,I.ok.has,I.ok.cab,(λz=>nomatch z),I.ok.frames,I.ok.stk,I.ok.exf,I.ok.bs,I.ok.bsz,I.ok.noex,I.ok.exfs,I.ok.funs,I.ok.frf⟩,
  I.os,I.bare,I.base,I.loc,I.cell,I.free,I.freeC,I.pin,I.hok,I.len⟩
theorem G3{k:Nat}{name:Str}{params:Arguments}{body:dE}{scope:Uk}{dV kV doc pm cdv ct oc:T5}{an od:iq}
  {osl:Array (Option T5)} {sp:Sp} (lk:K.lookup f=some ⟨oc,od,.func (SV name qual params body scope dV kV doc pm an cdv ct),osl⟩) (hcd:SW K cdv qual=true) (S:bu N ps scope)
  (len:∀vs H Q E,sp vs H Q E->vs.length=ps.length)
  (hbody:∀ (A:Uj) (outer:List Env) (s:Ua) (H:Hp) (vs:aI) (Q:VK) (E:XK),hV k (A.deeper (TH qual scope s.heap.objs.size f cdv))->sp vs H Q E ->
   ∃t,uf (FR P w K mg base N qual scope f cdv A outer s H E) body t/\t {nx:=λ_ H'=>Q .non H',rt:=Q} (L2.start N vs) H):
  ux P w K mg base (k+1) f (SV name qual params body scope dV kV doc pm an cdv ct) ps sp:=by
 refine⟨len,λA outer s H args us vs Q E hr e0 hb r hsp=>?_⟩;have hl:=len _ _ _ _ hsp;have KX:K.In s.heap:=e0.mod.kin.keeps λb o e=>(e0.bs b o e).1;have lim:s.heap.NoLimit:=e0.mod.nolimit.keeps λb o e=>(e0.bs b o e).1;have hkind:∀y∈ps.zip us,scope.names.lookup y.1=some .local\/(scope.names.lookup y.1=some .cell/\((cellsFrom (s.heap.objs.size+1) scope.names []).lookup y.1).isSome=true):=λ⟨n,v⟩ hy=>by
  rcases S.par n (QD hy).1 with q|q
  ·exact .inl q
  ·exact .inr ⟨q,SU _ _ _ (.inl q)⟩
 refine codeAny_call_function hr.depth (KX _ _ lk) rfl S.co S.gen rfl (SY KX hcd) (hb _ _ _ _ ?_);refine UX S.kind hkind λenv he s1 x=>?_;subst he;refine⟨lim.keeps x.toInCall.keep,codeAny_func ?_⟩;obtain⟨t,ht,hq⟩:=hbody A outer s H vs Q E (hr.deeper _) hsp;have I:L2.Inv (FR P w K mg base N qual scope f cdv A outer s H E) [] (L2.start N vs) H s1:=wt S e0 hl r x;refine Up (ht [] s1 (L2.start N vs) H _ I hq) (λfl s' hs=>?_) λe s' hs=>hs;have fin:∀{σ':St}{H':Hp}{v:V}{u:T5},L2.Inv (FR P w K mg base N qual scope f cdv A outer s H E) [] σ' H' s'->RelV v u->Q v H'->CE outer P w H s Q u s':=
  λ{σ' H' v u} J rv q=>⟨v,H',J.os,J.bare,J.base,J.hok,rv,q⟩
 cases fl with
 |ret u=>
  obtain⟨v,σ',H',J,rv,q⟩:=hs;exact fin J rv q
 |next=>
  obtain⟨σ',H',J,q⟩:=hs;exact fin (v:=V.non) (u:=Value.none) J rfl q
 |brk=>
  obtain⟨_,_,_,q⟩:=hs;exact False.elim q
 |cont=>
  obtain⟨_,_,_,q⟩:=hs;exact False.elim q
structure uc(P:Uc)(w:Ub)(K:Sn)(mg:bU)(base:Ue)(k:Nat)(N:ax)(qual:Str)(st:T9)(f:T7)(B:bw):Prop where
 h:∀(cdv:T5)(A:Uj)(outer:List Env)(s:Ua)(H:Hp)(E:XK),hV k (A.deeper (TH qual (au st) s.heap.objs.size f cdv))->Uy (model P w) (A.deeper (TH qual (au st) s.heap.objs.size f cdv)) (TH qual (au st) s.heap.objs.size f cdv) (FR P w K mg base N qual (au st) f cdv A outer s H E).xe->
  Ke (FR P w K mg base N qual (au st) f cdv A outer s H E) (cY st) B
noncomputable def Bz(g:bD):bD:=λds=>zE (g ds)
theorem Ii{n:Nat}{g:bD}(h:Ar n g):Ar n (Bz g):=λds q=>h ds λz=>q (by unfold Bz;rw[z];rfl)
theorem Ax{x:Str}{st:T9}{fd:UP}{k:Nat}{B:bw}(F:mj K x qual st f fd)(SC:bu N ps (au st))(hb:uc P w K mg base k N qual st f B):
  ux P w K mg base (k+1) f fd ps (wa K ps.length (Bz (ao B ps.length N.length))):=by
 obtain⟨oc,od,kV,doc,pm,an,cdv,ct,osl,rfl,lk,hcd⟩:=F.ex;refine G3 lk hcd SC (λvs H Q E h=>?_) λA outer s H vs Q E hr h=>?_
 ·obtain⟨O,ds,h1,_⟩:=h;exact h1
 ·obtain⟨O,ds,h1,h2,h3,h4⟩:=h;have hl:ds.length=ps.length:=h3.length.trans h1;have e4:Bz (ao B ps.length N.length) ds=zE (B K0 (env0 N.length ds)):=by unfold Bz ao;rw[if_pos hl]
  rw[e4]at h4;refine⟨_,hb.h cdv A outer s H E hr PassesOwn.leaving H O,O,env0 N.length ds,K0,_,⟨pU h2 h3,⟨aQ.refl H,λ_ z=>z,λa z=>.inl z⟩,λi xs a e=>?_,λi d e=>by obtain⟨d',_,e2⟩:=gQ i _ e;cases e2⟩,rfl,?_⟩
  ·obtain⟨d',_,e2⟩:=gQ i _ e;cases e2
  ·generalize B K0 (env0 N.length ds)=r at h4;refine⟨λz=>by rw[z]at h4;exact h4,λO' ρ' σ' H' S e=>?_,λO' ρ' σ' H' S e=>?_,λO' ρ' σ' H' S e=>?_,λd O' v H' e b dv=>?_,λO' ρ' σ' H' x S e=>?_⟩
   ·have e:(.ok .non:R D)=r:=e;subst e;exact h4 .non H' S.base.same (jm.mpr rfl)
   ·have e:(un:R D)=r:=e;subst e;exact h4.elim
   ·have e:(un:R D)=r:=e;subst e;exact h4.elim
   ·subst e;exact h4 v H' b.same (dv.mono (gX b.sub))
   ·have e:(.error (some x):R D)=r:=e;subst e;exact h4.elim
noncomputable def ub(P:Uc)(w:Ub)(K:Sn)(mg:bU)(base:Ue)(k:Nat)(x:Str)(ps:ax)(g:bD):Prop:=
 ∃f fd,ux P w K mg base k f fd ps (wa K ps.length g)/\Binds K fd ps []/\SN K (.ref f)=true/\mg x=some (.ref f)
theorem wz{x:Str}{st:T9}{fd:UP}{k:Nat}{B:bw}(F:mj K x qual st f fd)(b:Binds K fd ps [])(m:mg x=some (.ref f))(SC:bu N ps (au st))(hb:uc P w K mg base k N qual st f B):
  ub P w K mg base (k+1) x ps (Bz (ao B ps.length N.length)):=⟨f,fd,Ax F SC hb,b,F.kp,m⟩
end
section
variable{X:Cx}{k:Nat}{f:T7}{fd:UP}{ps:ax}{sp:Sp}{x:Str}{p pos:Pos}{e:T8}{es:bi}{t:TA}
theorem DW{pins:aU}{σ:St}{H:Hp}{s:Ua}{Q:VK}{E:XK}{us:aS}{vs:aI}(F:ux X.prog X.w X.K X.mg X.base k f fd ps sp)(hr:hV k X.A)(hb:Binds X.K fd ps [])(hx:iN (kX X.prog X.w) X σ E)
  (I:L2.Inv X pins σ H s) (r:Vals vs us) (h:sp vs H Q E):Um (model X.prog X.w) X.A (call (.ref f) us) (EP X pins σ Q) X.xe s:=by
 have hl:(us++[]).length=ps.length:=by rw[QB,<-r.length];exact F.len _ _ _ _ h
 have hb':=hb s us I.kIn hl;rw[QB]at hb';refine UR (UT (F.run X.A X.stack s H ⟨us,[]⟩ us vs Q E hr I.env0 hb' r h) λr s' hq=>?_);cases r with
 |error e=>exact hx pins H s e s' I hq
 |ok fl=>
  cases fl with
  |ret u=>exact I.after hq
  |next=>exact False.elim hq
  |brk=>exact False.elim hq
  |cont=>exact False.elim hq
theorem CH(F:ux X.prog X.w X.K X.mg X.base k f fd ps sp)(hr:hV k X.A)(hg:Gl X x)(hm:X.mg x=some (.ref f))(hk:SN X.K (.ref f)=true)(hb:Binds X.K fd ps [])
  (ha:PA X (e::es) t) (hdb:(x==("__debug__":Str))=false:=by decide) (he:Uo (e::es) X.env=(false,eval e X.env)::Uo es X.env:=by rfl) (hpl:(backTo pos (Uo es X.env)).any (·.1)=false:=by rfl):
  PE X (.Call (.Name x p) (e::es) [] pos) (wH X sp t):=by
 intro pins s σ H Q I h;refine UU (hW I hg hm ?_ hdb);refine SR (h₀:=X.base) I.ok.mod.kin hk (cu (ha pos pins s σ H _ I h) λus s1 ⟨vs,H1,I1,r,E,hx,q⟩=>⟨I1.kIn,?_⟩) he hpl;exact DW F hr hb hx I1 r q
end
end TG
namespace TG
open PySem PySem.Spec PySem.Calls L2
variable[ay]
end TG
namespace TG
open PySem PySem.Spec L2
variable[ay]
end TG
namespace TG
open PySem PySem.Spec L2
variable[ay]
end TG
namespace TG
open PySem PySem.Spec L2
variable[ay]
end TG
namespace TG
open PySem PySem.Spec PySem.Calls L2
variable[ay]
end TG
namespace TG
open PySem PySem.Spec L2
variable[ay]
end TG
namespace TG
open PySem PySem.Spec L2
variable[ay]
end TG
namespace TG
open PySem PySem.Spec L2
variable[ay]
end TG
namespace TG
open PySem PySem.Spec L2
variable[ay]
end TG
namespace TG
open PySem PySem.Spec PySem.Calls L2
variable[ay]
end TG
namespace L2
open PySem PySem.Spec PyProof.Rows
end L2
namespace TG
open PySem PySem.Spec L2
variable[ay]
end TG
namespace TG
open PySem PySem.Spec L2
variable[ay]
end TG
namespace TG
open PySem PySem.Spec L2
section
variable{prog:Uc}{w:Ub}{A:Uj}{E:bL}{h:Ue}{g:Array GenState}{d:Drawn}{t:Nat}{os:OsState}
variable{nm q:Str}{C N:T7}{bs bm bmB:aS}{hdct:Bool}{sn:ax}{sub:aS}{ab:Bool}{col:Option Bool}{dd:iq}{k0 k1 k2 k3 k5:Option T5}{B Bn newId nid initId inN:String}{bmN:aS}{mN:bU}{us:aS}{fI:T7}{oI:Obj}
theorem uD{Q:PySem.Fin->gZ}(Fn:Vs Bn newId inN bmN)(hb:bmB.contains (.type Bn)=true)(F:Vs B nid initId bmB)(T:OwnTail h bmB bm)
  (hC:h.get? C=some (excClassObj nm q C N bs bm hdct sn sub ab col dd k0 k1 k2 k3 k5 newId)) (hn:h.Ns N mN) (hi:mN "__init__"=some (.ref fI)) (hf:h.get? fI=some oI) (hc:oI.cls=.type "function")
  (hq:∀h' e,TB h h' e (.ref C) us->Um (model prog w) A (call (.ref fI) (.ref e::us)) (λr s'=>r=.none/\Q (.done (.ret (.ref e))) s') E ⟨h',g,d,t,os⟩) (hl:us.length<=Ug):
  Um (model prog w) A (Builtin.«type.__call__» ⟨.ref C::us,[]⟩) Q E ⟨h,g,d,t,os⟩:=by
 repeat (first|with_reducible refine Vt hC ?_|with_reducible refine wpAny_madeBy_exc hC ?_|wp_step)
 refine codeAny_call_builtin_code (Code.quiet_builtin _ Fn.quiet) (wpAny_check_new_subU Fn hb T hC (codeAny_exc_new_subU Fn hb F T hC ?_ hl));show Um _ _ _ _ _ _;obtain⟨o1,e1⟩:∃o:Obj,o={cls:=.type "tuple",data:=.seq us.toArray}:=⟨_,rfl⟩
 obtain⟨o2,e2⟩:∃o:Obj,o={cls:=.ref C,data:=.fields #[.ref h.objs.size,.none,.none,.none,.bool false,.none]}:=⟨_,rfl⟩
 rw[<-e1,<-e2];have up:∀b o,h.get? b=some o->((h.push o1).push o2).get? b=some o:=λb o z=>Tr _ (Tr _ z);have hC1:=up _ _ hC;have hf1:=up _ _ hf;have hn1:((h.push o1).push o2).Ns N mN:=let ⟨o,es,ep,z,r⟩:=hn;⟨o,es,ep,up _ _ z,r⟩
 have hg:((h.push o1).push o2).get? (h.objs.size+1)=some o2:=Tz (by simp only[Tt]) (by rw[e2];rfl);have hg1:((h.push o1).push o2).get? h.objs.size=some o1:=Tr _ (Tz rfl (by rw[e1];rfl));have cc:(Value.ref C::bm).contains (.ref C)=true:=by simp
 have T1:=T.keeps (h':=(h.push o1).push o2) up;subst e2;unfold isInstance
 repeat (first|with_reducible refine Vt hg ?_|(with_reducible refine wpAny_isSubtype_exc hC1 ?_;rw[cc])|wp_step)
 show Um _ _ (typeLookup (.ref C) _) _ _ _;refine wpAny_typeLookup_tail hC1 hn1 T1 F.mroIs F.init.lookup ?_;rw[hi];refine U3 (Uw ?_);unfold bindSpecial;refine Uw (U6 (T:="function") ⟨_,hf1,hc⟩ ?_);rw[if_pos (by decide)];subst e1;refine Uv (Uw (Up (hq _ (h.objs.size+1) ⟨up,Tp (QC _),h.objs.size,hg,Tp (Qq _),hg1⟩) (λr s' hr=>?_) λ_ _ x=>x));obtain⟨rfl,hQ⟩:=hr
 wp_walk
 exact hQ
theorem qu{Q:bL}(Fn:Vs Bn newId inN bmN)(hb:bmB.contains (.type Bn)=true)(F:Vs B nid initId bmB)(T:OwnTail h bmB bm)
  (hC:h.get? C=some (excClassObj nm q C N bs bm hdct sn sub ab col dd k0 k1 k2 k3 k5 newId)) (hn:h.Ns N mN) (hi:mN "__init__"=some (.ref fI)) (hf:h.get? fI=some oI) (hc:oI.cls=.type "function")
  (hq:∀h' e,TB h h' e (.ref C) us->Um (model prog w) (A.under (.builtin "type.__call__" ⟨.ref C::us,[]⟩)) (call (.ref fI) (.ref e::us)) (λr s'=>r=.none/\Q (.ref e) s') E ⟨h',g,d,t,os⟩) (hl:us.length<=Ug):
  Um (model prog w) A (call (.ref C) us) Q E ⟨h,g,d,t,os⟩:=by
 have f1:=tc_lookup;have f2:=tc_bind (.ref C);have hT:(⟨h,g,d,t,os⟩:Ua).TypeIs (.ref C) "type":=⟨_,hC,rfl⟩
 refine UR (codeAny_of_tree ?_);show Um _ _ (callAny (.ref C) _) _ _ _
 repeat (any_goals (first|assumption|with_reducible refine Vt hC ?_|wp_step))
 exact⟨rfl,codeAny_call_builtin_at (Code.quiet_builtin _ (by decide +kernel)) entry_typeCall (wpAny_check_type_call_sub hC (uD Fn hb F T hC hn hi hf hc (λh' e hm=>hq h' e hm) hl))⟩
end
variable[ay]
noncomputable abbrev KY(a0:T7):Data:=.fields #[.ref a0,.none,.none,.none,.bool false,.none]
noncomputable def qB(C e a0:T7):(T7->Prop)->Ue->Prop:=λ_ h=>∃o,h.get? e=some o/\o.cls=.ref C/\o.data=KY a0/\o.dict=none
noncomputable def iu(C e a0 d:T7)(fs:List (Str×V)):(T7->Prop)->Ue->Prop:=λS h=>∃o mA,h.get? e=some o/\o.cls=.ref C/\o.data=KY a0/\o.dict=some d/\S d/\d≠e/\h.Ns1 d mA/\∀f,pW (fs.lookup f) (mA f)
theorem HK{h h':Ue}{d:T7}{mA:bU}(n:h.Ns1 d mA)(k:∀o,h.get? d=some o->h'.get? d=some o):h'.Ns1 d mA:=n.at k
theorem EF{P:Uc}{w:Ub}{H:Hp}{h:Ue}{C e a0:T7}(x:qB C e a0 (λb=>H b=some (.own e)) h):cq P w H h e (.ext (qB C e a0)):=by
 refine⟨x,let ⟨o,q,_⟩:=x;⟨o,q⟩,λS1 S2 h1 h2 z s12 k=>?_⟩;obtain⟨o,q1,q2⟩:=z;exact⟨o,k _ _ (.inl rfl) q1,q2⟩
theorem wR{P:Uc}{w:Ub}{H:Hp}{h:Ue}{C e a0 d:T7}{fs:List (Str×V)}(x:iu C e a0 d fs (λb=>H b=some (.own e)) h):cq P w H h e (.ext (iu C e a0 d fs)):=by
 refine⟨x,let ⟨o,_,q,_⟩:=x;⟨o,q⟩,λS1 S2 h1 h2 z s12 k=>?_⟩;obtain⟨o,mA,q1,q2,q3,q4,q5,q6,q7,q8⟩:=z;exact⟨o,mA,k _ _ (.inl rfl) q1,q2,q3,q4,s12 _ q5,q6,HK q7 λo e=>k _ _ (.inr q5) e,q8⟩
section
variable{X:Cx}{pins:aU}{σ:St}{H:Hp}{s:Ua}{A:Uj}{E:bL}{C e a0:T7}{fs:List (Str×V)}{f:Str}{y:V}{u:T5}{Q:Unit->gZ}
theorem uL{fs:List (Str×V)}{f:Str}(y:V)(h:(fs.map (·.1)).contains f=false)(g:Str):(fs++[(f,y)]).lookup g=if g=f then some y else fs.lookup g:=by
 induction fs with
 |nil=>
  show List.lookup g [(f,y)]=_;rw[QW];by_cases z:g=f
  ·rw[if_pos z,z,beq_self_eq_true]
  ·rw[if_neg z,beq_eq_false_iff_ne.mpr z]
 |cons p r ih=>
  rw[Qw,RK,RL]at h;rw[QZ,QW,QW,ih h.2];have ne:f≠p.1:=by simpa using h.1
  cases q:(g==p.1)with
  |false=>rfl
  |true=>
   have:=beq_iff_eq.mp q
   have nf:¬g=f:=λz=>ne (z.symm.trans this);show some p.2=if g=f then some y else some p.2
   rw[if_neg nf]
theorem lookup_mem{fs:List (Str×V)}{g:Str}{v:V}(h:fs.lookup g=some v):g∈fs.map (·.1):=by
 induction fs with
 |nil=>cases h
 |cons p r ih=>
  rw[QW]at h;cases q:(g==p.1)with
  |true=>rw[Qw,beq_iff_eq.mp q];exact Qk
  |false=>rw[q]at h;exact Ql _ (ih h)
theorem tQ(I:Inv X pins σ H s)(e1:H e=some (.ext (qB C e a0)))(Z:FY X.K C)(n:b8 X.K C f)(ry:RelV y u)
  (h0:∀d s',H d=none->d≠e->Inv X pins σ (upd (upd H d (.own e)) e (.ext (iu C e a0 d [(f,y)]))) s'->Q () s'):Um (model X.prog X.w) A (setAttr (.ref e) f u) Q E s:=by
 obtain⟨⟨o,q1,q2,q3,q6⟩,_,_⟩:=(show cq X.prog X.w H s.heap e (.ext (qB C e a0))from I.hok e _ e1)
 refine A7 Z I.kIn q1 q2 q3 q6 n λh' n2 s2=>h0 s.heap.objs.size _ (I.hok.fresh (Qq _)) (Ne.symm (Qg (To q1))) ?_;have ne:e≠s.heap.objs.size:=Qg (To q1);have I1:=I.laid (a:=s.heap.objs.size) (o:=.own e) (h':=s.heap.push {cls:=.type "dict",data:=.dict #[]}) (t':=s.toks) (λb o z=>Tr _ z) (Qq _) ⟨_,Ts s.heap rfl⟩;have g1:(s.heap.push {cls:=.type "dict",data:=.dict #[]}).get? e=some o:=Tr _ q1;have g2:((s.heap.push {cls:=.type "dict",data:=.dict #[]}).update e λo=>{o with dict:=some s.heap.objs.size}).get? e=some {o with dict:=some s.heap.objs.size}:=Tw (λo=>{o with dict:=some s.heap.objs.size}) g1 (Obj.isFreed_of_fields (o:={o with dict:=some s.heap.objs.size}) q3);have I2:=I1.write (x:=e) (e:=e) (o:=.ext (u6 C e (some s.heap.objs.size))) (t':=s.toks) (h':=(s.heap.push {cls:=.type "dict",data:=.dict #[]}).update e λo=>{o with dict:=some s.heap.objs.size}) (by rw[aw ne,e1];trivial) (.inl rfl) (λb u nb z=>(Tx _ _ _ _ nb).trans z) ⟨_,g2⟩
  ⟨⟨_,g2,q2,rfl,by unfold S3;rw[q3]⟩,⟨_,g2⟩,λ_ _ h1 h2 ⟨o,z1,z2⟩ _ k=>⟨o,k _ o (.inl rfl) z1,z2⟩⟩
 have g3:h'.get? e=some {o with dict:=some s.heap.objs.size}:=(s2.2 e ne).trans g2;have I3:=I2.write (x:=e) (e:=s.heap.objs.size) (o:=.ext (iu C e a0 s.heap.objs.size [(f,y)])) (t':=s.toks+2) (h':=h') (by rw[aA];trivial) (.inr (by rw[aw ne.symm,aA])) (λb u nb z=>(s2.2 b nb).trans z) (let ⟨o,_,_,z,_⟩:=n2;⟨o,z⟩)
  (wR ⟨_,_,g3,q2,q3,rfl,by dsimp only;rw[aw ne.symm,aw ne.symm,aA],ne.symm,n2,λg=>?_⟩)
 ·rw[lS]at I3;exact I3
 ·rw[QW];by_cases z:g=f
  ·rw[if_pos z,z];simpa [pW]using ry
  ·rw[if_neg z,beq_eq_false_iff_ne.mpr z];trivial
theorem sX{d:T7}(I:Inv X pins σ H s)(e1:H e=some (.ext (iu C e a0 d fs)))(Z:FY X.K C)(n:b8 X.K C f)(hl:fs.length<1000)(hc:(fs.map (·.1)).contains f=false)(ry:RelV y u)
  (h1:∀s',Inv X pins σ (upd H e (.ext (iu C e a0 d (fs++[(f,y)])))) s'->Q () s'):Um (model X.prog X.w) A (setAttr (.ref e) f u) Q E s:=by
 obtain⟨⟨o,mA,q1,q2,q3,p1,p2,p3,p4,p5⟩,_,_⟩:=(show cq X.prog X.w H s.heap e (.ext (iu C e a0 d fs))from I.hok e _ e1)
 have wi:PySem.Within mA (fs.map (·.1)):=λg hg=>by
  cases z:fs.lookup g with
  |none=>have:=p5 g;rw[z]at this;exact absurd (pW.none_of this) hg
  |some v=>exact lookup_mem z
 refine BW Z I.kIn q1 q2 (by unfold S3;rw[q3]) p1 p4 n wi (by rw[Qx,UC];omega) λh' n2 s2=>h1 _ ?_;refine I.write (x:=e) (e:=d) (t':=s.toks+2) (by rw[e1];trivial) (.inr p2) (λb u nb z=>(s2.2 b nb).trans z) (let ⟨o,_,_,z,_⟩:=n2;⟨o,z⟩) (wR ⟨o,_,(s2.2 e p3.symm).trans q1,q2,q3,p1,by dsimp only;rw[aw p3];exact p2,p3,n2,λg=>?_⟩);rw[uL y hc];by_cases z:g=f
 ·rw[if_pos z,if_pos z];exact ry
 ·rw[if_neg z,if_neg z];exact p5 g
end
noncomputable def JR(K:Sn)(ta tv:TE)(f:Str):TS:=λD σ H=>tv σ H λy H1=>ta σ H1 λx H2=>∃e C a0,x=.ref e/\FY K C/\b8 K C f/\
  ((H2 e=some (.ext (qB C e a0))/\∀ d,H2 d=none->d≠e->D.nx σ (upd (upd H2 d (.own e)) e (.ext (iu C e a0 d [(f,y)])))) \/
   ∃d fs,H2 e=some (.ext (iu C e a0 d fs))/\fs.length<1000/\(fs.map (·.1)).contains f=false/\D.nx σ (upd H2 e (.ext (iu C e a0 d (fs++[(f,y)])))))
section
variable{X:Cx}
theorem xO{o value:T8}{f:Str}{pos pos':Pos}{ta tv:TE}(ha:PE X o ta)(hv:PE X value tv)(hs:swapsWith value (some (.Attribute o f pos')) pos.line X.env=pure false):PS X (.Assign [.Attribute o f pos'] value pos) (JR X.K ta tv f):=by
 intro pins s σ H D I h;refine UK (cu (hv pins s σ H _ I h) λu s1 h1=>?_) hs;obtain⟨y,H1,I1,ry,q⟩:=h1;refine cu (ha pins s1 σ H1 _ I1 q) λov s2 h2=>?_;obtain⟨x,H2,I2,rx,e,C,a0,ex,Z,n,q⟩:=h2;subst ex;obtain rfl:ov=Value.ref e:=rx;rcases q with⟨ea,q⟩|⟨d,fs,ea,l,nc,q⟩
 ·exact tQ I2 ea Z n ry λd s3 hd ne I3=>⟨σ,_,I3,q d hd ne⟩
 ·exact sX I2 ea Z n l nc ry λs3 I3=>⟨σ,_,I3,q⟩
noncomputable def wW(X:Cx)(body:dE)(fs:ax)(i:Nat):Prop:=
 ∃t,uf X body t/\∀(D:Ends)(σ:St)(H:Hp)(e C a0:T7)(as:aI),σ[0]?=some (some (.ref e))->(∀j v,as[j]?=some v->σ[i+j]?=some (some v))->as.length=fs.length->FY X.K C->(∀f∈fs,b8 X.K C f)->
  (fs.length<1000->fs.Nodup->H e=some (.ext (qB C e a0))->(∀d,H d=none->d≠e->D.nx σ (upd (upd H d (.own e)) e (.ext (iu C e a0 d (fs.zip as)))))->t D σ H)/\
  ∀d done,done.length+fs.length<1000->(done.map (·.1)++fs).Nodup->H e=some (.ext (iu C e a0 d done))->D.nx σ (upd H e (.ext (iu C e a0 d (done++fs.zip as))))->t D σ H
theorem Ft{done:List (Str×V)}{f:Str}{fs:ax}(nd:(done.map (·.1)++f::fs).Nodup):(done.map (·.1)).contains f=false:=by
 rw[RM]at nd;cases hc:(done.map (·.1)).contains f with
 |false=>rfl
 |true=>exact absurd rfl (nd.2.2 f (List.contains_iff_mem.mp hc) f Qk)
theorem qU{st:T9}{f:Str}{i:Nat}{o v:T8}{p1 p2:Pos}(hst:st=.Assign [.Attribute o f p1] v p2)(ho:PE X o (pF 0))(hv:PE X v (pF i))(hs:swapsWith v (some (.Attribute o f p1)) p2.line X.env=pure false):wW X [st] [f] i:=by
 subst hst;refine⟨_,sY (xO ho hv hs),λD σ H e C a0 as h0 ha hl Z na=>?_⟩;obtain⟨a,rfl⟩:=List.length_eq_one_iff.mp hl;exact⟨λ_ _ hx q=>⟨a,ha 0 a rfl,.ref e,h0,e,C,a0,rfl,Z,na f Qk,.inl ⟨hx,q⟩⟩,λd done hz nd hx q=>⟨a,ha 0 a rfl,.ref e,h0,e,C,a0,rfl,Z,na f Qk,.inr ⟨d,done,hx,by simp at hz;omega,Ft nd,q⟩⟩⟩
theorem qf{st:T9}{rest:dE}{f:Str}{fs:ax}{i:Nat}{o v:T8}{p1 p2:Pos}(hst:st=.Assign [.Attribute o f p1] v p2)(ho:PE X o (pF 0))(hv:PE X v (pF i))(hs:swapsWith v (some (.Attribute o f p1)) p2.line X.env=pure false)(hr:wW X rest fs (i+1)):wW X (st::rest) (f::fs) i:=by
 subst hst;obtain⟨t,ht,hq⟩:=hr;refine⟨_,o6 (xO ho hv hs) ht,λD σ H e C a0 as h0 ha hl Z na=>?_⟩;cases as with
 |nil=>cases hl
 |cons a as=>
  have nx:∀j v,as[j]?=some v->σ[i+1+j]?=some (some v):=λj v z=>by
   have:=ha (j+1) v z
   rw[show i+1+j=i+(j+1)by omega];exact this
  have na':∀g∈fs,b8 X.K C g:=λg hg=>na g (Ql _ hg);refine⟨λhz nd hx q=>⟨a,ha 0 a rfl,.ref e,h0,e,C,a0,rfl,Z,na f Qk,.inl ⟨hx,λd hd ne=>?_⟩⟩,λd done hz nd hx q=>⟨a,ha 0 a rfl,.ref e,h0,e,C,a0,rfl,Z,na f Qk,.inr ⟨d,done,hx,by omega,Ft nd,?_⟩⟩⟩
  ·exact(hq D σ _ e C a0 as h0 nx (Nat.succ.inj hl) Z na').2 d [(f,a)] (by rw[QQ];rw[Qv]at hz;omega) nd aA (by rw[lS];exact q d hd ne)
  ·exact(hq D σ _ e C a0 as h0 nx (Nat.succ.inj hl) Z na').2 d (done++[(f,a)]) (by rw[QK,QQ];rw[Qv]at hz;omega) (by rw[Rq,Rx];exact nd) aA (by rw[lS,Rx];exact q)
end
noncomputable def NX(C:T7)(fs:ax):Sp:=λvs H Q _=>∃e a0 as,vs=.ref e::as/\as.length=fs.length/\H e=some (.ext (qB C e a0))/\∀d,H d=none->d≠e->Q .non (upd (upd H d (.own e)) e (.ext (iu C e a0 d (fs.zip as))))
structure Kg(K:Sn)(C f:T7):Prop where
 cls:∃nm q N bs bm hdct sn sub ab col dd k0 k1 k2 k3 k5,∀h,K.In h->h.get? C=some (excClassObj nm q C N bs bm hdct sn sub ab col dd k0 k1 k2 k3 k5 "ValueError.__new__")/\(∃mN,h.Ns N mN/\mN "__init__"=some (.ref f))/\OwnTail h CQ bm
 fn:SE K (.ref f)=some (.type "function")
 st:FY K C
 kp:SN K (.ref C)=true
noncomputable def tI(K:Sn)(C:T7)(f:T7):Bool:=match K.lookup C with
 |some ⟨.type "type",_,.cls k,slots⟩=>(match k.mro,slots.toList with
  |.ref c0::tl,[_,_,_,_,some (.builtin j),_]=>c0==C&&(j=="ValueError.__new__"&&(!k.hasDel&&(PySem.W.tailIn K CQ tl&&(PySem.W.nsOkIn K k.ns&&S0 K k.ns "__init__"==some (some (.ref f))))))
  |_,_=>false)
 |_=>false
theorem Jz{K:Sn}{h:Ue}{N:T7}{m:bU}{n:Str}{v:T5}(X:K.In h)(G:h.Ns N m)(e:S0 K N n=some (some v)):m n=some v:=by
 obtain⟨o,es,ep,g1,g2,_,g3⟩:=G;unfold S0 at e;split at e
 ·rename_i look;have z:=X _ _ look;rw[g1]at z;cases z;cases g2;rw[<-g3];unfold nsFind findBy;rw[<-Array.find?_toList];split at e
  ·rename_i y;rw[y];cases e;rfl
  ·split at e<;>cases e
 ·cases e
theorem By{K:Sn}{C f:T7}(q:tI K C f=true)(fn:SE K (.ref f)=some (.type "function"))(st:FY K C)(kp:SN K (.ref C)=true):Kg K C f:=by
 refine⟨?_,fn,st,kp⟩;unfold tI at q;split at q
 ·rename_i od data slots look;split at q
  ·rename_i C0 tl s0 s1 s2 s3 nid s5 e1 e2;simp only[QN,beq_iff_eq,RX]at q;obtain⟨y1,y2,y3,y4,y5,y6⟩:=q;subst y1 y2;obtain⟨d1,d2,d3,d4,d5,d6,d7,d8,d9,d10,d11⟩:=data;dsimp only at e1 y3 y5 y6;subst e1 y3;have hs:slots=#[s0,s1,s2,s3,some (.builtin "ValueError.__new__"),s5]:=by
    cases slots with
    |mk l=>rw[show l=_ from e2]
   subst hs;exact⟨d1,d5,d4,d2,tl,d6,d7,d8,d9,d10,od,s0,s1,s2,s3,s5,λh X=>⟨X _ _ look,⟨_,.of_isNs (Tg X y5),Jz X (.of_isNs (Tg X y5)) y6⟩,Th X y4⟩⟩
  ·cases q
 ·cases q
noncomputable def kF(P:Uc)(w:Ub)(K:Sn)(mg:bU)(base:Ue)(k:Nat)(c:Str)(ps fs:ax):Prop:=
 ∃C f fd,clsAt K c C/\Kg K C f/\gS P w K mg base (kX P w) k f fd ps (NX C fs)/\Binds K fd ps []/\mg c=some (.ref C)
theorem ph{P:Uc}{w:Ub}{K:Sn}{mg:bU}{base:Ue}{k:Nat}{ps:ax}{c qual:Str}{C f:T7}{fd:UP}{st:T9}{fs:ax}(h1:clsAt K c C)(hM:Kg K C f)(na:∀g∈fs,b8 K C g)(F:mj K "__init__" qual st f fd)(b:Binds K fd ps [])(hmg:mg c=some (.ref C))(SC:bu ps ps (au st))(hps:ps.length=fs.length+1)(hnd:fs.Nodup)(hlen:fs.length<1000)
  (hb:∀(cdv:T5)(A:Uj)(outer:List Env)(s:Ua)(H:Hp)(E:XK),wW (jg JC P w K mg base ps qual (au st) f cdv A outer s H E).nox (cY st) fs 1):kF P w K mg base (k+1) c ps fs:=by
 refine⟨C,f,fd,h1,hM,?_,b,hmg⟩;refine gS.any (F.ok SC (λvs H Q E h=>?_) λcdv A outer s H vs Q E hr h=>?_)
 ·obtain⟨e,a0,as,rfl,hl,_⟩:=h;rw[Qv,hl,hps]
 ·obtain⟨t,ht,hq⟩:=hb cdv A outer s H E;obtain⟨e,a0,as,rfl,hl,hx,q⟩:=h;have hst:L2.start ps (.ref e::as)=(.ref e::as).map some:=by
   unfold L2.start;rw[Qv,hl,hps,RN,RO,QB]
  refine⟨t,ht,(hq _ _ H e C a0 as (by rw[hst];rfl) (λj v z=>?_) hl hM.st na).1 hlen hnd hx q⟩;rw[hst,Nat.add_comm,Qw,RD,QI,z];rfl
theorem vO{M:Ul}{A:Uj}{E:bL}{env:Env}{nm q:Str}{C N:T7}{bs bm:aS}{hdct:Bool}{sn:ax}{sub:aS}{ab:Bool}{col:Option Bool}{dd:iq}{k0 k1 k2 k3 k5:Option T5}{newId:String}{s:Ua}{x:Sem T5}{Q:Flow->gZ}(hb:bm.contains (.type "BaseException")=true)(hh:A.handled=none)
  (h:Um M A x (λv s₁=>∃e t dx sl,v=.ref e/\s₁.heap.get? C=some (excClassObj nm q C N bs bm hdct sn sub ab col dd k0 k1 k2 k3 k5 newId)/\s₁.heap.get? e=some ⟨.ref C,dx,KY t,sl⟩/\E (.ref e) s₁) E s):Um M A (raiseStmt env (some x) none) Q E s:=by
 have hc:(Value.ref C::bm).contains (.type "BaseException")=true:=by rw[RK,hb,RW]
 unfold raiseStmt;refine Uw (Up h (λv s₁ h₁=>?_) λ_ _ x=>x);obtain⟨e,t,dx,sl,rfl,hC,he,hE⟩:=h₁;obtain⟨hp,g,d,tk,os⟩:=s₁
 repeat (first|with_reducible refine Vt he ?_|with_reducible refine Vt hC ?_|(with_reducible refine wpAny_isSubtype_exc hC ?_;rw[hc])|wp_step)
 exact wpAny_raiseNew_none hh hE
section
variable{X:Cx}{pins:aU}{σ:St}{H:Hp}{s:Ua}
theorem adopt{e:T7}{ob:HO}(I:Inv X pins σ H s)(hn:H e=none)(h0:X.s₀.heap.get? e=none)(hL:e≠X.env.locals)(hcl:∀x,X.env.cells.lookup x≠some e)(hp:∀p∈X.pn++pins,p.1≠e)(new:cq X.prog X.w (upd H e ob) s.heap e ob):Inv X pins σ (upd H e ob) s:=by
 have ne:∀b u,H b=some u->b≠e:=λb u q z=>by rw[z,hn]at q;cases q
 have U:=I.base;refine⟨I.ok,I.os,I.bare,⟨U.keep,U.slot,λb o q n nx=>?_,U.there,λb xs q=>?_,λb o u q=>?_,λb ps q=>?_⟩,I.loc,I.cell,?_,λx c q=>?_,λp q=>?_,λa o q=>?_,I.len⟩
 ·rw[aw λz=>by rw[z,h0]at q;cases q];exact U.free b o q n nx
 ·have:=U.tups b xs q;rw[aw (ne _ _ this)];exact this
 ·have:=U.frzs b o u q;rw[aw (ne _ _ this)];exact this
 ·obtain⟨more,z⟩:=U.tbls b ps q;exact⟨more,by rw[aw (ne _ _ z)];exact z⟩
 ·rw[aw hL.symm];exact I.free
 ·rw[aw λz=>hcl x (by rw[<-z];exact q)];exact I.freeC x c q
 ·obtain⟨a1,a2,a3⟩:=I.pin p q;exact⟨a1,by rw[aw (hp p q)];exact a2,a3⟩
 ·by_cases z:a=e
  ·subst z;rw[aA]at q;cases q;exact new
  ·rw[aw z]at q;exact(I.hok a o q).stay (λb u _ q=>q) (λb q=>by rw[aw (ne _ _ q)];exact q) λb xs q=>by rw[aw (ne _ _ q)];exact q
theorem qZ{e:T7}(I:Inv X pins σ H s)(hx:X.ex=[])(n:s.heap.get? e=none):H e=none/\X.s₀.heap.get? e=none/\e≠X.env.locals/\(∀x,X.env.cells.lookup x≠some e)/\∀p∈X.pn++pins,p.1≠e:=by
 refine⟨?_,?_,λz=>?_,λx q=>?_,λp hp z=>?_⟩
 ·cases q:H e with
  |none=>rfl
  |some ob=>obtain⟨o,z⟩:=wB (I.hok e ob q);rw[n]at z;cases z
 ·cases q:X.s₀.heap.get? e with
  |none=>rfl
  |some o=>obtain⟨o',z⟩:=I.base.there e o q (by rw[hx];simp);rw[n]at z;cases z
 ·obtain⟨m,⟨o,es,ep,e2,_⟩,_⟩:=I.loc;rw[<-z,n]at e2;cases e2
 ·obtain⟨v,o,z,_⟩:=I.cell x e q;rw[n]at z;cases z
 ·have:=(I.pin p hp).1
  rw[z,n]at this;cases this
theorem DZ{s3:Ua}{C e a0 d:T7}{fs:List (Str×V)}(I:Inv X pins σ H s)(hx:X.ex=[])(n:s.heap.get? e=none)(hd:H d=none)(I3:Inv X pins σ (upd (upd H d (.own e)) e (.ext (iu C e a0 d fs))) s3):
  Inv X pins σ (upd H d (.xd fs)) s3/\uY X (upd H d (.xd fs)) s3 e C (some d)/\∃sl,s3.heap.get? e=some ⟨.ref C,some d,KY a0,sl⟩:=by
 obtain⟨hn,h0,hL,hcl,hp⟩:=qZ I hx n;obtain⟨⟨o,mA,q1,q2,q3,q4,q5,q6,q7,q8⟩,_,_⟩:=(show cq X.prog X.w _ s3.heap e (.ext (iu C e a0 d fs))from I3.hok e _ aA)
 have He:upd H d (.xd fs) e=none:=by rw[aw q6.symm];exact hn
 have d3:upd (upd H d (.own e)) e (.ext (iu C e a0 d fs)) d=some (.own e):=by rw[aw q6,aA]
 have away:∀b,b≠e->b≠d->upd H d (.xd fs) b=upd (upd H d (.own e)) e (.ext (iu C e a0 d fs)) b:=λb n1 n2=>by rw[aw n2,aw n1,aw n2]
 have none3:∀b,upd (upd H d (.own e)) e (.ext (iu C e a0 d fs)) b=none->b≠e/\b≠d:=λb z=>⟨λw=>(by rw[w,aA]at z;cases z),λw=>(by rw[w,d3]at z;cases z)⟩
 have some3:∀b u,upd (upd H d (.own e)) e (.ext (iu C e a0 d fs)) b=some u->(∀φ,u≠.ext φ)->(∀y,u≠.own y)->upd H d (.xd fs) b=some u:=λb u z n1 n2=>by
  rw[away b (λw=>by rw[w,aA]at z;cases z;exact n1 _ rfl) λw=>by rw[w,d3]at z;cases z;exact n2 _ rfl];exact z
 have U:=I3.base;have I4:Inv X pins σ (upd H d (.xd fs)) s3:=by
  refine⟨I3.ok,I3.os,I3.bare,⟨U.keep,U.slot,λb o q n nx=>?_,U.there,λb xs q=>?_,λb o u q=>?_,λb ps q=>?_⟩,I3.loc,I3.cell,?_,λx c q=>?_,λp q=>?_,λa o q=>?_,I3.len⟩
  ·have z:=U.free b o q n nx;obtain⟨n1,n2⟩:=none3 b z;rw[away b n1 n2];exact z
  ·exact some3 _ _ (U.tups b xs q) (λ_ z=>nomatch z) λ_ z=>nomatch z
  ·exact some3 _ _ (U.frzs b o u q) (λ_ z=>nomatch z) λ_ z=>nomatch z
  ·obtain⟨more,z⟩:=U.tbls b ps q;exact⟨more,some3 _ _ z (λ_ z=>nomatch z) λ_ z=>nomatch z⟩
  ·obtain⟨n1,n2⟩:=none3 _ I3.free;rw[away _ n1 n2];exact I3.free
  ·obtain⟨n1,n2⟩:=none3 _ (I3.freeC x c q);rw[away _ n1 n2];exact I3.freeC x c q
  ·obtain⟨a1,a2,a3⟩:=I3.pin p q;obtain⟨n1,n2⟩:=none3 _ a2;exact⟨a1,by rw[away _ n1 n2];exact a2,a3⟩
  ·by_cases z:a=d
   ·subst z;rw[aA]at q;cases q;exact⟨mA,q7,q8⟩
   ·have ae:a≠e:=λw=>by rw[w,He]at q;cases q
    rw[away a ae z]at q;refine(I3.hok a o q).stay (λb u _ q=>q) (λb w=>?_) λb xs w=>some3 _ _ w (λ_ z=>nomatch z) λ_ z=>nomatch z;rw[away b (λy=>by rw[y,aA]at w;cases w) λy=>by rw[y,d3]at w;cases w;exact ae rfl];exact w
 obtain⟨oc,odi,oda,osl⟩:=o;dsimp only at q2 q3 q4;subst q2 q3 q4;have nk:¬jl X (upd H d (.xd fs)) e:=λz=>by
  rcases z with⟨⟨o,z⟩,_⟩|z|⟨o,z⟩|⟨x,z⟩
  ·rw[h0]at z;cases z
  ·exact z He
  ·exact hp _ (Qm _ z) rfl
  ·exact hcl x z
 refine⟨I4,⟨λoe z=>by rw[q1]at z;cases z;rfl,kY s3.heap (λb=>if b∈frs X.stack\/b=e then some (.tup [])else none),.ref a0,λb o z=>(mq z).1,?_,jr (λ_ _ z=>z) (λb hb=>?_) I4.stack,.inr ⟨_,_,q1,rfl,rfl,rfl,rfl⟩,λb o z kb nf=>qo z (if_neg ?_)⟩,osl,q1⟩
 ·cases z:(kY s3.heap (λb=>if b∈frs X.stack\/b=e then some (.tup [])else none)).get? e with
  |none=>rfl
  |some o=>have:=(mq z).2;rw[if_pos (.inr rfl)]at this;cases this
 ·cases z:(kY s3.heap (λb=>if b∈frs X.stack\/b=e then some (.tup [])else none)).get? b with
  |none=>rfl
  |some o=>have:=(mq z).2;rw[if_pos (.inl hb)]at this;cases this
 ·rintro(w|w)
  ·exact nf w
  ·exact nk (w ▸ kb)
end
noncomputable def kj(c:Str)(fs:ax)(f:aO):bw:=λk ρ=>oW (f ρ) k ρ λds=>if small ds.length&&ds.length==fs.length then k.ex ⟨c,fs,ds⟩ ρ else un
end TG
namespace TG
open PySem PySem.Spec L2
variable[ay]
end TG
namespace TG
open PySem PySem.Spec L2
variable[ay]
end TG
namespace L2
open PySem PySem.Spec PyProof.Rows
end L2
namespace TG
open PySem PySem.Spec L2
variable[ay]
end TG
namespace TG
open PySem PySem.Spec PySem.Calls L2
variable[ay]
theorem uT{K:Sn}{H:Hp}{v:V}{al:List (Key×D)}(h:cf K H (qD al) v):
  ∃a,v=.ref a/\((∃kvs:List (Key×V),H a=some (.dK kvs)/\kvs.map (·.1)=al.map (·.1)/\aN K H (al.map (·.2)) (kvs.map (·.2)))\/(H a=some (.dT [])/\al=[])):=by
 obtain⟨a,vs,e0,h2,h3⟩:=KN.mp h;refine⟨a,e0,?_⟩;rcases h3 with⟨kvs,e,e1,e2⟩|⟨kvs,e,e1,e2⟩|⟨kvs,o,e,e1,e2⟩
 ·refine .inl ⟨kvs,e,?_,by rw[<-e2];exact h2⟩;exact(qW (ks:=kvs.map (·.1)) (by rw[RZ];exact e1)).symm
 ·cases kvs with
  |nil=>exact .inr ⟨e,by simpa using e1⟩
  |cons p r=>
   cases al with
   |nil=>cases e1
   |cons q r'=>
    have e1:dU q.1::lr r'=D.tup (p.1.map dU)::r.map (λp=>D.tup (p.1.map dU)):=e1;injection e1 with e1 _;rcases q with⟨k,v⟩
    cases k<;>cases e1
 ·cases al with
  |nil=>cases e1
  |cons q r=>
   have e1:dU q.1::lr r=D.non::kvs.map (λp=>D.tup (p.1.map dU)):=e1;injection e1 with e1 _;rcases q with⟨k,v⟩
   cases k<;>cases e1
noncomputable def mz(al:List (Key×D))(q:Key):bx:=(al.find? λp=>decide (p.1=q)).map (·.2)
theorem pM{K:Sn}{H:Hp}(q:Key):∀{kvs:List (Key×V)}{al:List (Key×D)},kvs.map (·.1)=al.map (·.1)->aN K H (al.map (·.2)) (kvs.map (·.2))->(lU kvs q=none/\mz al q=none)\/∃v d,lU kvs q=some v/\mz al q=some d/\cf K H d v
 |[],[],_,_=>.inl ⟨rfl,rfl⟩
 |p::r,a::al,e,h=>by
  rw[Qw,Qw]at e;injection e with e1 e2;rw[Qw,Qw,aX]at h;obtain⟨v,ws,h0,h1,h2⟩:=h;injection h0 with h0 h0';subst h0 h0';by_cases z:p.1=q
  ·refine .inr ⟨p.2,a.2,pE z,?_,h1⟩;unfold mz;rw[List.find?_cons_of_pos (by rw[<-e1];simpa using z)];rfl
  ·have ih:=pM q e2 h2;have g:mz (a::al) q=mz al q:=by
    unfold mz;rw[List.find?_cons_of_neg (by rw[<-e1];simpa using z)]
   rw[pI z,g];exact ih
 |[],_::_,e,_=>by cases e
 |_::_,[],e,_=>by cases e
noncomputable def Gg(dd k:D):Option (bx):=match dd with
 |.dct ks ds=>(lL ks ds).bind λal=>(keyOf k).map λq=>mz al q
 |_=>none
noncomputable def qX(dd k:D):bx:=(Gg dd k).bind id
noncomputable def gC(x y:D):bx:=(Gg y x).map λo=>.bl (!o.isSome)
theorem uy{dd k:D}{o:bx}(h:Gg dd k=some o):∃al q,dd=qD al/\k=dU q/\o=mz al q:=by
 unfold Gg at h;split at h
 ·rename_i ks ds;cases e1:lL ks ds with
  |none=>rw[e1]at h;cases h
  |some al=>
   rw[e1]at h;cases e2:keyOf k with
   |none=>rw[e2]at h;cases h
   |some q=>
    rw[e2]at h;cases h;obtain⟨h1,h2⟩:=ut e1;exact⟨al,q,by rw[h1,h2],qd e2,rfl⟩
 ·cases h
theorem Gw{X:Cx}{pins:aU}{σ:St}{H:Hp}{s:Ua}{O:aH}{al:List (Key×D)}{q:Key}{x y:V}(I:Inv X pins σ H s)(hb:cf X.K (hid H O) (qD al) y)(ha:cf X.K (hid H O) (dU q) x):
  ∃(a:T7)(o:Option V)(H':Hp),y=.ref a/\Inv X pins σ H' s/\yp H' a x o/\(∀s',Inv X pins σ H' s'->Inv X pins σ H s')/\((o=none/\mz al q=none)\/∃v d,o=some v/\mz al q=some d/\cf X.K (hid H O) d v):=by
 obtain⟨a,ey,hh⟩:=uT hb;have ex:=pC ha;subst ex;rcases hh with⟨kvs,k1,k2,k3⟩|⟨k1,rfl⟩
 ·exact⟨a,lU kvs q,H,ey,I,yp.k ((aB H O) _ _ k1),λs' z=>z,pM q k2 k3⟩
 ·have k1':=(aB H O) _ _ k1;refine⟨a,lU [] q,upd H a (.dK []),ey,My I k1',yp.k aA,λs' I4=>?_,.inl ⟨rfl,rfl⟩⟩;have I5:=Nq I4 aA;rw[AZ k1']at I5;exact I5
section
variable{X:Cx}
theorem rT(hu:X.A.units+64<UO):iQ X (Ur .NotIn) (rD X.K gC):=by
 rintro pins s σ H x y u v Q I rx ry ⟨O,a,b,d,hO,ha,hb,hg,q⟩;unfold gC at hg;cases e:Gg b a with
 |none=>rw[e]at hg;cases hg
 |some o=>
  rw[e]at hg;cases hg;obtain⟨al,qk,rfl,rfl,rfl⟩:=uy e;obtain⟨p,o,H',ey,I',g,bk,z⟩:=Gw I hb ha;subst ey;cases ry;refine DE ‹0› I' g rx λs3 I3=>⟨.bl (!o.isSome),H,bk s3 I3,rfl,q _ H (aQ.refl H) (ju.mpr ?_)⟩
  rcases z with⟨z1,z2⟩|⟨v,d,z1,z2,_⟩<;>rw[z1,z2]<;>rfl
end
noncomputable def x6:List (FX×FX)->av->R (List (D×D))
 |[],_=>.ok []
 |(fk,fv)::r,ρ=>(fk ρ).bind λk=>(fv ρ).bind λv=>(x6 r ρ).bind λps=>.ok ((k,v)::ps)
noncomputable def jV:List (D×D)->Option (List (Key×D))
 |[]=>some []
 |(k,v)::r=>(keyOf k).bind λk=>(jV r).map ((k,v)::·)
noncomputable def rS(al:List (Key×D)):List (Key×D):=al.foldl (λm p=>tu m p.1 p.2) []
noncomputable def oz(ps:List (D×D)):bx:=(jV ps).bind λal=>if decide (al.length<=15)then some (qD (rS al))else none
noncomputable def gW(fs:List (FX×FX)):FX:=λρ=>(zE (x6 fs ρ)).bind λps=>rO (oz ps)
theorem mS:∀{ps:List (D×D)}{al:List (Key×D)},jV ps=some al->ps=al.map λp=>(dU p.1,p.2)
 |[],_,h=>by cases h;rfl
 |(k,v)::r,al,h=>by
  unfold jV at h;cases e1:keyOf k with
  |none=>rw[e1]at h;cases h
  |some k'=>
   rw[e1]at h;cases e2:jV r with
   |none=>rw[e2]at h;cases h
   |some al'=>
    rw[e2]at h;cases h;rw[Qw,mS e2,qd e1]
section
variable{X:Cx}
theorem vR{σ:St}{O:aH}{ρ:av}:∀{fs:List (FX×FX)}{ps:List (D×D)}{H:Hp}{Q:List (V×V)->Hp->Prop},x6 fs ρ=.ok ps->dz X.K O H ρ σ->
  (∀(vs:List (V×V)) H',aQ H H'->aN X.K (hid H' O) (ps.map (·.1)) (vs.map (·.1))->aN X.K (hid H' O) (ps.map (·.2)) (vs.map (·.2))->Q vs H')->sP (fs.map λp=>(tF X p.1,tF X p.2)) σ H Q
 |[],ps,H,Q,e,E,q=>by
  cases e;exact q [] H (aQ.refl H) (cj.mpr rfl) (cj.mpr rfl)
 |(fk,fv)::r,ps,H,Q,e,E,q=>by
  unfold x6 at e;cases e1:fk ρ with
  |error z=>rw[e1]at e;cases e
  |ok k=>
   rw[e1]at e;have e:(fv ρ).bind (λv=>(x6 r ρ).bind λps=>.ok ((k,v)::ps))=.ok ps:=e;cases e2:fv ρ with
   |error z=>rw[e2]at e;cases e
   |ok v=>
    rw[e2]at e;have e:(x6 r ρ).bind (λps=>(.ok ((k,v)::ps):R (List (D×D))))=.ok ps:=e;cases e3:x6 r ρ with
    |error z=>rw[e3]at e;cases e
    |ok ps'=>
     rw[e3]at e;cases e;refine⟨O,ρ,E,?_⟩;show fi X σ O H (fk ρ) _;rw[e1];intro x H1 s1 d1;refine⟨O,ρ,E.same s1,?_⟩;show fi X σ O H1 (fv ρ) _;rw[e2];intro y H2 s2 d2;refine vR e3 ((E.same s1).same s2) λvs H3 s3 d3 d4=>q ((x,y)::vs) H3 ((s1.trans s2).trans s3) ?_ ?_
     ·exact aX.mpr ⟨x,_,rfl,d1.mono (bQ (s2.trans s3)),d3⟩
     ·exact aX.mpr ⟨y,_,rfl,d2.mono (bQ s3),d4⟩
theorem jM{K:Sn}{H:Hp}:∀{al:List (Key×D)}{vs:List (V×V)},aN K H ((al.map λp=>(dU p.1,p.2)).map (·.1)) (vs.map (·.1))->aN K H ((al.map λp=>(dU p.1,p.2)).map (·.2)) (vs.map (·.2))->
  ∃kvs:List (Key×V),vs=kvs.map (λkv=>(kV kv.1,kv.2))/\kvs.map (·.1)=al.map (·.1)/\aN K H (al.map (·.2)) (kvs.map (·.2))
 |[],[],_,_=>⟨[],rfl,rfl,cj.mpr rfl⟩
 |[],_::_,h,_=>by rw[QR,QR,cj]at h;cases h
 |_::_,[],h,_=>by
  rw[Qw,Qw,aX]at h;obtain⟨_,_,e,_⟩:=h;cases e
 |p::al,w::vs,h1,h2=>by
  rw[Qw,Qw,Qw,aX]at h1 h2;obtain⟨a,as,ea,ha,has⟩:=h1;obtain⟨b,bs,eb,hb,hbs⟩:=h2;injection ea with ea eas;injection eb with eb ebs;subst ea eas eb ebs;obtain⟨kvs,e1,e2,e3⟩:=jM has hbs;refine⟨(p.1,w.2)::kvs,?_,by rw[Qw,Qw,e2],aX.mpr ⟨w.2,_,rfl,hb,e3⟩⟩;rw[Qw,e1,<-pC ha]
theorem qm{K:Sn}{H:Hp}:∀{al:List (Key×D)}{kvs:List (Key×V)}{al0:List (Key×D)}{kvs0:List (Key×V)},kvs.map (·.1)=al.map (·.1)->aN K H (al.map (·.2)) (kvs.map (·.2))->kvs0.map (·.1)=al0.map (·.1)->aN K H (al0.map (·.2)) (kvs0.map (·.2))->
  (kvs.foldl (λacc kv=>putK acc kv.1 kv.2) kvs0).map (·.1)=(al.foldl (λm p=>tu m p.1 p.2) al0).map (·.1)/\aN K H ((al.foldl (λm p=>tu m p.1 p.2) al0).map (·.2)) ((kvs.foldl (λacc kv=>putK acc kv.1 kv.2) kvs0).map (·.2))
 |[],[],_,_,_,_,e0,h0=>⟨e0,h0⟩
 |p::al,kv::kvs,al0,kvs0,e,h,e0,h0=>by
  rw[Qw,Qw]at e;injection e with e1 e2;rw[Qw,Qw,aX]at h;obtain⟨v,ws,h1,h2,h3⟩:=h;injection h1 with h1 h1';subst h1 h1';rw[RU,RU];rw[e1];exact qm e2 h3 (yI e0 p.1 kv.2 p.2) (Bo h2 e0 h0)
 |[],_::_,_,_,e,_,_,_=>by cases e
 |_::_,[],_,_,e,_,_,_=>by cases e
theorem qe{pos:Pos}{keys:List (Option T8)}{values:bi}{fs:List (FX×FX)}(h:IM X pos keys values (fs.map λp=>(tF X p.1,tF X p.2)))(hall:keys.all (·.isSome)=true)(hl:keys.length=values.length)(h0:keys≠[])(h15:keys.length<=15):
  FE X (.Dict keys values pos) (gW fs):=PE.weak (xh h hall hl h0 h15) λσ H Q ⟨O,ρ,E,hF⟩ p hp=>by
 unfold gW at hF;cases e:x6 fs ρ with
 |error z=>rw[e]at hF;exact hF.elim
 |ok ps=>
  rw[e]at hF;obtain⟨d,hg,q⟩:=fi.rO (show fi X σ O H (rO (oz ps)) _ from hF);unfold oz at hg;cases ek:jV ps with
  |none=>rw[ek]at hg;cases hg
  |some al=>
   rw[ek]at hg;obtain⟨z15,hd⟩:=aY (show(if decide (al.length<=15)then some (qD (rS al))else none)=some d from hg);have z15:=of_decide_eq_true z15;subst hd;have e0:=mS ek;subst e0;refine vR e (E.hideNew (o:=.dK []) trivial hp) λvs H2 s2 d1 d2=>?_;obtain⟨kvs,e1,e2,e3⟩:=jM d1 d2;have hp2:H2 p=some (.dK []):=s2 _ _ aA;have pO:p∉O:=E.all.not hp;refine⟨hp2,kvs,e1,?_,q _ _ ?_ ?_⟩
   ·have:=congrArg List.length e2
    rw[Qx,Qx]at this;omega
   ·intro b u hb;have ne:=aP hb hp;rw[aw ne];exact s2 b u (by rw[aw ne];exact hb)
   ·have sm:aQ (hid H2 (p::O)) (hid (upd H2 p (.dK (je [] kvs))) O):=(kO Qk).trans (gX λa ha=>Ql _ ha);obtain⟨f1,f2⟩:=qm (al0:=[]) (kvs0:=[]) e2 (e3.mono sm) rfl (cj.mpr rfl);refine KN.mpr ⟨p,_,rfl,f2,.inl ⟨je [] kvs,by rw[jQ pO];exact aA,?_,rfl⟩⟩;exact xg f1
end
end TG
namespace TG
open PySem PySem.Spec PySem.Calls L2
variable[ay]
section
variable{X:Cx}{pos:Pos}
noncomputable def KW(n:Nat)(g:Ae):GF:=λd ρ=>match d with
 |.lst xs=>if xs.length=n then g xs ρ else none
 |_=>none
end
end TG
namespace TG
open PySem PySem.Spec L2
variable[ay]
end TG
namespace TG
open PySem PySem.Spec PySem.Calls L2
variable[ay]
section
variable{X:Cx}{pos:Pos}
theorem za{pos:Pos}{keys:List (Option T8)}{values:bi}{fs:List (FX×FX)}(h:IM X pos keys values (fs.map λp=>(tF X p.1,tF X p.2)))(hall:keys.all (·.isSome)=true)(hl:keys.length=values.length)(h0:keys≠[])(h15:keys.length<=15):
  FN X (.Dict keys values pos) (gW fs):=PE.weak (xh h hall hl h0 h15) λσ H Q ⟨O,ρ,E,hF⟩ p hp=>by
 unfold gW at hF;cases e:x6 fs ρ with
 |error z=>rw[e]at hF;exact hF.elim
 |ok ps=>
  rw[e]at hF;obtain⟨d,hg,q⟩:=fi.rO (show fi X σ O H (rO (oz ps)) _ from hF);unfold oz at hg;cases ek:jV ps with
  |none=>rw[ek]at hg;cases hg
  |some al=>
   rw[ek]at hg;obtain⟨z15,hd⟩:=aY (show(if decide (al.length<=15)then some (qD (rS al))else none)=some d from hg);have z15:=of_decide_eq_true z15;subst hd;have e0:=mS ek;subst e0;refine vR e (E.hideNew (o:=.dK []) trivial hp) λvs H2 s2 d1 d2=>?_;obtain⟨kvs,e1,e2,e3⟩:=jM d1 d2;have hp2:H2 p=some (.dK []):=s2 _ _ aA;refine⟨hp2,kvs,e1,?_,q p _ ?_ hp ⟨_,aA,trivial⟩ ?_⟩
   ·have:=congrArg List.length e2
    rw[Qx,Qx]at this;omega
   ·intro b u hb;have ne:=aP hb hp;rw[aw ne];exact s2 b u (by rw[aw ne];exact hb)
   ·have sm:aQ (hid H2 (p::O)) (hid (upd H2 p (.dK (je [] kvs))) (p::O)):=kO Qk;obtain⟨f1,f2⟩:=qm (al0:=[]) (kvs0:=[]) e2 (e3.mono sm) rfl (cj.mpr rfl);exact⟨_,_,aA,f2,.inl ⟨je [] kvs,rfl,xg f1,rfl⟩⟩
end
end TG
namespace TG
open PySem PySem.Spec PySem.Calls L2
variable[ay]
end TG
namespace L2
open PySem PySem.Spec PyProof.Rows
end L2
namespace TG
open PySem PySem.Spec L2
variable[ay]
end TG
namespace TG
open PySem PySem.Spec PySem.Calls L2
variable[ay]
end TG
namespace TX
open PySem PySem.Spec L2 TG
variable[ay]
structure XE(X:Cx)(e:T8)(F:FX):Prop where h:FE X e F
structure XT(X:Cx)(e:T8)(F:bZ):Prop where h:FT X e F
structure XW(X:Cx)(e:T8)(F:bZ):Prop where h:FW X e F
structure XA(X:Cx)(e:bi)(F:aO):Prop where h:FA X e F
structure XS(X:Cx)(e:T9)(F:bw):Prop where h:FS X e F
structure qR(X:Cx)(e:dE)(F:bw):Prop where h:Ke X e F
structure XI(X:Cx)(t e:T8)(F:aO):Prop where h:FI X t e F
structure XG(X:Cx)(e:T8)(F:GF):Prop where h:FG X e F
structure Fy(X:Cx)(e:bi)(F:Ae):Prop where h:PP X e F
structure XO(X:Cx)(e:Option T8)(F:av->R dr):Prop where h:FO X e F
structure XN(X:Cx)(e:T8)(F:FX):Prop where h:FN X e F
structure Kc(X:Cx)(e:bi)(F:bZ):Prop where h:NV X e F
structure XV(X:Cx)(e:T8)(i:Nat):Prop where h:PE X e (pF i)
structure XB(X:Cx)(scope:Uk)(N:ax)(tg elt:T8)(ifs:bi)(g:GF)(C:bZ)(Fe:FX)(cl:mV)(C':T7)(fp:aH)(s:Ua)(H:Hp)(E:bL):Prop where
 a:XG (b9 X scope N cl C' fp s H E) tg g
 b:Kc (b9 X scope N cl C' fp s H E) ifs C
 c:XE (b9 X scope N cl C' fp s H E) elt Fe
structure qx(X:Cx)(scope:Uk)(N:ax)(tg elt:T8)(ifs:bi)(g:GF)(C:bZ)(Fe:FX):Prop where
 q:∀cl C' fp s H E,XB X scope N tg elt ifs g C Fe cl C' fp s H E
theorem qx.h{X:Cx}{scope:Uk}{N:ax}{tg elt:T8}{ifs:bi}{g:GF}{C:bZ}{Fe:FX}(x:qx X scope N tg elt ifs g C Fe):NZ X scope N tg elt ifs g C Fe:=λcl C' fp s H E=>⟨(x.q cl C' fp s H E).a.h,(x.q cl C' fp s H E).b.h,(x.q cl C' fp s H E).c.h⟩
theorem xv{X:Cx}(i:Nat){x:Str}{pos:Pos}(hN:X.N[i]?=some x:=by rfl)(hv:HM X.env.scope x:=by first|exact Or.inl rfl|exact Or.inr (Or.inl rfl)|exact Or.inr (Or.inr rfl))(hd:(x==("__debug__":Str))=false:=by decide)
  (hcd:(x==("__classdict__":Str))=false:=by decide):XV X (.Name x pos) i:=⟨pv i hN hv hd hcd⟩
theorem NU{X:Cx}{e:T8}{f:bZ}(h:XW X e f):XT X e f:=⟨FW.ft h.h⟩
section
variable[ay]{X:Cx}
theorem C1{i:Nat}{x:Str}{pos:Pos}(h:XV X (.Name x pos) i):XE X (.Name x pos) (af i):=⟨PE.weak h.h λσ H Q ⟨O,ρ,E,hF⟩=>by
  obtain⟨d,e,q⟩:=zW hF;obtain⟨v,e,dv⟩:=E.val i d e;exact⟨v,e,q v H (aQ.refl H) dv⟩⟩
theorem Dg{i j pos}:XE X (.Constant (.int i) j pos) (fC (.int i)):=⟨j8 Cv λ_ _=>eZ.mpr rfl⟩
theorem Hg{b j pos}:XE X (.Constant (.bool b) j pos) (fC (.bl b)):=⟨j8 Ja λ_ _=>ju.mpr rfl⟩
theorem Dz{j pos}:XE X (.Constant .none j pos) (fC .non):=⟨j8 II λ_ _=>jm.mpr rfl⟩
theorem EY{x j pos}:XE X (.Constant (.str x) j pos) (fC (.str x)):=⟨j8 Gx λ_ _=>eV.mpr rfl⟩
theorem xx:XA X [] ah:=⟨TG.Nf ⟩
theorem pq{e:T8}{es:bi}{f:FX}{g:aO}(he:XE X e f)(hs:XA X es g)(hns:noStar e=true:=by rfl):XA X (e::es) (aa f g):=⟨TG.Kq he.h hs.h hns⟩
theorem DM{es:bi}{g:aO}{k pos}(h:XA X es g):XE X (.Tuple es k pos) (aT g):=⟨PE.weak (Iu h.h) λσ H Q ⟨O,ρ,E,hF⟩=>⟨O,ρ,E,(fi.bind hF).imp λxs hF vs H1 s1 d1=>by
  obtain⟨d,e,q⟩:=fi.rO hF;obtain⟨hz,e⟩:=aY e;subst e;refine⟨by rw[<-d1.length];exact cD hz,λp hp=>?_⟩;exact q _ _ (s1.trans (cQ hp _)) (eD (E.all.same s1) hp d1)⟩⟩
theorem ED{es:bi}{g:aO}{pos}(h:XA X es g):XE X (.List es pos) (dh g):=⟨PE.weak (Au h.h) λσ H Q ⟨O,ρ,E,hF⟩=>⟨O,ρ,E,(fi.bind hF).imp λxs hF vs H1 s1 d1=>by
  obtain⟨d,e,q⟩:=fi.rO hF;obtain⟨hz,e⟩:=aY e;subst e;refine⟨by rw[<-d1.length];exact cD hz,λp hp=>?_⟩;exact q _ _ (s1.trans (cQ hp _)) (kd (E.all.same s1) hp d1)⟩⟩
theorem jh{a b:T8}{op:Operator}{r:R2}{g:D->D->bx}{fa fb:FX}{pos:Pos}(ho:iQ X (UB op) r)(s:cZ X.K r g)(ha:XE X a fa)(hb:XE X b fb):XE X (.BinOp a op b pos) (f2 g fa fb):=⟨PE.weak (Gi ho ha.h hb.h) (tm s)⟩
theorem gD{a b:T8}{op:Uq}{r:R2}{g:D->D->bx}{fa fb:FX}{pos:Pos}(ho:iQ X (Ur op) r)(s:cZ X.K r g)(ha:XE X a fa)(hb:XE X b fb)(hm:Us op b=false):XE X (.Compare a [op] [b] pos) (f2 g fa fb):=⟨PE.weak (Do ho ha.h hb.h hm) (tm s)⟩
theorem gG{a b:T8}{op:Uq}{r:R2}{g:D->D->bx}{fa fb:FX}{pos:Pos}(ho:iQ X (Ur op) r)(s:cZ X.K r g)(ha:XE X a fa)(hb:XE X b fb)(hm:Us op b=false):XT X (.Compare a [op] [b] pos) (fB (f2 g fa fb)):=⟨PT.weak (Ek ho ha.h hb.h hm) (pp (tm s))⟩
end
section
variable[ay]{X:Cx}{a b c:T8}{rest:bi}{pos:Pos}{f g:bZ}
theorem D9(h:XT X a f):XT X (.UnaryOp .Not a pos) (mY f):=⟨PT.weak (HC h.h) λσ H Q ⟨O,ρ,E,hF⟩=>⟨O,ρ,E,(fi.bind hF).imp λb q H1 s1=>q H1 s1⟩⟩
theorem Cd(h:XT X a f):XW X (.BoolOp .And [a] pos) f:=⟨EH h.h⟩
theorem Et(h:XT X a f):XW X (.BoolOp .Or [a] pos) f:=⟨Hx h.h⟩
theorem Dr(ha:XT X a f)(hb:XW X (.BoolOp .And (b::rest) pos) g):XW X (.BoolOp .And (a::b::rest) pos) (nG f g):=⟨PW.weak (IG ha.h hb.h) λσ H Q ⟨O,ρ,E,hF⟩=>⟨O,ρ,E,(fi.bind hF).imp λc hF H1 s1=>by
 cases c with
 |true=>exact uQ ⟨O,ρ,E.same s1,(hF.mono s1).imp λb q H2 s2=>q H2 (s1.trans s2)⟩
 |false=>exact uV (hF H1 s1)⟩⟩
theorem Gm(ha:XT X a f)(hb:XW X (.BoolOp .Or (b::rest) pos) g):XW X (.BoolOp .Or (a::b::rest) pos) (vC f g):=⟨PW.weak (Jm ha.h hb.h) λσ H Q ⟨O,ρ,E,hF⟩=>⟨O,ρ,E,(fi.bind hF).imp λc hF H1 s1=>by
 cases c with
 |false=>exact uV ⟨O,ρ,E.same s1,(hF.mono s1).imp λb q H2 s2=>q H2 (s1.trans s2)⟩
 |true=>exact uQ (hF H1 s1)⟩⟩
end
section
variable[ay]{X:Cx}{a b c:T8}{rest:bi}{pos:Pos}{f g:bZ}{fa fb:FX}
theorem Dh{op}(h:XE X a fa):XE X (.BoolOp op [a] pos) fa:=⟨GD h.h⟩
theorem C2(ha:XE X a fa)(hb:XE X (.BoolOp .And (b::rest) pos) fb):XE X (.BoolOp .And (a::b::rest) pos) (iR fa fb):=⟨PE.weak (Gk ha.h hb.h) λσ H Q ⟨O,ρ,E,hF⟩=>⟨O,ρ,E,(fi.bind hF).imp λd hF x H1 s1 d1=>by
 cases d with
 |bl c=>
  refine⟨c,ju.mp d1,?_⟩;cases c with
  |true=>exact uQ ⟨O,ρ,E.same s1,(hF.mono s1).imp λd q v H2 s2 d2=>q v H2 (s1.trans s2) d2⟩
  |false=>exact uV (hF _ H1 s1 (ju.mpr rfl))
 |_=>exact hF.elim⟩⟩
theorem Hs(ha:XE X a fa)(hb:XE X (.BoolOp .Or (b::rest) pos) fb):XE X (.BoolOp .Or (a::b::rest) pos) (Bk fa fb):=⟨PE.weak (Jp ha.h hb.h) λσ H Q ⟨O,ρ,E,hF⟩=>⟨O,ρ,E,(fi.bind hF).imp λd hF x H1 s1 d1=>by
 cases d with
 |bl c=>
  refine⟨c,ju.mp d1,?_⟩;cases c with
  |false=>exact uV ⟨O,ρ,E.same s1,(hF.mono s1).imp λd q v H2 s2 d2=>q v H2 (s1.trans s2) d2⟩
  |true=>exact uQ (hF _ H1 s1 (ju.mpr rfl))
 |_=>exact hF.elim⟩⟩
theorem E8(ha:XE X a fa):XE X (.UnaryOp .Not a pos) (uw fa):=⟨PE.weak (Gn ha.h) λσ H Q ⟨O,ρ,E,hF⟩=>⟨O,ρ,E,(fi.bind hF).imp λd hF x H1 s1 d1=>by
 obtain⟨d',e,q⟩:=fi.rO hF;cases d with
 |bl c=>
  cases e;exact⟨c,ju.mp d1,q _ H1 s1 (ju.mpr rfl)⟩
 |_=>cases e⟩⟩
theorem Hu(hc:XT X c f)(ha:XE X a fa)(hb:XE X b fb):XE X (.IfExp c a b pos) (vX f fa fb):=⟨PE.weak (Bp hc.h ha.h hb.h) λσ H Q ⟨O,ρ,E,hF⟩=>⟨O,ρ,E,(fi.bind hF).imp λd hF H1 s1=>by
 cases d with
 |true=>exact uQ ⟨O,ρ,E.same s1,(hF.mono s1).imp λd q v H2 s2 d2=>q v H2 (s1.trans s2) d2⟩
 |false=>exact uV ⟨O,ρ,E.same s1,(hF.mono s1).imp λd q v H2 s2 d2=>q v H2 (s1.trans s2) d2⟩⟩⟩
end
section
variable[ay]{X:Cx}
theorem Gu{a b:T8}{fa fb:FX}{pos:Pos}(ha:XE X a fa)(hb:XE X b fb)(hs:t7 b):XE X (.Subscript a b pos) (f2 ap fa fb):=⟨PE.weak (Ka M0 ha.h hb.h hs) (tm bR)⟩
theorem B6:XO X none gx:=⟨λpins s σ H Q I ⟨O,ρ,E,q⟩=>EA pins s σ H Q I (q H (aQ.refl H))⟩
theorem Cp{e:T8}{f:FX}(h:XE X e f):XO X (some e) (lQ f):=⟨λpins s σ H Q I ⟨O,ρ,E,hF⟩=>
 Dw h.h pins s σ H Q I ⟨O,ρ,E,(fi.bind hF).imp λd hF v H1 s1 d1=>by
  obtain⟨o,e,q⟩:=fi.rO hF;cases d with
  |int i=>
   cases e;exact⟨i,eZ.mp d1,q H1 s1⟩
  |_=>cases e⟩⟩
theorem zj{e:T8}{f:FX}{l h:av->R dr}{lo hi:Option T8}{p2 pos:Pos}(he:XE X e f)(hl:XO X lo l)(hh:XO X hi h):XE X (.Subscript e (.Slice lo hi none p2) pos) (jc f l h):=⟨PE.weak (CK MA he.h hl.h hh.h) λσ H Q ⟨O,ρ,E,hF⟩=>⟨O,ρ,E,(fi.bind hF).imp λa hF x H1 s1 d1=>⟨O,ρ,E.same s1,((fi.bind hF).mono s1).imp λlo' hF H2 s2=>⟨O,ρ,E.same (s1.trans s2),((fi.bind hF).mono (s1.trans s2)).imp λhi' hF H3 s3=>by
  obtain⟨d,e,q⟩:=fi.rO hF;exact⟨O,a,d,E.all.same ((s1.trans s2).trans s3),d1.mono (bQ (s2.trans s3)),e,λv H4 s4 d4=>q v H4 (((s1.trans s2).trans s3).trans s4) d4⟩⟩⟩⟩⟩
end
section
variable[ay]{X:Cx}{x:Str}{p pos:Pos}{e:T8}{es:bi}{id T:String}{g:List D->bx}{f:aO}
theorem jb(hc:eG X (.builtin id) (CT X.K g))(hg:Gl X x)(hm:X.mg x=none)(hv:Ui x=some (.builtin id))(ha:XA X (e::es) f)(hn:x≠"__name__":=by decide)(hdb:(x==("__debug__":Str))=false:=by decide)(hns:(e::es).all noStar=true:=by rfl):XE X (.Call (.Name x p) (e::es) [] pos) (fL g f):=⟨PE.weak (j9 hc hg hm hv ha.h hn hdb (bS (QN _ _ ▸ hns).1) (cG (QN _ _ ▸ hns).2)) (B9 pz)⟩
theorem pZ(hc:eG X (.type T) (CT X.K g))(hg:Gl X x)(hm:X.mg x=none)(hv:Ui x=some (.type T))(ha:XA X (e::es) f)(hn:x≠"__name__":=by decide)(hdb:(x==("__debug__":Str))=false:=by decide)(hns:(e::es).all noStar=true:=by rfl):XE X (.Call (.Name x p) (e::es) [] pos) (fL g f):=⟨PE.weak (yE hc hg hm hv ha.h hn hdb (bS (QN _ _ ▸ hns).1) (cG (QN _ _ ▸ hns).2)) (B9 pz)⟩
theorem oX{f:FX}{xT:Str}{p2:Pos}(ok:vG X.K T)(hg:Gl X "isinstance")(hm:X.mg "isinstance"=none)(hgT:Gl X xT)(hmT:X.mg xT=none)(hvT:Ui xT=some (.type T))(he:XE X e f)(hn2:xT≠"__name__":=by decide)(hd2:(xT==("__debug__":Str))=false:=by decide)(hns:noStar e=true:=by rfl):XE X (.Call (.Name "isinstance" p) [e,.Name xT p2] [] pos) (oA T f):=⟨PE.weak (j9 (A4 ok) hg hm lO (fS he.h (fS (xA (v:=.ty T) hgT hmT hvT rfl hn2 hd2) mZ (bS rfl)) (bS hns)) (by decide) (by decide) (bS hns) (cG rfl)) λσ H Q ⟨O,ρ,E,hF⟩=>⟨O,ρ,E,(fi.bind hF).imp λa hF v H1 s1 d1=>by
  obtain⟨d,e,q⟩:=fi.rO hF;obtain⟨h1,h2⟩:=aY e;subst h2;exact⟨O,v,a,rfl,h1,d1,q _ H1 s1 (ju.mpr rfl)⟩⟩⟩
end
section
variable[ay]{X:Cx}{a:T8}{f:FX}{pos:Pos}
theorem DX{j pos'}(h:XE X a f):XE X (.Compare a [.Is] [.Constant .none j pos'] pos) (uz f):=⟨PE.weak (Gy (BD h.h)) λσ H Q q=>wN σ H Q q⟩
theorem Fd{j pos'}(h:XE X a f):XT X (.Compare a [.Is] [.Constant .none j pos'] pos) (fB (uz f)):=⟨PT.weak (Ia (BD h.h)) λσ H Q q=>pp (t:=λσ H Q=>tF X f σ H λv H'=>Q (.bl (decide (v=.non))) H') wN σ H Q q⟩
theorem zf(h:XE X a f)(he:∀whole,isTrue a X.env whole=(do let v<-whole;standAt a.pos;holding [v] (truthy v)):=by intro _;rfl):XT X a (aZ f):=⟨PT.weak (Cw h.h he) λσ H Q ⟨O,ρ,E,hF⟩=>⟨O,ρ,E,(fi.bind hF).imp λd hF x H1 s1 d1=>by
 obtain⟨r,hF,q⟩:=fi.rO hF;refine⟨r,?_,q H1 s1⟩;cases d with
 |non=>cases hF;rw[jm.mp d1];rfl
 |bl b=>cases hF;rw[ju.mp d1];rfl
 |int i=>cases hF;rw[eZ.mp d1];rfl
 |str y=>
  obtain⟨hz,e⟩:=aY hF;subst e;rw[eV.mp d1];refine⟨cD hz,?_⟩;show(y.length !=0)=((y.length:Int) !=0)
  cases y.length<;>rfl
 |tup xs=>
  cases hF;obtain⟨p,vs,e,g1,g2⟩:=cg.mp d1;rw[e];refine .inr (.inl ⟨vs,cy (aB H1 O) g1,?_⟩);have l:=g2.length;cases xs<;>cases vs<;>first|rfl|(simp at l)
 |lst xs=>
  cases hF;obtain⟨p,vs,e,g1,g2⟩:=b7.mp d1;rw[e];refine .inl ⟨vs,(aB H1 O).seq g1,?_⟩;have l:=g2.length;cases xs<;>cases vs<;>first|rfl|(simp at l)
 |_=>cases hF⟩⟩
end
section
variable[ay]{X:Cx}{tg:T8}
theorem D4{e:T8}{f:FX}(h:XE X e f):XI X tg e (bV f):=by
 refine⟨?_⟩;rintro pins s σ H R I ⟨O,ρ,E,hG⟩;have hG':=fi.bind hG;cases hf:f ρ with
 |error z=>exact xV h.h pins s σ H R I ⟨O,ρ,E,by rw[hf]at hG' ⊢;cases z with|none=>exact hG'.elim|some x=>exact hG'⟩
 |ok d=>
  rw[hf]at hG';obtain⟨ds,e1,q⟩:=fi.rO (α:=List D) (o:=pS d) hG';cases d with
  |lst xs=>
   cases e1;refine xV h.h pins s σ H R I ⟨O,ρ,E,?_⟩;rw[hf];refine λv H1 s1 d1=>?_;obtain⟨p,vs,ev,g1,g2⟩:=b7.mp d1;exact⟨p,ev,⟨vs,(aB H1 O).seq g1⟩,q _ H1 s1 (yq g1 g2)⟩
  |tup xs=>
   cases e1;refine HA h.h pins s σ H R I ⟨O,ρ,E,?_⟩;rw[hf];refine λv H1 s1 d1=>?_;obtain⟨p,vs,ev,g1,g2⟩:=cg.mp d1;exact⟨p,ev,⟨vs,cy (aB H1 O) g1⟩,q _ H1 s1 (BJ g1 g2)⟩
  |_=>cases e1
theorem vT{a:T8}{f:aO}{p pos:Pos}(hg:Gl X "range")(hm:X.mg "range"=none)(ha:XA X [a] f)(hs:Uo [a] X.env=[(false,eval a X.env)]:=by rfl):XI X tg (.Call (.Name "range" p) [a] [] pos) (du f):=by
 refine⟨?_⟩;rintro pins s σ H R I ⟨O,ρ,E,hG⟩;refine zx hg hm ha.h hs pins s σ H R I ⟨O,ρ,E,(fi.bind hG).imp λes hG' vs H1 s1 d1=>?_⟩;clear hG;obtain⟨ds,hG,q⟩:=fi.rO hG';clear hG';unfold kK at hG;split at hG
 ·rename_i j;obtain⟨h1,h2⟩:=aY hG;subst h2;obtain⟨j1,j2⟩:=of_decide_eq_true h1;obtain⟨v,ev,dv⟩:=d1.one;exact⟨j,by rw[ev,eZ.mp dv],j1,j2,q _ H1 s1 (pG 0 _)⟩
 ·cases hG
theorem wj{a b:T8}{f:aO}{p pos:Pos}(hg:Gl X "range")(hm:X.mg "range"=none)(ha:XA X [a,b] f)(hs:Uo [a,b] X.env=[(false,eval a X.env),(false,eval b X.env)]:=by rfl)(hs2:Uo [b] X.env=[(false,eval b X.env)]:=by rfl):XI X tg (.Call (.Name "range" p) [a,b] [] pos) (ml f):=by
 refine⟨?_⟩;rintro pins s σ H R I ⟨O,ρ,E,hG⟩;refine yW hg hm ha.h hs hs2 pins s σ H R I ⟨O,ρ,E,(fi.bind hG).imp λes hG' vs H1 s1 d1=>?_⟩;clear hG;obtain⟨ds,hG,q⟩:=fi.rO hG';clear hG';unfold lX at hG;split at hG
 ·rename_i i j;obtain⟨h1,h2⟩:=aY hG;subst h2;rw[QN]at h1;obtain⟨i1,i2⟩:=of_decide_eq_true h1.1;obtain⟨j1,j2⟩:=of_decide_eq_true h1.2;obtain⟨v,w,ev,dv,dw⟩:=d1.two;exact⟨i,j,by rw[ev,eZ.mp dv,eZ.mp dw],⟨i1,i2,j1,j2⟩,q _ H1 s1 (pG i _)⟩
 ·cases hG
end
section
variable[ay]{X:Cx}{pos:Pos}
theorem AV{i:Nat}{x:Str}(hN:X.N.Nodup)(hi:X.N[i]?=some x)(hx:Loc X.env.scope x)(hf:X.fn x=true\/X.env.scope.names.lookup x=some .local:=by first|exact .inl rfl|exact .inr rfl|assumption):XG X (.Name x pos) (gN i):=by
 refine⟨?_⟩;rintro pins s σ H v u Q I r ⟨O,ρ,d,ρ',E,hd,hg,q⟩;cases hg;have hiσ:i<σ.length:=by rw[I.len];exact(List.getElem?_eq_some_iff.mp hi).1
 refine CU hN hi hx hf pins s σ H v u Q I r (q _ (E.setV hiσ hd) λj x e nv=>?_);rcases bc e with⟨_,eq⟩|⟨ne,eq⟩
 ·cases eq;exact absurd rfl (nv _)
 ·exact⟨Qo (Ne.symm ne),eq⟩
theorem B8:Fy X [] Gd:=by
 refine⟨?_⟩;rintro pins s σ H vs us Q I r ⟨O,ρ,ds,ρ',E,hd,hg,q⟩;cases ds with
 |nil=>
  cases hg;rw[cj]at hd;exact DN pins s σ H vs us Q I r ⟨hd,q _ E λi x e _=>⟨rfl,e⟩⟩
 |cons _ _=>cases hg
theorem yG{e:T8}{es:bi}{g:GF}{h:Ae}(h1:XG X e g)(h2:Fy X es h)(hs:(assignEach (e::es) X.env).map (·.2)=assign e X.env::(assignEach es X.env).map (·.2):=by rfl):Fy X (e::es) (Aw g h):=by
 refine⟨?_⟩;rintro pins s σ H vs us Q I r ⟨O,ρ,ds,ρ',E,hd,hg,q⟩;cases ds with
 |nil=>cases hg
 |cons d ds=>
  obtain⟨ρ1,e1,e2⟩:=bind_some hg;rw[aX]at hd;obtain⟨v,vr,ev,d1,d2⟩:=hd;exact Ce h1.h h2.h hs pins s σ H vs us Q I r ⟨v,vr,ev,O,ρ,d,ρ1,E,d1,e1,λσ1 E1 k1=>⟨O,ρ1,ds,ρ',E1,d2,e2,λσ2 E2 k2=>q σ2 E2 λi x e nv=>by
   obtain⟨a1,a2⟩:=k2 i x e nv;obtain⟨b1,b2⟩:=k1 i x a2 nv;exact⟨a1.trans b1,b2⟩⟩⟩
theorem Dq{es:bi}{k:Nat}{g:Ae}{n:Nat}(hc:X.calm=true)(h:Fy X es g)(hn:(assignEach es X.env).length=n:=by rfl)(hst:(assignEach es X.env).findIdx? (·.1)=none:=by rfl):XG X (.Tuple es k pos) (gT n g):=by
 refine⟨?_⟩;rintro pins s σ H v u Q I r ⟨O,ρ,d,ρ',E,hd,hg,q⟩;cases d with
 |tup xs=>
  obtain⟨p,vs,ev,g1,g2⟩:=cg.mp hd;have hg':(if xs.length=n then g xs ρ else none)=some ρ':=hg;by_cases hl:xs.length=n
  ·rw[if_pos hl]at hg';exact GQ hc h.h hn hst pins s σ H v u Q I r ⟨p,vs,ev,cy (aB H O) g1,by rw[<-g2.length];exact hl,O,ρ,xs,ρ',E,g2,hg',q⟩
  ·rw[if_neg hl]at hg';cases hg'
 |_=>cases hg
end
section
variable[ay]
theorem BE{X:Cx}:Kc X [] bX:=⟨λpins s σ H Q I ⟨O,ρ,E,q⟩=>CW pins s σ H Q I (q H (aQ.refl H))⟩
theorem CA{X:Cx}{c:T8}{F:bZ}(h:XT X c F):Kc X [c] F:=⟨DI h.h⟩
end
section
variable[ay]{X:Cx}{elt tg iter:T8}{ifs:bi}{scope:Uk}{pos:Pos}{N:ax}{ix:fZ}{G:aO}{g:GF}{C:bZ}{Fe:FX}
theorem HW(hc:X.calm=true)(ok:mw X scope N ix)(tk:oC ix g)(hi:XI X tg iter G)(hb:qx X scope N tg elt ifs g C Fe)(hs:∀x,Uz iter X.env x=pure x:=by intro _;rfl):XE X (.ListComp elt [⟨tg,iter,ifs,0⟩] scope pos) (fU ix G g C Fe):=⟨PE.weak (Fu hc ok.cell ok.kind ok.names ok.free ok.ix hi.h hb.h.k hs) (Fx tk)⟩
end
section
variable[ay]{X:Cx}{st:T9}{rest body:dE}{pos:Pos}
theorem B2:qR X [] bb:=⟨λHb Ob=>uf.weak xr λE σ H ⟨O,ρ,k,r,S,hF,hk⟩=>hk.nx O ρ σ H S hF⟩
theorem yn{F1 F2:bw}(h1:XS X st F1)(h2:qR X rest F2):qR X (st::rest) (aq F1 F2):=⟨λHb Ob=>uf.weak (o6 (h1.h Hb Ob) (h2.h Hb Ob)) λE σ H ⟨O,ρ,k,r,S,hF,hk⟩=>
 ⟨O,ρ,{k with nx:=F2 k},r,S,hF,hk.ne,λO' ρ' σ' H' S' e=>⟨O',ρ',k,r,S',e,hk⟩,hk.bk,hk.ct,hk.rt,hk.ex⟩⟩
theorem Al{F1:bw}(h1:XS X st F1):qR X [st] F1:=⟨λHb Ob=>sY (h1.h Hb Ob)⟩
theorem EW{e:T8}{f:FX}(h:XE X e f):XS X (.Return (some e) pos) (aJ f):=⟨λHb Ob=>PS.weak (Iw h.h) λE σ H ⟨O,ρ,k,r,S,hF,hk⟩=>
 ⟨O,ρ,S.env,fi.on hF hk S λd e v H' s' d'=>hk.rt d O v H' e.symm (S.base.same' s') d'⟩⟩
theorem Az:XS X (.Pass pos) bb:=⟨λHb Ob=>PS.weak Fb λE σ H ⟨O,ρ,k,r,S,hF,hk⟩=>hk.nx O ρ σ H S hF⟩
theorem DT{x j pos'}:XS X (.Expr (.Constant (.str x) j pos) pos') bb:=⟨λHb Ob=>PS.weak G4 λE σ H ⟨O,ρ,k,r,S,hF,hk⟩=>hk.nx O ρ σ H S hF⟩
theorem Ay{e:T8}{f:FX}(h:XE X e f)(hs:swapsWith e none pos.line X.env=pure false:=by rfl):XS X (.Expr e pos) (lx f):=⟨λHb Ob=>PS.weak (xC h.h hs) λE σ H ⟨O,ρ,k,r,S,hF,hk⟩=>
 ⟨O,ρ,S.env,fi.on hF hk S λd e v H' s' d'=>hk.nx O ρ σ H' (S.same s') e⟩⟩
theorem Iz{c:T8}{a b:dE}{tc:bZ}{A B:bw}(hc:XT X c tc)(ha:qR X a A)(hb:qR X b B):XS X (.If c a b pos) (dy tc A B):=⟨λHb Ob=>PS.weak (Jd hc.h (ha.h Hb Ob) (hb.h Hb Ob)) λE σ H ⟨O,ρ,k,r,S,hF,hk⟩=>
 ⟨O,ρ,S.env,fi.on hF hk S fun z e H1 s1=>by
  cases z with
  |true=>exact uQ ⟨O,ρ,k,r,S.same s1,e,hk⟩
  |false=>exact uV ⟨O,ρ,k,r,S.same s1,e,hk⟩⟩⟩
theorem DK{i:Nat}{x:Str}{e:T8}{f:FX}{pos':Pos}(hN:X.N.Nodup)(hi:X.N[i]?=some x)(hx:Loc X.env.scope x)(he:XE X e f)(hs:swapsWith e (some (.Name x pos')) pos.line X.env=pure false:=by rfl)(hf:X.fn x=true\/X.env.scope.names.lookup x=some .local:=by first|exact .inl rfl|exact .inr rfl|assumption):XS X (.Assign [.Name x pos'] e pos) (aM i f):=⟨rK (List.getElem?_eq_some_iff.mp hi).1 (A5 hN hi hx he.h hs hf)⟩
theorem GI{elt tg iter:T8}{ifs:bi}{scope:Uk}{N:ax}{ix:fZ}{G:aO}{g:GF}{C:bZ}{Fe:FX}{i:Nat}{y:Str}{lpos py spos:Pos}(hN:X.N.Nodup)(hi':X.N[i]?=some y)(hx:Loc X.env.scope y)(hc:X.calm=true)(ok:mw X scope N ix)(tk:oC ix g)(hi:XI X tg iter G)(hb:qx X scope N tg elt ifs g C Fe)(hsw:swapsWith (.ListComp elt [⟨tg,iter,ifs,0⟩] scope lpos) (some (.Name y py)) spos.line X.env=pure true:=by rfl)(hs:∀x,Uz iter X.env x=pure x:=by intro _;rfl)(hf:X.fn y=true\/X.env.scope.names.lookup y=some .local:=by first|exact .inl rfl|exact .inr rfl|assumption):XS X (.Assign [.Name y py] (.ListComp elt [⟨tg,iter,ifs,0⟩] scope lpos) spos) (aM i (fU ix G g C Fe)):=⟨rK (List.getElem?_eq_some_iff.mp hi').1 (PS.weak (Fp hN hi' hx hc ok.cell ok.kind ok.names ok.free ok.ix hi.h hb.h.k hsw hs hf) λE σ H q=>Fx tk σ H _ q)⟩
theorem Ey{tg e:T8}{f:FX}{g:GF}(he:XE X e f)(hg:XG X tg g)(hs:swapsWithSole [tg] e pos.line X.env=pure false:=by rfl)(hw:swappedStores [tg] e X.env=pure none:=by rfl)(h1:(assignEach [tg] X.env).map (·.2)=[assign tg X.env]:=by rfl):XS X (.Assign [tg] e pos) (uh f g):=⟨λHb Ob=>PS.weak (HQ he.h hg.h hs hw h1) λE σ H ⟨O,ρ,k,r,S,hF,hk⟩=>
 ⟨O,ρ,S.env,fi.on hF hk S fun d e v H1 s1 d1=>by
  cases hg.h:g d ρ with
  |none=>rw[hg.h]at e;exact absurd e.symm hk.ne
  |some ρ1=>
   rw[hg.h]at e;refine⟨O,ρ,d,ρ1,(S.same s1).env,d1,hg.h,λσ' E' own=>hk.nx O ρ1 σ' H1 ((S.same s1).after E' own) e⟩⟩⟩
theorem yr{st:dE}{F:bw}(is:List Nat)(h:qR X st F):qR X st (gM is F):=⟨λHb Ob=>uf.weak (h.h Hb Ob) λE σ H ⟨O,ρ,k,r,S,hF,hk⟩=>⟨O,TG.kill is ρ,k,r,S.kill is,hF,hk⟩⟩
theorem Dd{tg iter:T8}{G:aO}{g:GF}{B:bw}(hp:Uy (model X.prog X.w) X.A X.env X.xe)(hc:X.calm=true)(hi:XI X tg iter G)(hg:XG X tg g)(hb:qR X body B)(hs:∀x,Uz iter X.env x=pure x:=by intro _;rfl):XS X (.For tg iter body [] pos) (o5 G g B):=⟨λHb Ob pins s σ H E I ⟨O,ρ,k,r,S,hF,hk⟩=>by
 have hall:uf X body (λE σ H=>∃Hb',L8 X Hb' Ob B E σ H):=λpins s σ H E I ⟨Hb',q⟩=>hb.h Hb' Ob pins s σ H E I q;refine Ir hp hc hi.h hg.h hall hs pins s σ H E I ⟨O,ρ,S.env,fi.on hF hk S λds hF J H1 s1 wk=>?_⟩;have E1:=S.same s1;refine⟨λi m σ H=>m=ds.length-i/\i<=ds.length/\∃O' ρ',dQ X.K (lb H1 O Ob) Ob O' H ρ' σ/\fN g B k (ds.drop i) ρ'=r,
  ⟨ds.length,by rw[Ru],QA _,O,ρ,E1.loop,by rw[Rc];exact hF⟩,?_⟩
 rintro i m σ' H' ⟨rfl,hi',O',ρ',E',hr⟩;have sD:=BX E1.base E'.base;by_cases hlt:i<ds.length
 ·right;obtain⟨go,yl⟩:=(wk H' O' i E'.env.all sD).1 ds[i] (by simp[hlt]);refine⟨go,λσ2 H2=>ds.length-(i+1)=ds.length-(i+1)/\i+1<=ds.length/\∃O' ρ',dQ X.K (lb H1 O Ob) Ob O' H2 ρ' σ2/\fN g B k (ds.drop (i+1)) ρ'=r,λσ2 H2 z=>⟨ds.length-(i+1),by omega,z⟩,λx H2 y=>?_⟩;obtain⟨s2,dx⟩:=yl x H2 y;have E':=E'.same s2;rw[Rw hlt]at hr;cases hg':g ds[i] ρ' with
  |none=>
   have hr':(rO (g ds[i] ρ')).bind (λρ1=>B ⟨fN g B k (ds.drop (i+1)),k.nx,fN g B k (ds.drop (i+1)),k.ex⟩ ρ1)=r:=hr;rw[hg']at hr';exact absurd hr'.symm hk.ne
  |some ρ1=>
   have hr':(rO (g ds[i] ρ')).bind (λρ1=>B ⟨fN g B k (ds.drop (i+1)),k.nx,fN g B k (ds.drop (i+1)),k.ex⟩ ρ1)=r:=hr;rw[hg']at hr';refine⟨O',ρ',ds[i],ρ1,E'.env,dx,hg',λσ3 E3 own=>?_⟩;have E3':dQ X.K (lb H1 O Ob) Ob O' H2 ρ1 σ3:=E'.after E3 own;exact⟨lb H1 O Ob,O',ρ1,⟨fN g B k (ds.drop (i+1)),k.nx,fN g B k (ds.drop (i+1)),k.ex⟩,r,E3',hr',hk.loop E1.base (λO4 ρ4 σ4 H4 E4 z=>⟨rfl,hlt,O4,ρ4,E4,z⟩) (λO4 ρ4 σ4 H4 E4 z=>⟨rfl,hlt,O4,ρ4,E4,z⟩) rfl rfl rfl rfl⟩
 ·left;have ei:i=ds.length:=by omega
  subst ei;refine⟨(wk H' O' ds.length E'.env.all sD).2 rfl,?_⟩;rw[List.drop_length]at hr;exact hk.nx O' ρ' σ' H' (E'.back E1.base) hr⟩
end
section
variable[ay]{X:Cx}{pos:Pos}
theorem Ea{es:bi}{g:aO}(h:XA X es g):XN X (.List es pos) (dh g):=⟨PE.weak (Au h.h) λσ H Q ⟨O,ρ,E,hF⟩=>⟨O,ρ,E,(fi.bind hF).imp λxs hF vs H1 s1 d1=>by
  obtain⟨d,e,q⟩:=fi.rO hF;obtain⟨hz,e⟩:=aY e;subst e;refine⟨by rw[<-d1.length];exact cD hz,λp hp=>?_⟩;exact q p _ (s1.trans (cQ hp _)) (s1.free hp) ⟨_,aA,trivial⟩ (ou hp d1)⟩⟩
theorem CV{i:Nat}{x:Str}{e:T8}{f:FX}{pos':Pos}(hN:X.N.Nodup)(hi:X.N[i]?=some x)(hx:Loc X.env.scope x)(he:XN X e f)(hs:swapsWith e (some (.Name x pos')) pos.line X.env=pure false:=by rfl)(hf:X.fn x=true\/X.env.scope.names.lookup x=some .local:=by first|exact .inl rfl|exact .inr rfl|assumption):XS X (.Assign [.Name x pos'] e pos) (ui i f):=⟨rA (List.getElem?_eq_some_iff.mp hi).1 (A5 hN hi hx he.h hs hf)⟩
end
section
variable[ay]
theorem zS{X:Cx}{elt tg iter:T8}{ifs:bi}{scope:Uk}{N:ax}{ix:fZ}{G:aO}{g:GF}{C:bZ}{Fe:FX}{i:Nat}{y:Str}{lpos py spos:Pos}(hN:X.N.Nodup)(hi':X.N[i]?=some y)(hx:Loc X.env.scope y)(hc:X.calm=true)(ok:mw X scope N ix)(tk:oC ix g)(hi:XI X tg iter G)(hb:qx X scope N tg elt ifs g C Fe)(hsw:swapsWith (.ListComp elt [⟨tg,iter,ifs,0⟩] scope lpos) (some (.Name y py)) spos.line X.env=pure true:=by rfl)(hs:∀x,Uz iter X.env x=pure x:=by intro _;rfl)(hf:X.fn y=true\/X.env.scope.names.lookup y=some .local:=by first|exact .inl rfl|exact .inr rfl|assumption):XS X (.Assign [.Name y py] (.ListComp elt [⟨tg,iter,ifs,0⟩] scope lpos) spos) (ui i (fU ix G g C Fe)):=⟨rA (List.getElem?_eq_some_iff.mp hi').1 (PS.weak (Fp hN hi' hx hc ok.cell ok.kind ok.names ok.free ok.ix hi.h hb.h.k hsw hs hf) λE σ H q=>BG tk σ H _ (FP σ H _ q))⟩
theorem Hl{X:Cx}{elt tg iter:T8}{ifs:bi}{scope:Uk}{pos:Pos}{N:ax}{ix:fZ}{G:aO}{g:GF}{C:bZ}{Fe:FX}(hc:X.calm=true)(ok:mw X scope N ix)(tk:oC ix g)(hi:XI X tg iter G)(hb:qx X scope N tg elt ifs g C Fe)(hs:∀x,Uz iter X.env x=pure x:=by intro _;rfl):XN X (.ListComp elt [⟨tg,iter,ifs,0⟩] scope pos) (fU ix G g C Fe):=⟨PE.weak (Fu hc ok.cell ok.kind ok.names ok.free ok.ix hi.h hb.h.k hs) λσ H Q q=>BG tk σ H _ (FP σ H _ q)⟩
theorem Ik{X : Cx}{i : Nat}{x m : Str}{id : String}{r : V -> aI -> Hp -> VK -> Prop}{u : List D -> List D -> Option (List D)}{e : T8}{es : bi}{f : aO}{npos apos cpos pos : Pos}(slot : Slot "list" m id)(hty : typeOf (.builtin id) = pure (.type "method_descriptor"))(hm : N0 X id r)(ok : FL X.K r u)(hx : XV X (.Name x npos) i)(he : XA X (e :: es) f)(hbase : UJ (.Name x npos) m X.env (eval (.Name x npos) X.env) = eval (.Name x npos) X.env := by rfl)(hfew : ((backTo cpos (Uo (e :: es) X.env)).all (fun x => !x.1) && (backToKw cpos (UM [] X.env)).all (fun x => x.1.isSome)
      && decide ((e::es:bi).length+([]:List UV).length+(if([]:List UV).isEmpty then 0 else 1)<30))=true:=by rfl)(hline:(apos.endLine==cpos.line)=true:=by rfl)(hs:Uo (e::es) X.env=(false,eval e X.env)::Uo es X.env:=by rfl)(hplain:(backTo cpos (Uo es X.env)).any (·.1)=false:=by rfl)(hsw:swapsWith (.Call (.Attribute (.Name x npos) m apos) (e::es) [] cpos) none pos.line X.env=pure false:=by rfl):XS X (.Expr (.Call (.Attribute (.Name x npos) m apos) (e::es) [] cpos) pos) (KQ i u f):=⟨λHb Ob pins s σ H E I ⟨O,ρ,k,rr,S,hF,hk⟩=>by
  unfold KQ at hF;split at hF
  · rename_i xs hxs
    obtain⟨a,ha,haO,hat⟩:=S.env.own i _ hxs;obtain⟨o,vs0,ho,eo,dn⟩:=hat;subst eo;refine xC (BZ F.plainAttrs_list slot hty hm hx.h he.h hbase hfew hline hs hplain) hsw pins s σ H E I ⟨.ref a,ha,.inl ⟨rfl,vs0,lI.of ho⟩,O,ρ,S.env,fi.on hF hk S λds hr vs H1 s1 d1=>?_⟩;have S1:=S.same s1;cases hu1:u xs ds with
    |none=>rw[hu1]at hr;exact absurd hr.symm hk.ne
    |some ys=>
      rw[hu1]at hr;exact ok H1 O a xs ys ds vs0 vs _ S1.env.all haO (s1 _ _ ho) (dn.mono (bQ s1)) d1 hu1 λws' v new=>hk.nx O _ σ _ (S1.setO hxs ha trivial (vo haO new)) hr
  ·exact absurd hF.symm hk.ne⟩
theorem Bj{X:Cx}{st:dE}{F:bw}(i:Nat)(h:qR X st F):qR X st (Ez i F):=⟨λHb Ob=>uf.weak (h.h Hb Ob) λE σ H ⟨O,ρ,k,r,S,hF,hk⟩=>by
 obtain⟨O',S'⟩:=S.frz i;exact⟨O',TG.frz i ρ,k,r,S',hF,hk⟩⟩
theorem wd{X:Cx}{k k':Nat}{ps:ax}{g:bD}{h:aO}{x:Str}{p pos:Pos}{e:T8}{es:bi}(C:Callee X.prog X.w X.K X.mg X.base k x ps g)(hn:Ar ps.length g)(hr:fM k' X.A)(hk:k<=k')(ha:XA X (e::es) h)(hg:Gl X x:=by rfl)(hdb:(x==("__debug__":Str))=false:=by decide)(hns:(e::es).all noStar=true:=by rfl):XE X (.Call (.Name x p) (e::es) [] pos) (fR g h):=by
 refine⟨?_⟩;obtain⟨f,fd,F,b,kp,m⟩:=C;exact PE.weak (AR F (hr.mono hk) hg m kp b ha.h hdb (bS (QN _ _ ▸ hns).1) (cG (QN _ _ ▸ hns).2)) (sI hn)
end
section
variable[ay]{X:Cx}{a b c:T8}{fa fb fc:FX}{pos:Pos}
theorem qY{op op':Uq}{r r':R2}{g g':D->D->bx}(ho:iQ X (Ur op) r)(s:cZ X.K r g)(ho':iQ X (Ur op') r')(s':cZ X.K r' g')(ha:XE X a fa)(hb:XE X b fb)(hc:XE X c fc)(hm:lastMarks [op,op'] [b,c]=false:=by with_unfolding_all rfl):XE X (.Compare a [op,op'] [b,c] pos) (fX g g' fa fb fc):=⟨PE.weak (Ao ho ho' ha.h hb.h hc.h hm) (rG s s')⟩
theorem rQ{op op':Uq}{r r':R2}{g g':D->D->bx}(ho:iQ X (Ur op) r)(s:cZ X.K r g)(ho':iQ X (Ur op') r')(s':cZ X.K r' g')(ha:XE X a fa)(hb:XE X b fb)(hc:XE X c fc)(hm:lastMarks [op,op'] [b,c]=false:=by with_unfolding_all rfl):XT X (.Compare a [op,op'] [b,c] pos) (fB (fX g g' fa fb fc)):=⟨PT.weak (A2 ho ho' ha.h hb.h hc.h hm) (pp (rG s s'))⟩
theorem C3(ha:XE X a fa):XE X (.UnaryOp .USub a pos) (qN fa):=⟨PE.weak (JV IC ha.h) (Hk λx d v O H Q _ e dv q=>by
 cases x with
 |int i=>cases e;exact⟨i,eZ.mp dv,q _ H (aQ.refl H) (eZ.mpr rfl)⟩
 |_=>cases e)⟩
theorem CN{x:Str}{i:Int}(hg:Gl X x)(hm:∃t,X.mg x=some (.int i t))(hd:(x==("__debug__":Str))=false:=by decide):XE X (.Name x pos) (fC (.int i)):=by
 refine⟨?_⟩;obtain⟨t,m⟩:=hm;exact j8 (tH (v:=.int i) hg m ⟨t,rfl⟩ hd) λ_ _=>eZ.mpr rfl
end
section
variable[ay]{X:Cx}
theorem C8{a b:T8}{es:bi}{k:Nat}{tpos:Pos}{f:aO}{p pos:Pos}(hg:Gl X "zip")(hm:X.mg "zip"=none)(ha:XA X [a,b] f)(hs:Uo [a,b] X.env=(false,eval a X.env)::Uo [b] X.env:=by rfl)(hpl:(backTo pos (Uo [b] X.env)).any (·.1)=false:=by rfl):XI X (.Tuple es k tpos) (.Call (.Name "zip" p) [a,b] [] pos) (yw f):=by
 refine⟨?_⟩;rintro pins s σ H RR I ⟨O,ρ,E,hG⟩;have hA:=ha.h pos pins s σ H (λvs H1=>∃ds r,AJ ds=some r/\aN X.K (hid H1 O) ds vs/\∀J,Walk X.K (hid H1 O) J r->RR J H1) I ⟨O,ρ,E,(fi.bind hG).imp λds hG vs H1 s1 d1=>by
  obtain⟨r,e,q⟩:=fi.rO hG;exact⟨ds,r,e,d1,λJ wk=>q J H1 s1 wk⟩⟩
 refine TK (jY I hg hm PyProof.Rows.boot_zip (TC (cu hA λus s1 ⟨vs,H1,I1,r1,ds,r,er,d1,q⟩=>?_) hs hpl));exact HV I1 er d1 r1 q
theorem qv{a:T8}{es:bi}{k:Nat}{tpos:Pos}{f:aO}{p pos:Pos}(hg:Gl X "enumerate")(hm:X.mg "enumerate"=none)(ha:XA X [a] f)(hs:Uo [a] X.env=(false,eval a X.env)::Uo [] X.env:=by rfl)(hpl:(backTo pos (Uo [] X.env)).any (·.1)=false:=by rfl):XI X (.Tuple es k tpos) (.Call (.Name "enumerate" p) [a] [] pos) (fu f):=by
 refine⟨?_⟩;rintro pins s σ H RR I ⟨O,ρ,E,hG⟩;have hA:=ha.h pos pins s σ H (λvs H1=>∃ds r,sK ds=some r/\aN X.K (hid H1 O) ds vs/\∀J,Walk X.K (hid H1 O) J r->RR J H1) I ⟨O,ρ,E,(fi.bind hG).imp λds hG vs H1 s1 d1=>by
  obtain⟨r,e,q⟩:=fi.rO hG;exact⟨ds,r,e,d1,λJ wk=>q J H1 s1 wk⟩⟩
 refine TK (jY I hg hm PyProof.Rows.boot_enumerate (TC (cu hA λus s1 ⟨vs,H1,I1,r1,ds,r,er,d1,q⟩=>?_) hs hpl));exact Ep I1 er d1 r1 q
end
section
variable[ay]{X:Cx}{a o e:T8}{es:bi}{fa fo:FX}{fas:aO}{f m x:Str}{cs:ax}{pos apos p:Pos}{k k':Nat}{ps:ax}
theorem C4(ok:bh X.K f cs)(h:XE X a fa)(hb:UJ a f X.env (eval a X.env)=eval a X.env:=by rfl):XE X (.Attribute a f pos) (f1 (az f cs) fa):=⟨PE.weak (GC h.h hb) λσ H Q ⟨O,ρ,E,hF⟩=>⟨O,ρ,E,(fi.bind hF).imp λd hF v H1 s1 d1=>by
  obtain⟨r,e,q⟩:=fi.rO hF;cases d with
  |obj c fs vs=>
   have e':(if cs.contains c then(fs.zip vs).lookup f else none)=some r:=e;cases hc:cs.contains c with
   |false=>rw[hc]at e';cases e'
   |true=>
    rw[hc]at e';obtain⟨a,ws,ev,g1,g2,C,dx,g3,g4⟩:=Ku.mp d1;obtain⟨w,l1,l2⟩:=pN g1 e';obtain⟨cl,na⟩:=ok c (List.contains_iff_mem.mp hc) C g3;exact⟨a,C,dx,_,w,ev,aB H1 O _ _ g4,cl,na,l1,q w H1 s1 l2⟩
  |_=>cases e⟩⟩
theorem Ai{tbl : List (Str × (bD))}{pl : Sem Bool}(tb : pP X.prog X.w X.K X.mg X.base k m ps tbl)(hr : fM k' X.A)(hk : k <= k')(ho : XE X o fo)(ha : XA X (e :: es) fas)(hns : (e :: es).all noStar = true := by rfl)(ht : eval (.Call (.Attribute o m apos) (e :: es) [] pos) X.env = (do
      let ov<-eval o X.env
      standAt apos.atName
      let (f,first)<-holding [ov] (getMethod ov m pl)
      UL pos f first (backTo pos (Uo (e::es) X.env)) (backToKw pos (UM [] X.env))):=by rfl):XE X (.Call (.Attribute o m apos) (e::es) [] pos) (cw m tbl fo fas):=⟨uF tb (hr.mono hk) ho.h (λpins s1 σ H1 O ρ a f od Q g fd _ kp F b ar I1 E1 dO hP=>by
    refine SR (first:=[.ref a]) (h₀:=X.base) I1.ok.mod.kin kp (cu (ha.h pos pins s1 σ H1 _ I1 ⟨O,ρ,E1,(fi.bind hP).imp λas hP vs H2 s2 d2=>pQ (vs:=.ref a::vs) ar (E1.all.same s2) (aX.mpr ⟨_,_,rfl,dO.mono (bQ s2),d2⟩) ((hP.mono s2).imp λd q v H3 s3 d3=>q v H3 (s2.trans s3) d3)⟩) λus s2 ⟨vs,H2,I2,r,Ex,hx,q2⟩=>⟨I2.kIn,?_⟩) (bS (QN _ _ ▸ hns).1) (cG (QN _ _ ▸ hns).2);exact tq (us:=.ref a::us) (vs:=.ref a::vs) F (hr.mono hk) b hx I2 (.cons rfl r) q2) ht⟩
theorem zU{tbl : List (Str × (bD))}{pl : Sem Bool}(tb : pP X.prog X.w X.K X.mg X.base k m ps tbl)(hr : fM k' X.A)(hk : k <= k')(ho : XE X o fo)(ht : eval (.Call (.Attribute o m apos) [] [] pos) X.env = (do
      let ov<-eval o X.env
      standAt apos.atName
      let (f,first)<-holding [ov] (getMethod ov m pl)
      UL pos f first (backTo pos (Uo [] X.env)) (backToKw pos (UM [] X.env))):=by rfl):XE X (.Call (.Attribute o m apos) [] [] pos) (cw m tbl fo ah):=⟨uF tb (hr.mono hk) ho.h (λpins s1 σ H1 O ρ a f od Q g fd _ kp F b ar I1 E1 dO hP=>by
    have hP':fi X σ O H1 (g [od]) λd=>∀v H',aQ H1 H'->cf X.K (hid H' O) d v->Q v H':=hP;obtain⟨Ex,hx,q2⟩:=pQ (vs:=[.ref a]) ar E1.all (aX.mpr ⟨_,_,rfl,dO,cj.mpr rfl⟩) hP';exact Tl (first:=[.ref a]) I1.kIn kp (tq (us:=[.ref a]) (vs:=[.ref a]) F (hr.mono hk) b hx I1 (.cons rfl .nil) q2)) ht⟩
theorem Fj{c:Str}{fs:ax}(IA:cB X.prog X.w X.K X.mg X.base k c ps fs)(hr:fM k' X.A)(hk:k+1<=k')(hg:Gl X c)(ha:XA X (e::es) fas)(hdb:(c==("__debug__":Str))=false:=by decide)(hns:(e::es).all noStar=true:=by rfl):XE X (.Call (.Name c p) (e::es) [] pos) (fNew c fs fas):=by
 refine⟨?_⟩;obtain⟨C,f,fd,h1,h2,h3,h4,h5⟩:=IA;refine PE.weak (EB (dvs:=[]) (E:=E0) h2 h3 (hr.mono hk) hg h5 h4 .nil Fw ha.h hdb (bS (QN _ _ ▸ hns).1) (cG (QN _ _ ▸ hns).2)) λσ H Q ⟨O,ρ,E,hF⟩=>⟨O,ρ,E,(fi.bind hF).imp λas hF vs H1 s1 d1 x dx hx hd ne=>?_⟩
 by_cases hl:as.length=fs.length
 ·rw[if_pos hl]at hF;rw[QB];refine⟨x,dx,vs,rfl,by rw[<-d1.length,hl],by rw[aA],rfl,?_⟩;obtain⟨sm,dn⟩:=n9 h1 hl d1 (E.all.same s1) hx hd ne;exact hF _ _ (s1.trans sm) dn
 ·rw[if_neg hl]at hF;exact hF.elim
end
section
variable[ay]{X:Cx}{C:T7}{pins:aU}{σ:St}{H:Hp}{s:Ua}{Q:VK}
theorem AC{c:Str}{p pos:Pos}(NA:ur X.K X.mg c)(hg:Gl X c)(hdb:(c==("__debug__":Str))=false:=by decide):XE X (.Call (.Name c p) [] [] pos) (fC (.obj c [] [])):=by
 refine⟨?_⟩;obtain⟨C,h1,h2,h3⟩:=NA;rintro pins s σ H Q I ⟨O,ρ,E,hF⟩;refine UU (hW I hg h3 ?_ hdb);refine Tl I.kIn h2.kp (run_plain h2 I λx dx hx hd ne=>?_);obtain⟨sm,dn⟩:=n9 (fs:=[]) (as:=[]) (vs:=[]) h1 rfl (cj.mpr rfl) E.all hx hd ne;have e:upd (upd (upd H dx (.own x)) x (.ins C dx [])) x (.ins C dx (([]:ax).zip []))=upd (upd H dx (.own x)) x (.ins C dx []):=by rw[lS];rfl
 rw[e]at sm dn;exact hF _ _ sm dn
end
section
variable[ay]{X:Cx}{p pos:Pos}{e:T8}{C:T7}
theorem EL{f:FX}{x:Str}{p2:Pos}{yes no:ax}(h:fW X.K X.mg x yes no)(hg:Gl X "isinstance")(hm:X.mg "isinstance"=none)(hgx:Gl X x)(he:XE X e f)(hd2:(x==("__debug__":Str))=false:=by decide)(hns:noStar e=true:=by rfl):XE X (.Call (.Name "isinstance" p) [e,.Name x p2] [] pos) (f1 (eB yes no) f):=by
 refine⟨?_⟩;obtain⟨C,hC,hy,hn⟩:=h;exact PE.weak (j9 Aq hg hm lO (fS he.h (fS (tH (v:=.ref C) hgx hC rfl hd2) mZ (bS rfl)) (bS hns)) (by decide) (by decide) (bS hns) (cG rfl)) λσ H Q ⟨O,ρ,E,hF⟩=>⟨O,ρ,E,(fi.bind hF).imp λa hF v H1 s1 d1=>by
  obtain⟨d,e,q⟩:=fi.rO hF;unfold eB at e;split at e
  ·rename_i c fs vs;obtain⟨a,ws,rfl,_,_,D,dx,hcl,ha⟩:=Ku.mp d1;by_cases h1:yes.contains c=true
   ·rw[if_pos h1]at e;cases e;exact⟨a,D,dx,_,rfl,aB _ _ _ _ ha,.inl ⟨hy c (by simpa using h1) D hcl,q _ H1 s1 (ju.mpr rfl)⟩⟩
   ·rw[if_neg h1]at e;obtain⟨h2,h3⟩:=aY e;subst h3;obtain⟨cl,n⟩:=hn c (by simpa using h2) D hcl;exact⟨a,D,dx,_,rfl,aB _ _ _ _ ha,.inr ⟨cl,n,q _ H1 s1 (ju.mpr rfl)⟩⟩
  ·cases e⟩
end
section
variable[ay]{X:Cx}{pos:Pos}
theorem zH{x:Str}{e:T8}{es:bi}{f:aO}{np cpos:Pos}(hc:X.calm=true)(hx:ExcAt X.K X.mg x)(hg:Gl X x)(ha:XA X (e::es) f)(hdb:(x==("__debug__":Str))=false:=by decide)(hns:(e::es).all noStar=true:=by rfl):XS X (.Raise (some (.Call (.Name x np) (e::es) [] cpos)) none pos) (bW x f):=⟨λHb Ob pins s σ H E I ⟨O,ρ,k,r,S,hF,hk⟩=>by
 obtain⟨C,cl,hm,hi⟩:=hx;obtain⟨tl,N,nm,q,bs,hdct,sn,sub,ab,col,dd,k0,k1,k2,k3,k5,mN,hC,hN,hni,T⟩:=(Dn I.mod.kin hi x).obj;have st:Uo (e::es) X.env=_:=bS (QN _ _ ▸ hns).1;have plain:(backTo cpos (Uo (e::es) X.env)).any (·.1)=false:=cG hns;refine wpAny_Raise_call_subT (k5:=k5) (k3:=k3) (k2:=k2) (k1:=k1) (k0:=k0) (dd:=dd) (col:=col) (ab:=ab) (sub:=sub) (sn:=sn) (hdct:=hdct) (bs:=bs) (N:=N) (q:=q) (nm:=nm) T2 (mN:=mN) (T.hasType PySem.F.excBase_ValueError.hasBase) (I.ok.hd hc) plain hni (hW I hg hm ⟨rfl,?_⟩ hdb);have A1:=ha.h cpos pins s σ H (λvs H1=>vs.length<=Ug/\aQ H H1/\k.ex ⟨x,[],[]⟩ ρ=r) I ⟨O,ρ,S.env,fi.on hF hk S λds e vs H' s' d'=>by
  have z:small ds.length=true:=by
   cases z:small ds.length with
   |true=>rfl
   |false=>rw[z]at e;exact absurd e.symm hk.ne
  rw[z]at e;exact⟨by rw[<-d'.length];exact cD z,s',e⟩⟩
 rw[st]at A1 ⊢;refine Calls.evalArgs_plain (cu A1 λus s2 ⟨vs,H1,I1,rv,q1,q2,q3⟩=>⟨rfl,by rw[<-rv.length];exact q1,I1.bk _ _ hC,hN.keeps I1.bk,T.keeps I1.bk,λh' a m=>?_⟩);exact hk.ex O ρ σ H1 _ (S.same q2) q3 pins _ _ H1 (I1.kept (t':=s2.toks) m.keeps) (aQ.refl H1) ⟨a,C,none,rfl,⟨cl,[],cj.mpr rfl,rfl,.inl rfl⟩,BK I1 m⟩⟩
end
section
variable[ay]{X:Cx}{p pos:Pos}{e:T8}
theorem BI{f:FX}{x:Str}{p2:Pos}{tbl:List (Str×Bool)}(h:cR X.K X.mg x tbl)(hg:Gl X "isinstance")(hm:X.mg "isinstance"=none)(hgx:Gl X x)(he:XE X e f)(hd2:(x==("__debug__":Str))=false:=by decide)(hns:noStar e=true:=by rfl):XE X (.Call (.Name "isinstance" p) [e,.Name x p2] [] pos) (f1 (dR tbl) f):=by
 refine⟨?_⟩;obtain⟨C,hC,h⟩:=h;exact PE.weak (j9 (sB (tv:=.ref C) (T:=.ref C) λu r=>r) hg hm lO (fS he.h (fS (tH (v:=.ref C) hgx hC rfl hd2) mZ (bS rfl)) (bS hns)) (by decide) (by decide) (bS hns) (cG rfl)) (FZ h)
theorem zO{f:FX}{x:Str}{T:String}{p2:Pos}{tbl:List (Str×Bool)}(h:uJ X.K (.type T) tbl)(hg:Gl X "isinstance")(hm:X.mg "isinstance"=none)(hgx:Gl X x)(hmx:X.mg x=none)(hv:Ui x=some (.type T))(he:XE X e f)(hn2:x≠"__name__":=by decide)(hd2:(x==("__debug__":Str))=false:=by decide)(hns:noStar e=true:=by rfl):XE X (.Call (.Name "isinstance" p) [e,.Name x p2] [] pos) (f1 (dR tbl) f):=⟨PE.weak (j9 (sB (tv:=.ty T) (T:=.type T) λu r=>r) hg hm lO (fS he.h (fS (xA (v:=.ty T) hgx hmx hv rfl hn2 hd2) mZ (bS rfl)) (bS hns)) (by decide) (by decide) (bS hns) (cG rfl)) (FZ h)⟩
end
section
variable[ay]{X:Cx}{p pos kp:Pos}{e:T8}
theorem AO{f:FX}{i:Int}{j:Nat}{cp:Pos}(hc:X.calm=true)(hg:Gl X "max")(hm:X.mg "max"=none)(he:XE X e f)(hns:noStar e=true:=by rfl):XE X (.Call (.Name "max" p) [e] [⟨some "default",.Constant (.int i) j cp,kp⟩] pos) (f1 (rN i) f):=by
 refine⟨?_⟩;rintro pins s σ H Q I ⟨O,ρ,E,hF⟩;refine UU (jY I hg hm Aa ?_);have st:backTo pos (Uo [e] X.env)=(false,eval e X.env)::backTo pos (Uo [] X.env):=by rw[bS hns];rfl
 refine PyProof.Rows.callWith_kw ?_ ?_ (cG (by rw[Rg,hns];rfl))
 ·refine cu (fS he.h mZ (bS hns) pos pins s σ H (λvs H1=>∃v d a,vs=[v]/\aQ H H1/\rN i a=some d/\cf X.K (hid H1 O) a v/\∀v H',aQ H H'->cf X.K (hid H' O) d v->Q v H') I ⟨O,ρ,E,(fi.bind hF).imp λa hF v H1 s1 d1=>?_⟩) λus s1 ⟨vs,H1,I1,rv,v,d,a,ev,s1',hd,dn,q⟩=>?_
  ·obtain⟨d,e,q⟩:=fi.rO hF;exact⟨v,d,a,rfl,s1,e,d1,q⟩
  ·subst ev;refine cu (Em (kws:=[]) Cv HU pos pins s1 σ H1 (λzs H2=>zs=[.int i]/\H2=H1) I1 ⟨rfl,rfl⟩) λws s2 ⟨zs,H2,I2,rz,ez,eh⟩=>?_;subst ez eh;obtain⟨u,eu,ru⟩:=vals1 rv;obtain⟨wv,ew,rw'⟩:=vals1 rz;subst eu ew;unfold rN at hd;split at hd
   ·rename_i xs;cases ei:mx xs with
    |none=>rw[ei]at hd;cases hd
    |some ns=>
     rw[ei]at hd;cases hd;have exs:=sG ei;subst exs;obtain⟨l,ys,el,g1,g2⟩:=b7.mp dn;subst el;cases ru;obtain⟨its,ri,pl,hz⟩:=I2.list ((aB H2 O).seq g1);have hlen:its.length=ns.length:=(by rw[<-ri.length,<-g2.length,Qx]);refine yX (I2.ok.hd hc) pl.isList (ns:=ns) (λk v hk=>?_) hlen λv h' tk hv kk=>?_
     ·exact xF g2 ri k v hk
     ·have I3:=I2.kept (t':=tk) kk;have q:∀(v:V)(H':Hp),aQ H H'->cf X.K (hid H' O) (.int (if ns.length=0 then i else ug (λk=>ns.getD k 0) ns.length)) v->Q v H':=q;rcases hv with⟨z,rfl⟩|⟨z,t,rfl⟩
      ·rw[if_pos z]at q;exact⟨.int i,H2,I3,rw',q _ H2 s1' (eZ.mpr rfl)⟩
      ·rw[if_neg ‹0›]at q;exact⟨.int _,H2,I3,⟨t,rfl⟩,q _ H2 s1' (eZ.mpr rfl)⟩
   ·cases hd
 ·exact st
end
section
variable[ay]{X:Cx}{p pos:Pos}{e:T8}
theorem yA{a e : T8}{fa : FX}{fs : aO}{apos cpos : Pos}(hu : X.A.units + 64 < UO)(ha : XE X a fa)(hs : XA X [e] fs)(hbase : UJ a "index" X.env (eval a X.env) = eval a X.env := by rfl)(hfew : ((backTo cpos (Uo [e] X.env)).all (fun x => !x.1) && (backToKw cpos (UM [] X.env)).all (fun x => x.1.isSome)
      && decide (([e]:bi).length+([]:List UV).length+(if([]:List UV).isEmpty then 0 else 1)<30))=true:=by rfl)(hline:(apos.endLine==cpos.line)=true:=by rfl)(hst:Uo [e] X.env=(false,eval e X.env)::Uo [] X.env:=by rfl)(hplain:(backTo cpos (Uo [] X.env)).any (·.1)=false:=by rfl):XE X (.Call (.Attribute a "index" apos) [e] [] cpos) (vS fa fs):=⟨PE.weak (BZ T3 TY PySem.F.type_list_index (Av hu) ha.h hs.h hbase hfew hline hst hplain) λσ H Q ⟨O,ρ,E,hF⟩=>⟨O,ρ,E,(fi.bind hF).imp λx hF v H1 s1 d1=>by
    cases x with
    |lst ys=>
      obtain⟨p,vs,rfl,g1,g2⟩:=b7.mp d1;have g1':=(aB H1 O).seq g1;refine⟨.inl ⟨rfl,vs,g1'⟩,O,ρ,E.same s1,((fi.bind hF).mono s1).imp λds hF ws H2 s2 d2=>?_⟩
      match ds,hF,d2 with
      |[b],hF,d2=>
        obtain⟨w,rfl,db⟩:=d2.one;obtain⟨d,e,q⟩:=fi.rO hF;refine⟨H1,p,ys,vs,b,w,d,s2,rfl,rfl,g1',(g2.mono (aB H1 O)).mono s2,db.mono (aB H2 O),e,λw' dw=>q w' H2 (s1.trans s2) ?_⟩;have hg':(if(pl b&&lu ys)&&cV 8 b then(uG b ys).map (λ(j:Nat)=>D.int (j:Int))else none)=some d:=e;split at hg'
        · obtain⟨j,_,ed⟩:=Option.map_eq_some_iff.mp hg'
          subst ed;exact eZ.mpr (eZ.mp dw)
        ·cases hg'
      |[],hF,_=>exact hF.elim
      |_::_::_,hF,_=>exact hF.elim
    |_=>exact hF.elim⟩⟩
end
section
variable[ay]{X:Cx}
theorem D6{a b:T8}{fa fb:FX}{pos:Pos}(ha:XE X a fa)(hb:XE X b fb):XN X (.BinOp a .Add b pos) (f2 An fa fb):=⟨PE.weak (Gi xK ha.h hb.h) λσ H Q ⟨O,ρ,E,hF⟩=>
 ⟨O,ρ,E,(fi.bind hF).imp fun a hF x H1 s1 d1=>⟨O,ρ,E.same s1,((fi.bind hF).mono s1).imp fun b hF y H2 s2 d2=>by
  obtain⟨d,e,q⟩:=fi.rO hF;cases a with
  |lst xs=>
   cases b with
   |lst ys=>
    obtain⟨h1,h2⟩:=aY e;subst h2;have d3:=d1.mono (bQ s2);rw[b7]at d3 d2;obtain⟨p,vs,ex,g1,g2⟩:=d3;obtain⟨p',vs',ey,g1',g2'⟩:=d2;refine⟨p,p',vs,vs',ex,ey,(aB H2 O).seq g1,(aB H2 O).seq g1',?_,λr hr=>?_⟩
    ·rw[<-g2.length,<-g2'.length];exact cD h1
    ·exact q r _ ((s1.trans s2).trans (cQ hr _)) ((s1.trans s2).free hr) ⟨_,aA,trivial⟩ (ou hr (g2.append g2'))
   |_=>cases e
  |_=>cases e⟩⟩⟩
theorem yo{a e : T8}{fa : FX}{fs : aO}{apos cpos : Pos}(hu : X.A.units + 64 < UO)(ha : XE X a fa)(hs : XA X [e] fs)(hbase : UJ a "count" X.env (eval a X.env) = eval a X.env := by rfl)(hfew : ((backTo cpos (Uo [e] X.env)).all (fun x => !x.1) && (backToKw cpos (UM [] X.env)).all (fun x => x.1.isSome)
      && decide (([e]:bi).length+([]:List UV).length+(if([]:List UV).isEmpty then 0 else 1)<30))=true:=by rfl)(hline:(apos.endLine==cpos.line)=true:=by rfl)(hst:Uo [e] X.env=(false,eval e X.env)::Uo [] X.env:=by rfl)(hplain:(backTo cpos (Uo [] X.env)).any (·.1)=false:=by rfl):XE X (.Call (.Attribute a "count" apos) [e] [] cpos) (wu fa fs):=⟨PE.weak (BZ T3 TZ PySem.F.type_list_count (A9 hu) ha.h hs.h hbase hfew hline hst hplain) λσ H Q ⟨O,ρ,E,hF⟩=>⟨O,ρ,E,(fi.bind hF).imp λx hF v H1 s1 d1=>by
    cases x with
    |lst ys=>
      obtain⟨p,vs,rfl,g1,g2⟩:=b7.mp d1;have g1':=(aB H1 O).seq g1;refine⟨.inl ⟨rfl,vs,g1'⟩,O,ρ,E.same s1,((fi.bind hF).mono s1).imp λds hF ws H2 s2 d2=>?_⟩
      match ds,hF,d2 with
      |[b],hF,d2=>
        obtain⟨w,rfl,db⟩:=d2.one;obtain⟨d,e,q⟩:=fi.rO hF;refine⟨H1,p,ys,vs,b,w,d,s2,rfl,rfl,g1',(g2.mono (aB H1 O)).mono s2,db.mono (aB H2 O),e,λw' dw=>q w' H2 (s1.trans s2) ?_⟩;obtain⟨_,ed⟩:=aY (show(if(pl b&&lu ys)&&cV 8 b then some (D.int (ys.countP λy=>pyEq y b:Nat))else none)=some d from e);subst ed;exact eZ.mpr (eZ.mp dw)
      |[],hF,_=>exact hF.elim
      |_::_::_,hF,_=>exact hF.elim
    |_=>exact hF.elim⟩⟩
end
section
variable[ay]
theorem uk{X:Cx}{k k':Nat}{ps:ax}{g:bD}{h:aO}{x:Str}{p pos:Pos}{e:T8}{es:bi}(C:ub X.prog X.w X.K X.mg X.base k x ps g)(hn:Ar ps.length g)(hr:hV k' X.A)(hk:k<=k')(ha:XA X (e::es) h)(hg:Gl X x:=by rfl)(hdb:(x==("__debug__":Str))=false:=by decide)(hns:(e::es).all noStar=true:=by rfl):XE X (.Call (.Name x p) (e::es) [] pos) (fR g h):=by
 refine⟨?_⟩;obtain⟨f,fd,F,b,kp,m⟩:=C;exact PE.weak (CH F (hr.mono hk) hg m kp b ha.h hdb (bS (QN _ _ ▸ hns).1) (cG (QN _ _ ▸ hns).2)) (sI hn)
theorem ww{X:Cx}{pos:Pos}{x:Str}{e:T8}{es:bi}{f:aO}{np cpos:Pos}{k k':Nat}{ps fs:ax}(hc:X.calm=true)(hx:X.ex=[])(RA:kF X.prog X.w X.K X.mg X.base k x ps fs)(hr:fM k' X.A)(hk':k+1<=k')(hg:Gl X x)(ha:XA X (e::es) f)(hdb:(x==("__debug__":Str))=false:=by decide)(hns:(e::es).all noStar=true:=by rfl):XS X (.Raise (some (.Call (.Name x np) (e::es) [] cpos)) none pos) (kj x fs f):=⟨λHb Ob pins s σ H D I h=>by
 obtain⟨O,ρ,k1,r,S,hF,hk⟩:=h;obtain⟨C,fI,fd,cl,EI,F,hb,hm⟩:=RA;obtain⟨nm,q,N,bs,bm,hdct,sn,sub,ab,col,dd,l0,l1,l2,l3,l5,hcls⟩:=EI.cls;have st:Uo (e::es) X.env=_:=bS (QN _ _ ▸ hns).1;rw[arm_exec_Raise];have hT:=(hcls _ I.kIn).2.2;refine Uw (UW (vO (C:=C) (nm:=nm) (q:=q) (N:=N) (bs:=bs) (bm:=bm) (hdct:=hdct) (sn:=sn) (sub:=sub) (ab:=ab) (col:=col) (dd:=dd) (k0:=l0) (k1:=l1) (k2:=l2) (k3:=l3) (k5:=l5) (newId:="ValueError.__new__") (hT.hasType PySem.F.excBase_ValueError.hasBase) (I.ok.hd hc) ?_));refine Uw (Up ?_ (λv s' z=>Uw (UW (Uv z))) λ_ _ z=>z);refine UU (hW I hg hm ?_ hdb);have A1:=ha.h cpos pins s σ H (λvs H1=>∃ds,vs.length=fs.length/\vs.length<=Ug/\aQ H H1/\aN X.K (hid H1 O) ds vs/\k1.ex ⟨x,fs,ds⟩ ρ=r) I ⟨O,ρ,S.env,fi.on hF hk S λds e vs H' s' d'=>by
  cases z:(small ds.length&&ds.length==fs.length)with
  |false=>rw[z]at e;exact absurd e.symm hk.ne
  |true=>
   rw[z]at e;rw[QN,beq_iff_eq]at z;exact⟨ds,by rw[<-d'.length];exact z.2,by rw[<-d'.length];exact cD z.1,s',d',e⟩⟩
 refine SR (h₀:=X.base) I.ok.mod.kin EI.kp (cu A1 λus s1 h1=>?_) st (cG (QN _ _ ▸ hns).2);obtain⟨vs,H1,I1,rv,ds,hl,hz,sm,dn,hex⟩:=h1;refine⟨I1.kIn,?_⟩;obtain⟨hC,⟨mN,hN,hi⟩,T⟩:=hcls _ I1.kIn;obtain⟨oI,hoI,hcI⟩:∃o,s1.heap.get? fI=some o/\o.cls=.type "function":=by
  have z:(X.K.lookup fI).map (·.cls)=some (.type "function"):=EI.fn;cases y:X.K.lookup fI with
  |none=>rw[y]at z;cases z
  |some o=>rw[y]at z;exact⟨o,I1.kIn _ _ y,Option.some.inj z⟩
 refine qu (h:=s1.heap) (g:=s1.gens) (d:=s1.drawn) (t:=s1.toks) (os:=s1.os) T2 (by decide +kernel) T2 T hC hN hi hoI hcI (λh' ee m=>?_) (show us.length<=Ug by rw[<-rv.length];exact hz);obtain⟨t,m1,m2,m3⟩:=m.there;have nf:=qZ I1 hx m.new;have I2:=adopt (ob:=.ext (qB C ee t)) (I1.kept (t':=s1.toks) m.keeps) nf.1 nf.2.1 nf.2.2.1 nf.2.2.2.1 nf.2.2.2.2 (EF ⟨_,m1,rfl,rfl,rfl⟩);have r2:Vals (V.ref ee::vs) (Value.ref ee::us):=.cons rfl rv;have dne:∀d,upd H1 ee (.ext (qB C ee t)) d=none->d≠ee:=λd z w=>by rw[w,aA]at z;cases z
 have spec:NX C fs (V.ref ee::vs) (upd H1 ee (.ext (qB C ee t))) (λv H3=>v=.non/\∃d,H1 d=none/\d≠ee/\H3=upd (upd H1 d (.own ee)) ee (.ext (iu C ee t d (fs.zip vs)))) E0:=⟨ee,t,vs,rfl,hl,aA,λd hd ne=>⟨rfl,d,by rw[aw ne]at hd;exact hd,ne,by
  funext b;by_cases z:b=ee
  ·rw[z,aA,aA]
  ·rw[aw z,aw z];by_cases y:b=d
   ·rw[y,aA,aA]
   ·rw[aw y,aw z,aw y]⟩⟩
 have hlen:(Value.ref ee::us++[]).length=ps.length:=by
  have:=r2.length
  rw[F.len _ _ _ _ spec]at this;rw[QB];exact this.symm
 have hb':=hb {s1 with heap:=h'} (Value.ref ee::us) I2.kIn hlen;rw[QB]at hb';refine UR (UT (F.run _ X.stack _ _ ⟨Value.ref ee::us,[]⟩ (Value.ref ee::us) _ _ E0 ((hr.mono hk').make C us []) (I2.env0.make C us []) hb' r2 spec) λr s' hq'=>?_);cases r with
 |error e=>exact Fw pins σ _ _ e s' I2 hq'
 |ok fl=>
  cases fl with
  |ret u=>
   obtain⟨v,H',I3,rv',⟨ev,d,hd,ne,eH⟩⟩:=I2.after hq';subst ev eH;refine⟨rv',?_⟩;obtain⟨I4,fl,sl,he⟩:=DZ I1 hx m.new hd I3;have s14:aQ H1 (upd H1 d (.xd (fs.zip vs))):=λb o z=>by rw[aw (aP z hd)];exact z
   have dO:d∉O:=(S.env.all.same sm).not hd;exact⟨ee,t,some d,sl,rfl,(hcls _ I4.kIn).1,he,hk.ex O ρ σ _ _ (S.same (sm.trans s14)) hex pins s' _ _ I4 (aQ.refl _) ⟨ee,C,some d,rfl,⟨cl,vs,dn.mono (bQ s14),hl.symm,.inr ⟨d,rfl,by rw[jQ dO];exact aA⟩⟩,fl⟩⟩
  |next=>exact False.elim hq'
  |brk=>exact False.elim hq'
  |cont=>exact False.elim hq'⟩
end
section
variable[ay]{X:Cx}
theorem Bm{o e:T8}{fo fk:FX}{pos:Pos}(hu:X.A.units+64<UO)(ho:XE X o fo)(hi:XE X e fk)(hs:GH e):XE X (.Subscript o e pos) (f2 qX fo fk):=⟨PE.weak (C6 ‹0› ho.h hi.h hs) λσ H Q ⟨O,ρ,E,hF⟩=>⟨O,ρ,E,(fi.bind hF).imp λdd hF v H1 s1 d1=>⟨O,ρ,E.same s1,((fi.bind hF).mono s1).imp λk hF y H2 s2 d2=>by
  obtain⟨d,hg,q⟩:=fi.rO hF;unfold qX at hg;cases e:Gg dd k with
  |none=>rw[e]at hg;cases hg
  |some o=>
   rw[e]at hg;have hg:o=some d:=hg;subst hg;obtain⟨al,qk,rfl,rfl,z0⟩:=uy e;obtain⟨a,ea,hh⟩:=uT (d1.mono (bQ s2));have ey:=pC d2;subst ey;rcases hh with⟨kvs,k1,k2,k3⟩|⟨_,rfl⟩
   ·rcases pM qk k2 k3 with⟨_,z2⟩|⟨w,d',z1,z2,z3⟩
    ·rw[z2]at z0;cases z0
    ·rw[z2]at z0;cases z0;exact⟨a,w,ea,by rw[<-z1];exact yp.k ((aB H2 O) _ _ k1),q w H2 (s1.trans s2) z3⟩
   ·cases z0⟩⟩⟩
theorem zV{k v:T8}{fk fv:FX}{pos:Pos}(hk:XE X k fk)(hv:XE X v fv):XE X (.Dict [some k] [v] pos) (gW [(fk,fv)]):=⟨qe (fs:=[(fk,fv)]) (gU hk.h hv.h oY) rfl rfl (by simp) (by simp)⟩
theorem zt{k v k' v':T8}{fk fv fk' fv':FX}{pos:Pos}(hk:XE X k fk)(hv:XE X v fv)(hk':XE X k' fk')(hv':XE X v' fv'):XE X (.Dict [some k,some k'] [v,v'] pos) (gW [(fk,fv),(fk',fv')]):=⟨qe (fs:=[(fk,fv),(fk',fv')]) (gU hk.h hv.h (gU hk'.h hv'.h oY)) rfl rfl (by simp) (by simp)⟩
theorem zG{k v k' v' k2 v2:T8}{fk fv fk' fv' fk2 fv2:FX}{pos:Pos}(hk:XE X k fk)(hv:XE X v fv)(hk':XE X k' fk')(hv':XE X v' fv')(hk2:XE X k2 fk2)(hv2:XE X v2 fv2):XE X (.Dict [some k,some k',some k2] [v,v',v2] pos) (gW [(fk,fv),(fk',fv'),(fk2,fv2)]):=⟨qe (fs:=[(fk,fv),(fk',fv'),(fk2,fv2)]) (gU hk.h hv.h (gU hk'.h hv'.h (gU hk2.h hv2.h oY))) rfl rfl (by simp) (by simp)⟩
end
section
variable[ay]{X:Cx}{pos:Pos}
theorem CI{es:bi}{k:Nat}{g:Ae}{n:Nat}(hc:X.calm=true)(h:Fy X es g)(hn:(assignEach es X.env).length=n:=by rfl)(hst:(assignEach es X.env).findIdx? (·.1)=none:=by rfl):XG X (.Tuple es k pos) (KW n g):=by
 refine⟨?_⟩;rintro pins s σ H v u Q I r ⟨O,ρ,d,ρ',E,hd,hg,q⟩;cases d with
 |lst xs=>
  obtain⟨p,vs,ev,g1,g2⟩:=b7.mp hd;have hg':(if xs.length=n then g xs ρ else none)=some ρ':=hg;by_cases hl:xs.length=n
  ·rw[if_pos hl]at hg';subst ev;cases r;obtain⟨its,rv,⟨o,m,e1,e2,e3,e4⟩,hz⟩:=I.list ((aB H O).seq g1);have hL:s.heap.IsList p its.toArray:=⟨o,e1,e2,m,e4⟩
   have hsz:(assignEach es X.env).length=its.toArray.size:=by
    rw[hn,<-hl,g2.length,Qs];exact rv.length
   rw[PyProof.Rows.assign_Tuple];refine Uw (UW ?_);unfold unpack;rw[hsz,hst];refine Uw (U3 (PySem.W.kun_itemsOf (I.ok.hd hc) hL λh' hx=>?_));have I1:Inv X pins σ H {s with heap:=h'}:=I.kept (t':=s.toks) λb o e=>hx b o (Qg (To e)) e;exact h.h pins _ σ H vs _ Q I1 (by simpa using rv) ⟨O,ρ,xs,ρ',E,g2,hg',q⟩
  ·rw[if_neg hl]at hg';cases hg'
 |_=>cases hg
theorem zp{k v:T8}{fk fv:FX}{pos:Pos}(hk:XE X k fk)(hv:XE X v fv):XN X (.Dict [some k] [v] pos) (gW [(fk,fv)]):=⟨za (fs:=[(fk,fv)]) (gU hk.h hv.h oY) rfl rfl (by simp) (by simp)⟩
end
theorem DU{X:Cx}{pos:Pos}{body suite:dE}{b₀:T9}{g n:Str}{gp hpos:Pos}{F Fh:bw}{cs:ax}{i:Nat}(hx:X.ex=[])(hst:X.stack=X.env::X.outer)(hf:X.env.frame=some X.env.locals)(hfn:∀x,X.fn x=true)
  (hT:vi X.K X.mg g cs) (hg:Gl X g) (hN:X.N.Nodup) (hi:X.N[i]?=some n) (hl:X.env.scope.names.lookup n=some .local)
  (hb:∀E pn,Uy (model X.prog X.w) X.A X.env E->qR (uo X E pn) body F) (hs:∀A pn,A.depth=X.A.depth->A.units=X.A.units->qR (pD X A pn) (b₀::suite) Fh) (hdb:(g==("__debug__":Str))=false:=by decide):
  XS X (.Try body [.ExceptHandler (some (.Name g gp)) (some n) (b₀::suite) hpos] [] [] pos) (zY cs i F Fh):=⟨TG.LK hx hst hf hfn hT hg hN hi hl (λE pn hp=>(hb E pn hp).h) (λA pn h1 h2=>(hs A pn h1 h2).h) hdb⟩
noncomputable abbrev Lk(K:Sn)(f:T7)(nm qual:Str)(st:T9)(oc:T5)(od:iq)(kV dc pm:T5)(an:iq)(cd ct:T5)(sl:Array (Option T5)):Prop:=K.lookup f=some ⟨oc,od,.func (SV nm qual (jv st) (cY st) (au st) .none kV dc pm an cd ct),sl⟩
structure xM(P:Uc)(w:Ub)(K:Sn)(mg:bU)(base:Ue)(k:Nat)(N:ax)(qual:Str)(st:T9)(f:T7)(B:bw):Prop where
 h:∀(cdv:T5)(A:Uj)(outer:List Env)(s:Ua)(H:Hp)(E:XK),fM k (A.deeper (TH qual (au st) s.heap.objs.size f cdv))->Uy (model P w) (A.deeper (TH qual (au st) s.heap.objs.size f cdv)) (TH qual (au st) s.heap.objs.size f cdv) (jg (kX P w) P w K mg base N qual (au st) f cdv A outer s H E).xe->
  qR (jg (kX P w) P w K mg base N qual (au st) f cdv A outer s H E) (cY st) B
structure BH(P:Uc)(w:Ub)(K:Sn)(mg:bU)(base:Ue)(k:Nat)(N:ax)(qual:Str)(st:T9)(f:T7)(B:bw):Prop where
 h:∀(cdv:T5)(A:Uj)(outer:List Env)(s:Ua)(H:Hp)(E:XK),hV k (A.deeper (TH qual (au st) s.heap.objs.size f cdv))->Uy (model P w) (A.deeper (TH qual (au st) s.heap.objs.size f cdv)) (TH qual (au st) s.heap.objs.size f cdv) (FR P w K mg base N qual (au st) f cdv A outer s H E).xe->
  qR (FR P w K mg base N qual (au st) f cdv A outer s H E) (cY st) B
theorem BH.ok{P:Uc}{w:Ub}{K:Sn}{mg:bU}{base:Ue}{k:Nat}{N:ax}{qual:Str}{st:T9}{f:T7}{B:bw}(h:BH P w K mg base k N qual st f B):uc P w K mg base k N qual st f B:=⟨λcdv A outer s H E hr hp=>(h.h cdv A outer s H E hr hp).h⟩
theorem xM.ok{P:Uc}{w:Ub}{K:Sn}{mg:bU}{base:Ue}{k:Nat}{N:ax}{qual:Str}{st:T9}{f:T7}{B:bw}(h:xM P w K mg base k N qual st f B):BodyOk P w K mg base k N qual st f B:=⟨λcdv A outer s H E hr hp=>(h.h cdv A outer s H E hr hp).h⟩
section
variable{X:Cx}{x:Str}{pos:Pos}
theorem xw(i:Nat)(hN:X.N[i]?=some x:=by rfl)(hv:HM X.env.scope x:=by first|exact Or.inl rfl|exact Or.inr (Or.inl rfl)|exact Or.inr (Or.inr rfl))(hd:(x==("__debug__":Str))=false:=by decide)(hcd:(x==("__classdict__":Str))=false:=by decide):XE X (.Name x pos) (af i):=C1 (xv i hN hv hd hcd)
theorem xi{a b:T8}{fa fb:FX}(ha:XE X a fa)(hb:XE X b fb)(hs:t7 b:=by exact λ_ _=>rfl):XE X (.Subscript a b pos) (f2 ap fa fb):=Gu ha hb hs
theorem xa1{e:T8}{f:FX}(he:XE X e f)(h:noStar e=true:=by rfl):XA X [e] (aa f ah):=pq he xx h
theorem xa2{e e':T8}{f f':FX}(he:XE X e f)(he':XE X e' f')(h:noStar e=true:=by rfl)(h':noStar e'=true:=by rfl):XA X [e,e'] (aa f (aa f' ah)):=pq he (xa1 he' h') h
theorem xs(i:Nat){e:T8}{f:FX}{pos':Pos}(hN:X.N.Nodup)(he:XE X e f)(hi:X.N[i]?=some x:=by rfl)(hx:Loc X.env.scope x:=by first|exact Or.inl rfl|exact Or.inr rfl)(hs:swapsWith e (some (.Name x pos')) pos.line X.env=pure false:=by rfl)(hf:X.fn x=true\/X.env.scope.names.lookup x=some .local:=by first|exact .inl rfl|exact .inr rfl|assumption):XS X (.Assign [.Name x pos'] e pos) (aM i f):=DK hN hi hx he hs hf
end
noncomputable def MM:ax->Bool
 |[]=>true
 |x::r=>!(r.contains x)&&MM r
theorem si{l:ax}(h:MM l=true):l.Nodup:=by
 induction l with
 |nil=>exact List.nodup_nil
 |cons x r ih=>
  simp only[MM,QN,RX]at h;exact List.nodup_cons.mpr ⟨λm=>by rw[List.contains_iff_mem.mpr m]at h;exact absurd h.1 (by decide),ih h.2⟩
noncomputable def Fq:T8->ax
 |.Name x _=>[x]
 |.Tuple es _ _=>es.filterMap λe=>match e with
  |.Name x _=>some x
  |_=>none
 |_=>[]
noncomputable def Cm(N:ax):fZ->ax->ax
 |[],_=>[]
 |some j::r,t=>N.getD j ""::Cm N r t
 |none::r,x::t=>x::Cm N r t
 |none::r,[]=>""::Cm N r []
section
variable{X:Cx}{elt tg iter:T8}{ifs:bi}{scope:Uk}{ix:fZ}{G:aO}{g:GF}{C:bZ}{Fe:FX}{i:Nat}{y:Str}{lpos py pos:Pos}
theorem xl(hc:X.calm=true)(tk:oC ix g)(hi:XI X tg iter G)(hb:qx X scope (Cm X.N ix (Fq tg)) tg elt ifs g C Fe)(ok:kh X.env.scope.names X.N scope (Cm X.N ix (Fq tg)) ix=true:=by rfl)(hs:∀x,Uz iter X.env x=pure x:=by intro _;rfl):XE X (.ListComp elt [⟨tg,iter,ifs,0⟩] scope pos) (fU ix G g C Fe):=HW hc (.of ok) tk hi hb hs
theorem Pg(hc:X.calm=true)(tk:oC ix g)(hi:XI X tg iter G)(hb:qx X scope (Cm X.N ix (Fq tg)) tg elt ifs g C Fe)(ok:kh X.env.scope.names X.N scope (Cm X.N ix (Fq tg)) ix=true:=by rfl)(hs:∀x,Uz iter X.env x=pure x:=by intro _;rfl):XN X (.ListComp elt [⟨tg,iter,ifs,0⟩] scope pos) (fU ix G g C Fe):=Hl hc (.of ok) tk hi hb hs
theorem Og(hN:X.N.Nodup)(hc:X.calm=true)(tk:oC ix g)(hi:XI X tg iter G)(hb:qx X scope (Cm X.N ix (Fq tg)) tg elt ifs g C Fe)(hi':X.N[i]?=some y:=by rfl)(hx:Loc X.env.scope y:=by first|exact Or.inl rfl|exact Or.inr rfl)(ok:kh X.env.scope.names X.N scope (Cm X.N ix (Fq tg)) ix=true:=by rfl)(hsw:swapsWith (.ListComp elt [⟨tg,iter,ifs,0⟩] scope lpos) (some (.Name y py)) pos.line X.env=pure true:=by rfl)(hs:∀x,Uz iter X.env x=pure x:=by intro _;rfl)(hf:X.fn y=true\/X.env.scope.names.lookup y=some .local:=by first|exact .inl rfl|exact .inr rfl|assumption):XS X (.Assign [.Name y py] (.ListComp elt [⟨tg,iter,ifs,0⟩] scope lpos) pos) (aM i (fU ix G g C Fe)):=GI hN hi' hx hc (.of ok) tk hi hb hsw hs hf
theorem Qb(hN:X.N.Nodup)(hc:X.calm=true)(tk:oC ix g)(hi:XI X tg iter G)(hb:qx X scope (Cm X.N ix (Fq tg)) tg elt ifs g C Fe)(hi':X.N[i]?=some y:=by rfl)(hx:Loc X.env.scope y:=by first|exact Or.inl rfl|exact Or.inr rfl)(ok:kh X.env.scope.names X.N scope (Cm X.N ix (Fq tg)) ix=true:=by rfl)(hsw:swapsWith (.ListComp elt [⟨tg,iter,ifs,0⟩] scope lpos) (some (.Name y py)) pos.line X.env=pure true:=by rfl)(hs:∀x,Uz iter X.env x=pure x:=by intro _;rfl)(hf:X.fn y=true\/X.env.scope.names.lookup y=some .local:=by first|exact .inl rfl|exact .inr rfl|assumption):XS X (.Assign [.Name y py] (.ListComp elt [⟨tg,iter,ifs,0⟩] scope lpos) pos) (ui i (fU ix G g C Fe)):=zS hN hi' hx hc (.of ok) tk hi hb hsw hs hf
end
structure U where
 P:Uc
 w:Ub
 K:Sn
 mg:bU
 base:Ue
 cL:T7
 T:T7
noncomputable abbrev Ca(u:U)(k:Nat)(x:Str)(ps:ax)(g:bD):Prop:=Callee u.P u.w u.K u.mg u.base k x ps g
noncomputable abbrev N6(u:U)(k:Nat)(x:Str)(ps:ax)(g:bD):Prop:=ub u.P u.w u.K u.mg u.base k x ps (Bz g)
noncomputable abbrev Ma(u:U)(k:Nat)(c m:Str)(ps:ax)(g:bD):Prop:=MethAt u.P u.w u.K u.mg u.base k c m ps g
noncomputable abbrev Ta(u:U)(k:Nat)(m:Str)(ps:ax)(t:List (Str×(bD))):Prop:=pP u.P u.w u.K u.mg u.base k m ps t
noncomputable def Df(u:U)(x:Str)(st:T9):Prop:=∃f fd,mj u.K x x st f fd/\u.mg x=some (.ref f)
noncomputable def Dm(u:U)(c m qual:Str)(st:T9):Prop:=∃C f fd,clsAt u.K c C/\jK u.K C/\Meth u.K C m f/\mj u.K m qual st f fd
noncomputable def Bd(x qual:Str)(st:T9)(ps:ax):Prop:=∀us:aS,us.length=ps.length->∀(kV doc pm:T5)(an:iq)(cdv ct:T5),bindArgs (SV x qual (jv st) (cY st) (au st) .none kV doc pm an cdv ct) ⟨us,[]⟩=pure (ps.zip us)
theorem mj.bd{K:Sn}{x qual:Str}{st:T9}{f:T7}{fd:UP}{ps:ax}(F:mj K x qual st f fd)(h:Bd x qual st ps):Binds K fd ps []:=F.binds λkV doc pm an cdv ct us e=>h us e kV doc pm an cdv ct
section
variable{u:U}{x c m qual:Str}{st:T9}{ps:ax}{k:Nat}{B:bw}
theorem DH(M:ax)(d:Df u x st)(b:Bd x x st ps)(sc:bu (ps++M) ps (au st))(h:(ps++M).Nodup->∀f,xM u.P u.w u.K u.mg u.base k (ps++M) x st f B):Ca u (k+1) x ps (ao B ps.length (ps++M).length):=by
 obtain⟨f,fd,F,e⟩:=d;exact ya F (mj.bd F b) e sc (h sc.nd f).ok
theorem OS(M:ax)(d:Df u x st)(b:Bd x x st ps)(sc:bu (ps++M) ps (au st))(h:(ps++M).Nodup->∀f,BH u.P u.w u.K u.mg u.base k (ps++M) x st f B):N6 u (k+1) x ps (ao B ps.length (ps++M).length):=by
 obtain⟨f,fd,F,e⟩:=d;exact wz F (mj.bd F b) e sc (h sc.nd f).ok
theorem Gj(d:Df u x st)(b:Bd x x st ps):Ca u k x ps λ_=>un:=by
 obtain⟨f,fd,F,e⟩:=d;exact uX k F (mj.bd F b) e
theorem E9(d:Dm u c m qual st)(b:Bd m qual st ps):Ma u k c m ps λ_=>un:=by
 obtain⟨C,f,fd,h1,h2,h3,F⟩:=d;have no:∀vs H Q E,¬wa u.K ps.length (λ_=>un) vs H Q E:=λvs H Q E ⟨O,ds,_,_,_,e⟩=>e;exact⟨C,f,fd,h1,h2,h3,⟨λvs H Q E h=>absurd h (no vs H Q E),λA outer s H args us vs Q E _ _ _ _ h=>absurd h (no vs H Q E)⟩,mj.bd F b⟩
theorem JP(M:ax)(d:Dm u c m qual st)(b:Bd m qual st ps)(sc:bu (ps++M) ps (au st))(h:(ps++M).Nodup->∀f,xM u.P u.w u.K u.mg u.base k (ps++M) qual st f B):Ma u (k+1) c m ps (ao B ps.length (ps++M).length):=by
 obtain⟨C,f,fd,h1,h2,h3,F⟩:=d;exact ye h1 h2 h3 F (mj.bd F b) sc (h sc.nd f).ok
theorem Ot(M:ax){f:T7}{fd:UP}(F:mj u.K x x st f fd)(sc:bu (ps++M) ps (au st))(h:(ps++M).Nodup->xM u.P u.w u.K u.mg u.base k (ps++M) x st f B):gS u.P u.w u.K u.mg u.base (kX u.P u.w) (k+1) f fd ps (wa u.K ps.length (ao B ps.length (ps++M).length)):=tD F sc (h sc.nd).ok
end
noncomputable def KD(K:Sn)(x:Str)(st:T9):Prop:=∃f oc od kV dc pm an cd ct sl,S0 K Uh x=some (some (.ref f))/\Lk K f x x st oc od kV dc pm an cd ct sl/\SW K cd x=true/\SN K (.ref f)=true
theorem KD.mk{K:Sn}{x:Str}{st:T9}{f:T7}{oc:T5}{od:iq}{kV dc pm:T5}{an:iq}{cd ct:T5}{sl:Array (Option T5)}(a:S0 K Uh x=some (some (.ref f)))(l:Lk K f x x st oc od kV dc pm an cd ct sl)(c:SW K cd x=true)(k:SN K (.ref f)=true):KD K x st:=⟨f,oc,od,kV,dc,pm,an,cd,ct,sl,a,l,c,k⟩
noncomputable def KDs(K:Sn):List (Str×T9)->Prop
 |[]=>True
 |p::r=>KD K p.1 p.2/\KDs K r
theorem KDs.mk{K:Sn}{x:Str}{st:T9}{r:List (Str×T9)}(h:KD K x st)(t:KDs K r):KDs K ((x,st)::r):=⟨h,t⟩
noncomputable def KO(u:U)(Z:Prop):List (Str×T9)->Prop
 |[]=>Z
 |p::r=>KO u Z r/\Df u p.1 p.2
noncomputable def KZs(K:Sn):ax->Prop
 |[]=>True
 |x::r=>S0 K Uh x=some none/\KZs K r
theorem KZs.mk{K:Sn}{x:Str}{r:ax}(h:S0 K Uh x=some none)(t:KZs K r):KZs K (x::r):=⟨h,t⟩
noncomputable def Zs(u:U):ax->Prop
 |[]=>True
 |x::r=>Zs u r/\u.mg x=none
section
variable{u:U}{h:Ue}
theorem KO.of{Z:Prop}(X:u.K.In h)(G:h.Ns Uh u.mg)(z:Z):∀{l:List (Str×T9)},KDs u.K l->KO u Z l
 |[],_=>z
 |_::_,h=>by
  obtain⟨⟨_,_,_,_,_,_,_,_,_,_,a,l,c,k⟩,r⟩:=h;exact⟨KO.of X G z r,_,_,aR l c k,Tn X G a⟩
theorem Zs.of(X:u.K.In h)(G:h.Ns Uh u.mg):∀{l:ax},KZs u.K l->Zs u l
 |[],_=>trivial
 |_::_,⟨a,r⟩=>⟨Zs.of X G r,PySem.W.mg_none_of X G a⟩
end
theorem Es{us:aS}{n:Nat}(h:us.length=n+1):∃a r,us=a::r/\r.length=n:=by
 cases us with
 |nil=>cases h
 |cons a r=>exact⟨a,r,rfl,Nat.succ.inj h⟩
theorem Jg{us:aS}(h:us.length=1):∃a,us=[a]:=List.length_eq_one_iff.mp h
theorem Bc{us:aS}(h:us.length=2):∃a b,us=[a,b]:=by
 obtain⟨a,r,rfl,k⟩:=Es h;obtain⟨b,rfl⟩:=Jg k;exact⟨a,b,rfl⟩
theorem wq{us:aS}(h:us.length=3):∃a b c,us=[a,b,c]:=by
 obtain⟨a,r,rfl,k⟩:=Es h;obtain⟨b,c,rfl⟩:=Bc k;exact⟨a,b,c,rfl⟩
theorem Ec{us:aS}(h:us.length=4):∃a b c d,us=[a,b,c,d]:=by
 obtain⟨a,r,rfl,k⟩:=Es h;obtain⟨b,c,d,rfl⟩:=wq k;exact⟨a,b,c,d,rfl⟩
theorem JX{us:aS}(h:us.length=5):∃a b c d e,us=[a,b,c,d,e]:=by
 obtain⟨a,r,rfl,k⟩:=Es h;obtain⟨b,c,d,e,rfl⟩:=Ec k;exact⟨a,b,c,d,e,rfl⟩
end TX
namespace TG
open L2
instance(priority:=low) noTabs:ay:=⟨λ_=>True,λ_ _=>trivial,λ_ _ _=>trivial⟩
open PySem PySem.Spec L2
theorem nr{α:Sort _}{a b:α}(h:a=b):a=b:=h
theorem eI{α β:Type}(a:α)(f:α->R β):Except.bind (Except.ok a:R α) f=f a:=nr rfl
theorem rR{α β:Type}(x:Option Ex)(f:α->R β):Except.bind (Except.error x:R α) f=.error x:=nr rfl
theorem se{α:Type}(a:α)(k:Ks)(ρ:av)(f:α->R D):oW (.ok a) k ρ f=f a:=nr rfl
theorem rm{α:Type}(x:Ex)(k:Ks)(ρ:av)(f:α->R D):oW (.error (some x)) k ρ f=k.ex x ρ:=nr rfl
theorem jx{α:Type}(a:α):zE (.ok a:R α)=.ok a:=nr rfl
theorem dY{α:Type}(a:α):rO (some a)=.ok a:=nr rfl
theorem ge_0(d:D)(ρ:av):qC (some (.val d)::ρ) 0=.ok d:=rfl
theorem zv(x:Option S)(ρ:av)(i:Nat):qC (x::ρ) (i+1)=qC ρ i:=rfl
theorem nI(i:Nat)(ρ:av):af i ρ=qC ρ i:=rfl
theorem yV(d:D)(ρ:av):fC d ρ=.ok d:=rfl
theorem ng(ρ:av):ah ρ=.ok []:=rfl
theorem ku(f:FX)(g:aO)(ρ:av):aa f g ρ=(f ρ).bind λx=>(g ρ).bind λxs=>.ok (x::xs):=rfl
theorem mO(g:aO)(ρ:av):aT g ρ=(g ρ).bind λxs=>rO (ql xs):=rfl
theorem nQ(g:aO)(ρ:av):dh g ρ=(g ρ).bind λxs=>rO (n8 xs):=rfl
theorem z8(g:D->bx)(f:FX)(ρ:av):f1 g f ρ=(f ρ).bind λa=>rO (g a):=rfl
theorem zb(g:D->D->bx)(f h:FX)(ρ:av):f2 g f h ρ=(f ρ).bind λa=>(h ρ).bind λb=>rO (g a b):=rfl
theorem yB(f:FX)(ρ:av):fB f ρ=(f ρ).bind λd=>rO (Mh d):=rfl
theorem yC(g:List D->bx)(f:aO)(ρ:av):fL g f ρ=(f ρ).bind λds=>rO (g ds):=rfl
theorem zL(g:bD)(f:aO)(ρ:av):fR g f ρ=(f ρ).bind g:=nr rfl
theorem mX(f:bZ)(ρ:av):mY f ρ=(f ρ).bind λb=>.ok (!b):=rfl
theorem mQ(f g:bZ)(ρ:av):nG f g ρ=(f ρ).bind λb=>if b then g ρ else .ok false:=rfl
theorem sj(f g:bZ)(ρ:av):vC f g ρ=(f ρ).bind λb=>if b then .ok true else g ρ:=rfl
theorem iX(f:FX)(ρ:av):aZ f ρ=(f ρ).bind λd=>rO (truth d):=rfl
theorem kQ(f g:FX)(ρ:av):iR f g ρ=(f ρ).bind λd=>wA d (g ρ):=rfl
theorem nY(f g:FX)(ρ:av):Bk f g ρ=(f ρ).bind λd=>Kf d (g ρ):=rfl
theorem kR(f:FX)(ρ:av):uw f ρ=(f ρ).bind λa=>rO (Iq a):=rfl
theorem qV(t:bZ)(f g:FX)(ρ:av):vX t f g ρ=(t ρ).bind λc=>if c then f ρ else g ρ:=rfl
theorem mC(T:String)(f:FX)(ρ:av):oA T f ρ=(f ρ).bind λa=>rO (Ak T a):=rfl
theorem nS(f:FX)(ρ:av):uz f ρ=(f ρ).bind λa=>.ok (.bl (isNon a)):=rfl
theorem kP(f:FX)(ρ:av):Jv f ρ=(f ρ).bind λa=>.ok (.bl (!isNon a)):=rfl
theorem nN(f:FX)(ρ:av):qN f ρ=(f ρ).bind λa=>rO (Hy a):=rfl
theorem iW(f:FX)(ρ:av):GJ f ρ=(f ρ).bind λa=>rO (Cy a):=rfl
theorem nD(f:FX)(ρ:av):K7 f ρ=(f ρ).bind λa=>rO (HE a):=rfl
theorem iL(g g':D->D->bx)(fa fb fc:FX)(ρ:av):fX g g' fa fb fc ρ=(fa ρ).bind λx=>(fb ρ).bind λy=>(rO (g x y)).bind λz=>wA z ((fc ρ).bind λw=>rO (g' y w)):=rfl
theorem iY(f:FX)(ρ:av):bV f ρ=(f ρ).bind λd=>rO (pS d):=rfl
theorem gK(f:aO)(ρ:av):du f ρ=(f ρ).bind λds=>rO (kK ds):=rfl
theorem gH(f:aO)(ρ:av):ml f ρ=(f ρ).bind λds=>rO (lX ds):=rfl
theorem nM(f:aO)(ρ:av):yw f ρ=(f ρ).bind λds=>rO (AJ ds):=rfl
theorem kC(f:aO)(ρ:av):fu f ρ=(f ρ).bind λds=>rO (sK ds):=rfl
theorem mP(z:Str):OC (.str z)=some z:=rfl
theorem gL(ρ:av):gx ρ=.ok none:=rfl
theorem kS(f:FX)(ρ:av):lQ f ρ=(f ρ).bind λd=>rO (vY d):=rfl
theorem iz(f:FX)(l h:av->R dr)(ρ:av):jc f l h ρ=(f ρ).bind λa=>(l ρ).bind λlo=>(h ρ).bind λhi=>rO (pX a lo hi):=rfl
theorem kD(ρ:av):bX ρ=.ok true:=rfl
theorem ky(k:Ks)(ρ:av):bb k ρ=k.nx ρ:=nr rfl
theorem gu(A B:bw)(k:Ks)(ρ:av):aq A B k ρ=A {k with nx:=B k} ρ:=nr rfl
theorem kT(f:FX)(k:Ks)(ρ:av):aJ f k ρ=oW (f ρ) k ρ .ok:=nr rfl
theorem iH(k:Ks)(ρ:av):J0 k ρ=.ok .non:=nr rfl
theorem nh(c:bZ)(A B:bw)(k:Ks)(ρ:av):dy c A B k ρ=oW (c ρ) k ρ λb=>if b then A k ρ else B k ρ:=nr rfl
theorem kz(i:Nat)(f:FX)(k:Ks)(ρ:av):aM i f k ρ=oW (f ρ) k ρ λd=>k.nx (setV i d ρ):=nr rfl
theorem iV(is:List Nat)(F:bw)(k:Ks)(ρ:av):gM is F k ρ=F k (kill is ρ):=nr rfl
theorem gq(G:aO)(g:GF)(B:bw)(k:Ks)(ρ:av):o5 G g B k ρ=oW (G ρ) k ρ λds=>fN g B k ds ρ:=nr rfl
theorem yh(d:D)(x:Option S)(ρ:av):setV 0 d (x::ρ)=some (.val d)::ρ:=rfl
theorem yz(i:Nat)(d:D)(x:Option S)(ρ:av):setV (i+1) d (x::ρ)=x::setV i d ρ:=rfl
theorem ni(ρ:av):kill [] ρ=ρ:=rfl
theorem kE(i:Nat)(is:List Nat)(ρ:av):kill (i::is) ρ=kill is (ρ.set i none):=rfl
theorem dm(B:bw)(n:Nat)(a:D):ao B 1 n [a]=B K0 (env0 n [a]):=nr rfl
theorem bB(B:bw)(n:Nat)(a b:D):ao B 2 n [a,b]=B K0 (env0 n [a,b]):=nr rfl
theorem fh(B:bw)(n:Nat)(a b c:D):ao B 3 n [a,b,c]=B K0 (env0 n [a,b,c]):=nr rfl
theorem HS(B:bw)(n:Nat)(a b c d:D):ao B 4 n [a,b,c,d]=B K0 (env0 n [a,b,c,d]):=nr rfl
theorem nO(ρ:av):inB [] ρ=[]:=rfl
theorem kq(ix:fZ)(ρ:av):inB (none::ix) ρ=none::inB ix ρ:=rfl
noncomputable def pick(ρ:av)(i:Nat):Option S:=match ρ[i]? with
 |some (some (.val d))=>some (.val d)
 |_=>none
theorem km(i:Nat)(ix:fZ)(ρ:av):inB (some i::ix) ρ=pick ρ i::inB ix ρ:=rfl
theorem z7(d:D)(ρ:av):pick (some (.val d)::ρ) 0=some (.val d):=rfl
theorem yt(x:Option S)(ρ:av)(i:Nat):pick (x::ρ) (i+1)=pick ρ i:=rfl
theorem kr(i:Nat)(f:FX)(k:Ks)(ρ:av):ui i f k ρ=oW (f ρ) k ρ λd=>k.nx (ρ.set i (some (.own d))):=nr rfl
theorem kI(i:Nat)(F:bw)(k:Ks)(ρ:av):Ez i F k ρ=F k (frz i ρ):=nr rfl
theorem zC(d:D)(ρ:av):frz 0 (some (.own d)::ρ)=some (.val d)::ρ:=rfl
theorem sr(d:D)(ρ:av):frz 0 (some (.val d)::ρ)=some (.val d)::ρ:=rfl
theorem zi(i:Nat)(x:Option S)(ρ:av):frz (i+1) (x::ρ)=x::frz i ρ:=by
 unfold frz;rw[RD];split<;>rename_i h
 ·rw[h];rfl
 ·rfl
theorem nV(i j:Int):bE (.int i) (.int j)=some (.int (i+j)):=nr rfl
theorem nq(i j:Int):TG.pT (.int i) (.int j)=some (.int (i-j)):=nr rfl
theorem sF(i j:Int):PQ (.int i) (.int j)=some (.bl (decide (i<j))):=nr rfl
theorem nA(i j:Int):lV (.int i) (.int j)=some (.bl (decide (i<j))):=nr rfl
theorem nB(x y:Str):lV (.str x) (.str y)=some (.bl (decide (x.cps.toList<y.cps.toList))):=nr rfl
theorem ny(c d:Bool):MB (.bl c) (.bl d)=some (.bl (c==d)):=nr rfl
theorem gJ(c d:Bool):DY (.bl c) (.bl d)=some (.bl (!(c==d))):=nr rfl
theorem rB(i j:Int):u9 (.int i) (.int j)=some (.bl (decide (i<=j))):=nr rfl
theorem sA(i j:Int):IQ (.int i) (.int j)=some (.bl (decide (j<i))):=nr rfl
theorem qS(i j:Int):Jt (.int i) (.int j)=some (.bl (decide (j<=i))):=nr rfl
theorem mD(i:Int):Hy (.int i)=some (.int (-i)):=nr rfl
theorem hJ{i j:Int}(h:0<j):cT (.int i) (.int j)=some (.int (i%j)):=by
 show(if decide (0<j)then some (D.int (i%j))else none)=_;rw[decide_eq_true h];rfl
theorem ir{i j:Int}(h:0<j)(h':j<10^200):gR (.int i) (.int j)=some (.int (i/j)):=by
 show(if decide (0<j/\j<10^200)then some (D.int (i/j))else none)=_;rw[decide_eq_true ⟨h,h'⟩];rfl
theorem js{i j:Int}(h:-(2^64)<i)(h':i<2^64):gE (.int i) (.int j)=some (.int (i*j)):=by
 show(if decide ((-(2^64)<i/\i<2^64)\/(-(2^64)<j/\j<2^64))then some (D.int (i*j))else none)=_;rw[decide_eq_true (.inl ⟨h,h'⟩)];rfl
theorem oO{i j:Int}(h:-(2^64)<j)(h':j<2^64):gE (.int i) (.int j)=some (.int (i*j)):=by
 show(if decide ((-(2^64)<i/\i<2^64)\/(-(2^64)<j/\j<2^64))then some (D.int (i*j))else none)=_;rw[decide_eq_true (.inr ⟨h,h'⟩)];rfl
theorem Hz(i:Int)(n:Nat)(h:n<=1000000)(h':i.natAbs<2^64):yP (.int i) (.int n)=some (.int (i^n)):=by
 show(if decide (0<=(n:Int)/\(n:Int)<=1000000/\i.natAbs<2^64)then some (D.int (i^(n:Int).toNat))else none)=_;rw[decide_eq_true ⟨by omega,by omega,h'⟩];rfl
noncomputable def zT:Int:=10^60
theorem iI(i j:Int):gk (.int i) (.int j)=some (.bl (i==j)):=by unfold gk pyEq;rfl
theorem iD(i j:Str):gk (.str i) (.str j)=some (.bl (i==j)):=by unfold gk pyEq;rfl
theorem iF(i j:Bool):gk (.bl i) (.bl j)=some (.bl (i==j)):=by unfold gk pyEq;rfl
theorem iT(i j:Int):lg (.int i) (.int j)=some (.bl (!(i==j))):=by unfold lg pyEq;rfl
theorem iO(i j:Str):lg (.str i) (.str j)=some (.bl (!(i==j))):=by unfold lg pyEq;rfl
theorem iP(i j:Bool):lg (.bl i) (.bl j)=some (.bl (!(i==j))):=by unfold lg pyEq;rfl
theorem Bq{α:Type}(xs:List α)(n:Nat):nJ xs (n:Int)=xs[n]?:=by
 unfold nJ HF;rw[if_pos ‹0›];by_cases h:n<xs.length
 ·rw[if_pos ‹0›];rfl
 ·rw[if_neg ‹0›,R0 ‹0›];rfl
theorem yO{α:Type}(a:α)(xs:List α):nJ (a::xs) 0=some a:=Bq (a::xs) 0
theorem yK{α:Type}(a:α)(xs:List α)(n:Nat):nJ (a::xs) ((n+1:Nat):Int)=nJ xs (n:Int):=by
 rw[Bq,Bq,RD]
theorem LU(xs:List D)(i:Int):ap (.tup xs) (.int i)=nJ xs i:=nr rfl
theorem Nw(xs:List D)(i:Int):ap (.lst xs) (.int i)=nJ xs i:=nr rfl
theorem rH(a:D)(xs:List D):ap (.tup (a::xs)) (.int 0)=some a:=yO a xs
theorem sM(a b:D)(xs:List D):ap (.tup (a::b::xs)) (.int 1)=some b:=(yK a _ 0).trans (yO b xs)
theorem sd(a b c:D)(xs:List D):ap (.tup (a::b::c::xs)) (.int 2)=some c:=(yK a _ 1).trans ((yK b _ 0).trans (yO c xs))
theorem rL(a:D)(xs:List D):ap (.lst (a::xs)) (.int 0)=some a:=yO a xs
theorem rW(a b:D)(xs:List D):ap (.lst (a::b::xs)) (.int 1)=some b:=(yK a _ 0).trans (yO b xs)
theorem sL(a b c:D)(xs:List D):ap (.lst (a::b::c::xs)) (.int 2)=some c:=(yK a _ 1).trans ((yK b _ 0).trans (yO c xs))
theorem ja(xs:List D):fj [.lst xs]=some (.int xs.length):=nr rfl
theorem iC(xs:List D):fj [.tup xs]=some (.int xs.length):=nr rfl
theorem fD(xs:List D):gh [.lst xs]=some (.tup xs):=nr rfl
theorem fA(xs:List D):gh [.tup xs]=some (.tup xs):=nr rfl
theorem mW(b:Bool):Mh (.bl b)=some b:=nr rfl
theorem gI(i:Int):vY (.int i)=some (some i):=nr rfl
theorem fJ(b:Bool):truth (.bl b)=some b:=nr rfl
theorem fE(xs:List D):truth (.tup xs)=some (!xs.isEmpty):=nr rfl
theorem fK(xs:List D):truth (.lst xs)=some (!xs.isEmpty):=nr rfl
theorem mF(i j:Int):oh [.int i,.int j]=some (.int (if j>i then j else i)):=nr rfl
theorem lB(i j:Int):n6 [.int i,.int j]=some (.int (if j<i then j else i)):=nr rfl
theorem fG(xs:List D):pS (.lst xs)=some xs:=nr rfl
theorem fm(xs:List D):pS (.tup xs)=some xs:=nr rfl
theorem iK(k:R D):wA (.bl true) k=k:=nr rfl
theorem iG(k:R D):wA (.bl false) k=.ok (.bl false):=nr rfl
theorem kt(k:R D):Kf (.bl true) k=.ok (.bl true):=nr rfl
theorem ki(k:R D):Kf (.bl false) k=k:=nr rfl
theorem dC(a b:Bool):wA (.bl a) (.ok (.bl b))=.ok (.bl (a&&b)):=by cases a<;>rfl
theorem kM(a b:Bool):Kf (.bl a) (.ok (.bl b))=.ok (.bl (a||b)):=by cases a<;>rfl
theorem nX(b:Bool):Iq (.bl b)=some (.bl (!b)):=nr rfl
theorem mU(xs:List D):HE (.lst xs)=some (.lst xs.reverse):=nr rfl
theorem kA(n:Nat)(h:n<2^62):kK [.int n]=some (dF 0 n):=by
 show(if okR (n:Int)then some (dF 0 ((n:Int).toNat))else none)=_
 have:okR (n:Int)=true:=decide_eq_true ⟨by omega,by omega⟩
 rw[this];rfl
theorem xL{α:Type}(f:α->D)(h:∀a,pl (f a)=true):∀xs:List α,lu (xs.map f)=true
 |[]=>rfl
 |x::xs=>by
  show(pl (f x)&&lu (xs.map f))=true;rw[h,xL f h xs];rfl
theorem Ef(f:Str->D)(hf:f=D.str)(w:Str)(ws:ax):inD (.str w) (ws.map f)=ws.any λy=>y==w:=by
 subst hf;unfold inD;rw[RP];congr 1
theorem tJ(w:Str)(ws:ax):t9 (.str w) (.tup (ws.map .str))=some (.bl (ws.contains w)):=by
 show(if(pl (.str w)&&lu (ws.map .str))&&cV 8 (.str w)then some (D.bl (inD (.str w) (ws.map .str)))else none)=_;rw[Ef _ rfl,xL _ λ_=>rfl];show some (D.bl _)=_;congr 2
 induction ws with
 |nil=>rfl
 |cons x xs ih=>rw[QU,RK,ih,Bool.beq_comm]
theorem gY(xs ys:List D)(h:xs.length+ys.length<=100000):bE (.tup xs) (.tup ys)=some (.tup (xs++ys)):=by
 show(if small (xs.length+ys.length)then some (D.tup (xs++ys))else none)=_;rw[lY h];rfl
theorem kL(xs:List D)(lo hi:dr):pX (.lst xs) lo hi=some (.lst (cutD xs lo hi)):=nr rfl
theorem kB(xs:List D)(lo hi:dr):pX (.tup xs) lo hi=some (.tup (cutD xs lo hi)):=nr rfl
theorem fQ{ix:fZ}{G:aO}{g:GF}{C:bZ}{Fe:FX}{ρ:av}{ds r:List D}(h1:G ρ=.ok ds)(h2:ds.length<=100000)(h3:yF (inB ix ρ) g C Fe ds=.ok r):fU ix G g C Fe ρ=.ok (.lst r):=by
 unfold fU;rw[h1,eI,lY h2,h3];rfl
theorem pc{α:Type}{ρ:av}{g:GF}{C:bZ}{Fe:FX}(mk:α->D)(p:α->Bool)(v:α->D):∀xs:List α,(∀a∈xs,∃ρ1,g (mk a) ρ=some ρ1/\C ρ1=.ok (p a)/\Fe ρ1=.ok (v a))->
  yF ρ g C Fe (xs.map mk)=.ok ((xs.filter p).map v)
 |[],_=>rfl
 |a::xs,h=>by
  obtain⟨ρ1,h1,h2,h3⟩:=h a Qk;rw[Qw,lZ,h1,dY,eI,h2,jx,eI,h3,jx,eI,pc mk p v xs λb hb=>h b (Ql _ hb)];cases e:p a with
  |true=>rw[if_pos rfl,R1 e];rfl
  |false=>rw[if_neg Qu,R3 (by simp[e])]
theorem ip{α:Type}{ρ:av}{g:GF}{C:bZ}{Fe:FX}(mk:α->D)(v:α->D)(xs:List α)(h:∀a∈xs,∃ρ1,g (mk a) ρ=some ρ1/\C ρ1=.ok true/\Fe ρ1=.ok (v a)):yF ρ g C Fe (xs.map mk)=.ok (xs.map v):=by
 rw[pc mk (λ_=>true) v xs h,List.filter_eq_self.mpr λ_ _=>rfl]
theorem xQ{g:GF}{B:bw}{k:Ks}(Iv:Nat->av->Prop):∀(ds:List D)(i:Nat)(ρ:av),(∀j d ρ (k':Ks),i<=j->ds[j-i]?=some d->Iv j ρ->∃ρ1 ρ2,g d ρ=some ρ1/\Iv (j+1) ρ2/\B k' ρ1=k'.nx ρ2)->Iv i ρ->∃ρ',Iv (i+ds.length) ρ'/\fN g B k ds ρ=k.nx ρ'
 |[],i,ρ,_,h=>⟨ρ,h,rfl⟩
 |d::ds,i,ρ,st,h=>by
  obtain⟨ρ1,ρ2,e1,h2,e2⟩:=st i d ρ ⟨fN g B k ds,k.nx,fN g B k ds,k.ex⟩ (Qq _) (by rw[RN];rfl) h;obtain⟨ρ',h3,e3⟩:=xQ (g:=g) (B:=B) (k:=k) Iv ds (i+1) ρ2 (λj d' ρ k' hj hd=>st j d' ρ k' ‹0› (by rw[show j-i=(j-(i+1))+1 by omega,RD];exact hd)) h2;refine⟨ρ',?_,?_⟩
  ·rw[Qv]
   have:i+(ds.length+1)=i+1+ds.length:=(by omega);rw[this];exact h3
  ·show((rO (g d ρ)).bind λρ1=>B ⟨fN g B k ds,k.nx,fN g B k ds,k.ex⟩ ρ1)=_;rw[e1,dY,eI,e2];exact e3
theorem lR{g:GF}{B:bw}{k:Ks}{ds:List D}{ρ:av}{Q:R D->Prop}(Iv:Nat->av->Prop)(st:∀i d ρ (k':Ks),ds[i]?=some d->Iv i ρ->∃ρ1 ρ2,g d ρ=some ρ1/\Iv (i+1) ρ2/\B k' ρ1=k'.nx ρ2)(h:Iv 0 ρ)(q:∀ρ',Iv ds.length ρ'->Q (k.nx ρ')):Q (fN g B k ds ρ):=by
 obtain⟨ρ',h1,e⟩:=xQ (k:=k) Iv ds 0 ρ (λj d ρ k' _ hd=>st j d ρ k' hd) h;rw[e];rw[RH]at h1;exact q ρ' h1
theorem fw{α:Type}{xs:List α}{i:Nat}{a:α}(h:xs[i]?=some a):i<xs.length:=by
 rcases Nat.lt_or_ge i xs.length with z|z
 ·exact z
 ·rw[R0 z]at h;cases h
theorem Fg{α β:Type}(f:α->β)(xs:List α)(i:Int):nJ (xs.map f) i=(nJ xs i).map f:=by
 unfold nJ;rw[Qx];cases HF xs.length i with
 |none=>rfl
 |some j=>simp
theorem vy{α:Type}{xs:List α}{k:Nat}(h:k<xs.length):nJ xs (k:Int)=some xs[k]:=by
 unfold nJ HF;rw[if_pos ‹0›,if_pos ‹0›];simp[h]
theorem Ds{α:Type}{xs:List α}{i:Int}(h0:0<=i)(h:i<xs.length):nJ xs i=some (xs[i.toNat]'‹0›):=by
 have e:i=((i.toNat:Nat):Int):=by omega
 conv=>lhs;rw[e]
 exact vy ‹0›
noncomputable def Ge:bw:=aq (dy (fB (f2 lV (af 1) (fL fj (aa (af 0) ah)))) (aJ (f2 ap (af 0) (af 1))) bb) (aJ (fC (.int 0)))
theorem Dp(ns:List Int)(k:Nat):ao Ge 2 2 [.lst (ns.map .int),.int k]=.ok (.int (ns.getD k 0)):=by
 show(if decide ((k:Int)<((ns.map D.int).length:Int))then oW (rO (nJ (ns.map D.int) (k:Int))) _ _ .ok else .ok (.int 0))=_;rw[Qx];by_cases h:k<ns.length
 ·rw[if_pos (by simpa using h),Fg,vy h,Option.map_some,R4,Ri h];rfl
 ·rw[if_neg (by simpa using h),R4,R0 ‹0›];rfl
theorem A0(ns:List Int)(i:Int)(h:0<=i):∃c:Int,ao Ge 2 2 [.lst (ns.map .int),.int i]=.ok (.int c):=by
 have e:i=((i.toNat:Nat):Int):=by omega
 exact⟨ns.getD i.toNat 0,by rw[e];exact Dp ns i.toNat⟩
theorem wO(x y:Str):(x++y).length=x.length+y.length:=by
 show(x.cps++y.cps).size=_;rw[Array.size_append];rfl
theorem vj(x y:Str)(h:x.length<=1000)(h':y.length<=1000):bE (.str x) (.str y)=some (.str (x++y)):=by
 show(if small (x.length+y.length)then some (D.str (x++y))else none)=_;rw[lY ‹0›];rfl
theorem nH(lo:Int)(n:Nat):dF lo n=(List.range n).map λ(k:Nat)=>D.int (lo+(k:Int)):=nr rfl
theorem dZ(lo:Int)(n:Nat):(dF lo n).length=n:=by unfold dF;rw[Qx,Rr]
theorem str_int(i:Int)(h:i.natAbs<10^70):∃x:Str,Br [.int i]=some (.str x):=by
 refine⟨toString i,?_⟩;show(if decide (i.natAbs.log2<1920)then some (D.str (toString i))else none)=_;have e:i.natAbs.log2<1920:=by
  by_cases z:i.natAbs=0
  ·rw[z];decide
  ·rw[Nat.log2_lt z];exact QV h (by decide +kernel)
 rw[decide_eq_true e];rfl
theorem Hv{α:Type}(xs:List α)(m:Nat):cutD xs none (some (m:Int))=xs.take m:=by
 unfold cutD;rw[HT.Jw,HT.Kl,Rc,Ru];rcases Nat.le_total m xs.length with h|h
 ·rw[Nat.min_eq_left h]
 ·rw[Nat.min_eq_right h,R5 h,R5 (Qq _)]
theorem Bg{α:Type}(xs:List α)(m:Nat):cutD xs (some (m:Int)) none=xs.drop m:=by
 unfold cutD;rw[HT.Jw,HT.Kl];rcases Nat.le_total m xs.length with h|h
 ·rw[Nat.min_eq_left h];exact R5 (by rw[QM];exact Qq _)
 ·rw[Nat.min_eq_right h,RN,Ra,List.drop_eq_nil_of_le h]
local macro_rules
 |`(tactic| simp! only[$xs,*])=>`(tactic| simp only[eI,rR,se,rm,jx,dY,ge_0,zv,nI,yV,ng,ku,mO,nQ,z8,zb,yB,yC,zL,mX,mQ,sj,iX,kQ,nY,kR,qV,mC,nS,kP,nN,iW,nD,iL,iY,gK,gH,nM,kC,gL,kS,iz,kD,ky,gu,kT,iH,nh,kz,iV,gq,kr,kI,zC,sr,zi,yh,yz,ni,kE,nO,kq,km,z7,yt,R6,R7,Qw,QR,QZ,Ro,K0,env0,List.replicate,RO,QB,RH,Nat.reduceAdd,Nat.reduceSub,Qv,QT,nV,nq,sF,nA,nB,ny,gJ,mP,rB,sA,qS,mD,iI,iD,iF,iT,iO,iP,rH,sM,sd,rL,rW,sL,ja,iC,fD,fA,mW,gI,fJ,fE,fK,mF,lB,fG,fm,iK,iG,kt,ki,dC,kM,nX,mU,kL,kB,gN,if_true,if_false,RV,R8,QY,$xs,*])
theorem Fo(a b c:D):ql [a,b,c]=some (.tup [a,b,c]):=nr rfl
theorem xf(a b:D):ql [a,b]=some (.tup [a,b]):=nr rfl
theorem IR(a:D):ql [a]=some (.tup [a]):=nr rfl
theorem Pj:ql []=some (.tup []):=nr rfl
theorem Oq:n8 []=some (.lst []):=nr rfl
noncomputable def BC:bw:=aJ (fL gh (aa (fU [none] (bV (f2 bE (f2 ap (af 0) (fC (.int 0))) (f2 ap (af 0) (fC (.int 1))))) (gN 0) bX (f2 ap (af 0) (fC (.int 1)))) ah))
theorem kinds_ok(kf rf:List D)(ps:List (Str×D))(hl:kf.length+rf.length<=100)(e:kf++rf=ps.map (λp=>.tup [.str p.1,p.2])):ao BC 1 1 [.tup [.tup kf,.tup rf]]=.ok (.tup (ps.map (·.2))):=by
 have hl':ps.length<=100:=by have:=congrArg List.length e;rw[QK,Qx]at this;omega
 have f0:fU [none] (bV (f2 bE (f2 ap (af 0) (fC (.int 0))) (f2 ap (af 0) (fC (.int 1))))) (gN 0) bX (f2 ap (af 0) (fC (.int 1))) [some (.val (.tup [.tup kf,.tup rf]))]=.ok (.lst (ps.map (·.2))):=by
  refine fQ (ds:=ps.map (λp=>.tup [.str p.1,p.2])) ?_ (by rw[Qx];omega) ?_
  ·simp! only[];rw[gY _ _ ‹0›,e];simp! only[]
  ·refine ip _ _ ps λp _=>⟨_,rfl,rfl,?_⟩
   simp! only[]
 rw[dm];unfold BC;simp! only[f0]
inductive F2{α β:Type}(R:α->β->Prop):List α->List β->Prop where
 |nil:F2 R [] []
 |cons {a:α} {b:β} {as:List α} {bs:List β} (h:R a b) (t:F2 R as bs):F2 R (a::as) (b::bs)
theorem Bx{ρ:av}{g:GF}{C:bZ}{Fe:FX}:∀(ds:List D)(P:Nat->D->Prop),(∀i d,ds[i]?=some d->∃ρ1 v,g d ρ=some ρ1/\C ρ1=.ok true/\Fe ρ1=.ok v/\P i v)->∃vs:List D,vs.length=ds.length/\(∀i v,vs[i]?=some v->P i v)/\yF ρ g C Fe ds=.ok vs
 |[],_,_=>⟨[],rfl,(λ_ _ h=>nomatch h),rfl⟩
 |d::ds,P,h=>by
  obtain⟨ρ1,w,h1,h2,h3,h4⟩:=h 0 d rfl;obtain⟨ws,e1,e2,e3⟩:=Bx (ρ:=ρ) (g:=g) (C:=C) (Fe:=Fe) ds (λi v=>P (i+1) v) λi d' hd=>h (i+1) d' (by rw[RD];exact hd);refine⟨w::ws,by rw[Qv,Qv,e1],λi v hv=>?_,?_⟩
  ·cases i with
   |zero=>cases hv;exact h4
   |succ i=>rw[RD]at hv;exact e2 i v hv
  ·rw[lZ,h1,dY,eI,h2,jx,eI,h3,jx,eI,e3];rfl
end TG
namespace TD
open PySem PySem.Spec L2 TG TX
noncomputable def ce:bw:=aq (dy (fB (f2 lV (af 1) (fL fj (aa (af 0) ah)))) (aJ (f2 ap (af 0) (af 1))) bb) (aJ (fC (.int 0)))
noncomputable def cJ:bw:=aJ (fL gh (aa (fU [none] (bV (f2 bE (f2 ap (af 0) (fC (.int 0))) (f2 ap (af 0) (fC (.int 1))))) (gN 0) bX (f2 ap (af 0) (fC (.int 0)))) ah))
noncomputable def cK:bw:=aJ (f2 bE (f2 bE (jc (af 0) gx (lQ (af 1))) (af 2)) (jc (af 0) (lQ (f2 bE (af 1) (fC (.int 1)))) gx))
noncomputable def dS:bw:=aJ (f2 lV (af 1) (fL fj (aa (f2 ap (af 0) (fC (.int 0))) ah)))
noncomputable def bK:bw:=aq (dy (aZ (fR (ao dS 2 2) (aa (af 0) (aa (af 1) ah)))) (aJ (aT (aa (fR (ao cK 3 3) (aa (f2 ap (af 0) (fC (.int 0))) (aa (af 1) (aa (af 2) ah)))) (aa (f2 ap (af 0) (fC (.int 1))) ah)))) bb) (aJ (aT (aa (f2 ap (af 0) (fC (.int 0))) (aa (fR (ao cK 3 3) (aa (f2 ap (af 0) (fC (.int 1))) (aa (f2 pT (af 1) (fL fj (aa (f2 ap (af 0) (fC (.int 0))) ah))) (aa (af 2) ah)))) ah))))
noncomputable def cI:bw:=aJ (fL gh (aa (fU [none] (bV (f2 bE (f2 ap (af 0) (fC (.int 0))) (f2 ap (af 0) (fC (.int 1))))) (gN 0) bX (f2 ap (af 0) (fC (.int 1)))) ah))
noncomputable def kg(cz:bD):bw:=aq (dy (fB (f2 gk (f2 ap (af 0) (fC (.int 0))) (fC (.str "number")))) (aJ (f2 ap (af 0) (fC (.int 1)))) bb) (aq (dy (fB (f2 gk (f2 ap (af 0) (fC (.int 0))) (fC (.str "word")))) (aJ (f2 ap (f2 ap (af 0) (fC (.int 1))) (fC (.int 0)))) bb) (aq (dy (mY (aZ (f2 ap (af 0) (fC (.int 2))))) (aJ (aT ah)) bb) (aJ (aT (aa (fL gh (aa (fU [none] (bV (fR (ao cI 1 1) (aa (f2 ap (af 0) (fC (.int 1))) ah))) (gN 0) bX (fR cz (aa (af 0) ah))) ah)) ah)))))
noncomputable def cz:Nat->bD
 |0=>λ_=>un
 |n+1=>ao (kg (cz n)) 1 1
theorem eU(n:Nat):cz (n+1)=ao (kg (cz n)) 1 1:=by rw[cz]
theorem pY:∀n:Nat,Ar 1 (cz n)
 |0=>λ_ h=>absurd (by rw[cz]) h
 |n+1=>by rw[eU];exact et
noncomputable def eE:bw:=aJ (f2 ap (fR (cz 12) (aa (aT (aa (fC (.str "rows")) (aa (af 0) (aa (fC (.bl true)) ah)))) ah)) (fC (.int 0)))
noncomputable def bJ:bw:=aJ (f2 ap (f2 ap (f2 bE (f2 ap (af 0) (fC (.int 0))) (f2 ap (af 0) (fC (.int 1)))) (af 1)) (fC (.int 1)))
noncomputable def bH:bw:=aq (aM 3 (f2 bE (f2 ap (af 0) (fC (.int 0))) (f2 ap (af 0) (fC (.int 1))))) (aJ (fL qp (aa (fU [none,none,some 1,some 2] (fu (aa (af 3) ah)) (gT 2 (qt [0,1])) bX (iR (f2 gk (f2 ap (af 1) (fC (.int 0))) (af 2)) (f2 lG (af 0) (af 3)))) ah)))
noncomputable def cP:bw:=aJ (vX (aZ (oA "str" (af 0))) (f2 bE (fC (.str ".")) (af 0)) (fL Br (aa (af 0) ah)))
noncomputable def eF:bw:=aJ (f2 cT (f2 bE (f2 bE (f2 gE (af 0) (af 0)) (f2 gE (fC (.int 48271)) (af 0))) (fC (.int 11))) (fC (.int 2147483647)))
noncomputable def cH:bw:=aq (aM 2 (f2 cT (f2 bE (f2 bE (f2 cT (fR (ao ce 2 2) (aa (af 0) (aa (af 1) ah))) (fC (.int 2147483647))) (f2 gE (f2 gE (fC (.int 69621)) (af 1)) (af 1))) (fC (.int 5))) (fC (.int 2147483647)))) (aJ (fR (ao eF 1 1) (aa (fR (ao eF 1 1) (aa (af 2) ah)) ah)))
noncomputable def aL:bw:=aq (aM 2 (fC (.str "abcdefghijklmnopqrstuvwxyz"))) (aq (aM 1 (f2 cT (f2 bE (f2 gE (af 1) (f2 ap (dh (aa (fC (.int 1)) (aa (fC (.int 5)) (aa (fC (.int 7)) (aa (fC (.int 11)) (aa (fC (.int 13)) (aa (fC (.int 23)) ah))))))) (f2 cT (af 0) (fC (.int 6))))) (f2 gR (af 0) (fC (.int 6)))) (fC (.int 24)))) (aq (aM 0 (f2 gR (af 0) (fC (.int 144)))) (aq (dy (fB (f2 gk (f2 cT (af 0) (fC (.int 3))) (fC (.int 0)))) (aJ (f2 w8 (f2 ap (af 2) (f2 cT (f2 bE (f2 gR (af 0) (fC (.int 3))) (f2 gR (af 1) (fC (.int 8)))) (fC (.int 26)))) (f2 bE (fC (.int 1)) (f2 cT (af 1) (fC (.int 8)))))) bb) (aq (aM 3 (f2 bE (fC (.int 1)) (f2 cT (f2 gR (af 0) (fC (.int 3))) (fC (.int 8))))) (aq (aM 4 (fC (.str ""))) (aq (o5 (du (aa (af 3) ah)) (gN 5) (aq (aM 6 (f2 gR (af 0) (f2 bE (fC (.int 24)) (f2 gE (f2 gE (fC (.int 11)) (af 5)) (af 5))))) (aq (dy (fB (f2 gk (af 5) (f2 cT (f2 gR (af 0) (fC (.int 24))) (af 3)))) (aM 6 (f2 bE (af 6) (af 1))) bb) (aq (aM 4 (f2 bE (af 4) (f2 ap (af 2) (f2 cT (af 6) (fC (.int 26)))))) (gM [5,6] bb))))) (aJ (af 4))))))))
end TD
namespace TD
open PySem PySem.Spec L2 TG
local macro_rules
 |`(tactic| simp! only[$xs,*])=>`(tactic| simp only[eI,rR,se,rm,jx,dY,ge_0,zv,nI,yV,ng,ku,mO,nQ,z8,zb,yB,yC,zL,mX,mQ,sj,iX,kQ,nY,kR,qV,mC,nS,kP,nN,iW,nD,iL,iY,gK,gH,nM,kC,gL,kS,iz,kD,ky,gu,kT,iH,nh,kz,iV,gq,kr,kI,zC,sr,zi,yh,yz,ni,kE,nO,kq,km,z7,yt,R6,R7,Qw,QR,QZ,Ro,K0,env0,List.replicate,RO,QB,RH,Nat.reduceAdd,Nat.reduceSub,Qv,QT,nV,nq,sF,nA,nB,ny,gJ,mP,rB,sA,qS,mD,iI,iD,iF,iT,iO,iP,rH,sM,sd,rL,rW,sL,ja,iC,fD,fA,mW,gI,fJ,fE,fK,mF,lB,fG,fm,iK,iG,kt,ki,dC,kM,nX,mU,kL,kB,gN,if_true,if_false,RV,R8,QY,$xs,*])
theorem KU(ns:List Int)(i:Int)(h:0<=i):∃c:Int,ao ce 2 2 [.lst (ns.map .int),.int i]=.ok (.int c):=A0 ns i h
local macro_rules
 |`(tactic| simp! only[$xs,*])=>`(tactic| simp only[eI,rR,se,rm,jx,dY,ge_0,zv,nI,yV,ng,ku,mO,nQ,z8,zb,yB,yC,zL,mX,mQ,sj,iX,kQ,nY,kR,qV,mC,nS,kP,nN,iW,nD,iL,iY,gK,gH,nM,kC,gL,kS,iz,kD,ky,gu,kT,iH,nh,kz,iV,gq,kr,kI,zC,sr,zi,yh,yz,ni,kE,nO,kq,km,z7,yt,R6,R7,Qw,QR,QZ,Ro,K0,env0,List.replicate,RO,QB,RH,Nat.reduceAdd,Nat.reduceSub,Qv,QT,nV,nq,sF,nA,nB,ny,gJ,mP,rB,sA,qS,mD,iI,iD,iF,iT,iO,iP,rH,sM,sd,rL,rW,sL,ja,iC,fD,fA,mW,gI,fJ,fE,fK,mF,lB,fG,fm,iK,iG,kt,ki,dC,kM,nX,mU,kL,kB,gN,if_true,if_false,RV,R8,QY,$xs,*])
theorem rd{g:GF}{B:bw}{k:Ks}{Q:R D->Prop}(Iv:Nat->av->Prop):∀(ds:List D)(o i:Nat)(ρ:av)(d:D),ds[i]?=some d->(∀j d ρ (k':Ks),j<i->ds[j]?=some d->Iv (o+j) ρ->∃ρ1 ρ2,g d ρ=some ρ1/\Iv (o+j+1) ρ2/\B k' ρ1=k'.nx ρ2)->Iv o ρ->
  (∀ρ (k':Ks),Iv (o+i) ρ->∃ρ1,g d ρ=some ρ1/\Q (B k' ρ1))->Q (fN g B k ds ρ)
 |[],_,_,_,_,h,_,_,_=>nomatch h
 |x::ds,o,0,ρ,d,h,_,hI,q=>by
  cases h;obtain⟨ρ1,e1,q1⟩:=q ρ ⟨fN g B k ds,k.nx,fN g B k ds,k.ex⟩ hI;show Q ((rO (g x ρ)).bind λρ1=>B ⟨fN g B k ds,k.nx,fN g B k ds,k.ex⟩ ρ1);rw[e1,dY,eI];exact q1
 |x::ds,o,i+1,ρ,d,h,st,hI,q=>by
  obtain⟨ρ1,ρ2,e1,h2,e2⟩:=st 0 x ρ ⟨fN g B k ds,k.nx,fN g B k ds,k.ex⟩ ‹0› rfl hI;show Q ((rO (g x ρ)).bind λρ1=>B ⟨fN g B k ds,k.nx,fN g B k ds,k.ex⟩ ρ1);rw[e1,dY,eI,e2];refine rd Iv ds (o+1) i ρ2 d (by rw[RD]at h;exact h) (λj d' ρ' k' hj hd hI'=>?_) h2 (λρ' k' hI'=>q ρ' k' (by rw[show o+(i+1)=o+1+i by omega];exact hI'));obtain⟨a,b,c1,c2,c3⟩:=st (j+1) d' ρ' k' ‹0› (by rw[RD];exact hd) (by rw[show o+(j+1)=o+1+j by omega];exact hI');exact⟨a,b,c1,by rw[show o+1+j+1=o+(j+1)+1 by omega];exact c2,c3⟩
noncomputable abbrev fld(p:Str×D):D:=.tup [.str p.1,p.2]
theorem jd(kf rf:List D)(ps:List (Str×D))(hl:ps.length<=100)(e:kf++rf=ps.map fld):ao cJ 1 1 [.tup [.tup kf,.tup rf]]=.ok (.tup (ps.map λp=>.str p.1)):=by
 have hl':kf.length+rf.length<=100:=by have:=congrArg List.length e;rw[QK,Qx]at this;omega
 have f0:fU [none] (bV (f2 bE (f2 ap (af 0) (fC (.int 0))) (f2 ap (af 0) (fC (.int 1))))) (gN 0) bX (f2 ap (af 0) (fC (.int 0))) [some (.val (.tup [.tup kf,.tup rf]))]=.ok (.lst (ps.map λp=>.str p.1)):=by
  refine fQ (ds:=ps.map fld) ?_ (by rw[Qx];omega) ?_
  ·simp! only[];rw[gY _ _ ‹0›,e];simp! only[]
  ·refine ip _ _ ps λp _=>⟨_,rfl,rfl,?_⟩
   simp! only[]
 rw[dm];unfold cJ;simp! only[f0]
theorem mH(xs:List D):sK [.tup xs]=some (gl 0 xs):=nr rfl
theorem jO:∀(xs:List D)(k i:Nat),(gl k xs)[i]?=(xs[i]?).map λx=>.tup [.int ((k+i:Nat):Int),x]
 |[],k,i=>by simp[gl]
 |x::xs,k,0=>by simp[gl]
 |x::xs,k,i+1=>by
  rw[gl,RD,jO xs (k+1) i,RD];congr 1;funext y;rw[show k+1+i=k+(i+1)by omega]
theorem rC(kf rf:List D)(ps:List (Str×D))(hl:ps.length<=100)(e:kf++rf=ps.map fld)(i:Nat)(nm:Str)(k:D)(hi:ps[i]?=some (nm,k)):ao bJ 2 2 [.tup [.tup kf,.tup rf],.int i]=.ok k:=by
 have hl':kf.length+rf.length<=100:=by have:=congrArg List.length e;rw[QK,Qx]at this;omega
 have g:ap (.tup (ps.map fld)) (.int (i:Int))=some (.tup [.str nm,k]):=by
  rw[LU,Bq,QI,hi];rfl
 rw[bB];unfold bJ;simp! only[gY kf rf ‹0›,e,g]
theorem lC(kf rf:List D)(i:Nat):ao dS 2 2 [.tup [.tup kf,.tup rf],.int i]=.ok (.bl (decide (i<kf.length))):=by
 rw[bB];unfold dS
 have:decide ((i:Int)<(kf.length:Int))=decide (i<kf.length):=by
  by_cases h:i<kf.length
  ·rw[decide_eq_true h,decide_eq_true ‹0›]
  ·rw[decide_eq_false h,decide_eq_false ‹0›]
 simp! only[this]
theorem mJ(vs os:List D)(i:Nat)(h:vs.length+os.length<=10000):ao cK 3 3 [.tup vs,.int i,.tup os]=.ok (.tup (vs.take i++os++vs.drop (i+1))):=by
 have l1:(vs.take i).length<=vs.length:=by rw[QE];omega
 have l2:(vs.drop (i+1)).length<=vs.length:=by rw[QM];omega
 have c:((i:Int)+1)=((i+1:Nat):Int):=by omega
 have a1:=gY (vs.take i) os ‹0›;have a2:=gY (vs.take i++os) (vs.drop (i+1)) (by rw[QK];omega);rw[fh];unfold cK;simp! only[c,Hv,Bg,a1,a2]
theorem zI(kf rf os:List D)(i:Nat)(h:kf.length+rf.length+os.length<=10000):ao bK 3 3 [.tup [.tup kf,.tup rf],.int i,.tup os]=.ok (if i<kf.length then .tup [.tup (kf.take i++os++kf.drop (i+1)),.tup rf]else .tup [.tup kf,.tup (rf.take (i-kf.length)++os++rf.drop (i-kf.length+1))]):=by
 rw[fh];unfold bK;by_cases hi:i<kf.length
 ·rw[if_pos hi];simp! only[lC,decide_eq_true hi,mJ kf os i ‹0›,xf]
 ·rw[if_neg hi];have c:((i:Int)-(kf.length:Int))=((i-kf.length:Nat):Int):=by omega
  simp! only[lC,decide_eq_false hi,c,mJ rf os (i-kf.length) ‹0›,xf]
theorem xn:∀bs:List Bool,anyB (bs.map .bl)=some (bs.any id)
 |[]=>rfl
 |b::bs=>by
  show(anyB (bs.map .bl)).bind (λc=>some (b||c))=_;rw[xn bs];rfl
theorem E6(bs:List Bool):qp [.lst (bs.map .bl)]=some (.bl (bs.any id)):=by
 have e:qp [.lst (bs.map .bl)]=(anyB (bs.map .bl)).bind λb=>some (D.bl b):=rfl;rw[e,xn];rfl
theorem yT(i j:Int):lG (.int i) (.tup [.int j])=some (.bl (!(j==i))):=by
 have e:lG (.int i) (.tup [.int j])=some (.bl (!inD (.int i) [.int j])):=rfl;rw[e];unfold inD;rw[QU,R9,QO,pyEq]
end TD
namespace T4
open PySem PySem.Spec L2 TG TD
local macro_rules
 |`(tactic| simp! only[$xs,*])=>`(tactic| simp only[eI,rR,se,rm,jx,dY,ge_0,zv,nI,yV,ng,ku,mO,nQ,z8,zb,yB,yC,zL,mX,mQ,sj,iX,kQ,nY,kR,qV,mC,nS,kP,nN,iW,nD,iL,iY,gK,gH,nM,kC,gL,kS,iz,kD,ky,gu,kT,iH,nh,kz,iV,gq,kr,kI,zC,sr,zi,yh,yz,ni,kE,nO,kq,km,z7,yt,R6,R7,Qw,QR,QZ,Ro,K0,env0,List.replicate,RO,QB,RH,Nat.reduceAdd,Nat.reduceSub,Qv,QT,nV,nq,sF,nA,nB,ny,gJ,mP,rB,sA,qS,mD,iI,iD,iF,iT,iO,iP,rH,sM,sd,rL,rW,sL,ja,iC,fD,fA,mW,gI,fJ,fE,fK,mF,lB,fG,fm,iK,iG,kt,ki,dC,kM,nX,mU,kL,kB,gN,if_true,if_false,RV,R8,QY,$xs,*])
theorem Lf{x:Str}{n:Int}(h:1<=n)(h':n<=1000)(hx:x.length<=1000):w8 (.str x) (.int n)=some (.str (kZ x n)):=by
 show(if decide (1<=n/\n<=1000/\x.length<=1000)then some (D.str (kZ x n))else none)=_;rw[decide_eq_true ⟨h,h',hx⟩];rfl
theorem xP(x:Int)(h0:0<=x)(h1:x<2147483700):∃y:Int,0<=y/\y<2147483647/\ao eF 1 1 [.int x]=.ok (.int y):=by
 have m1:=js (i:=x) (j:=x) ‹0› ‹0›;have m2:=js (i:=48271) (j:=x) (by decide) (by decide);have g:=λi=>hJ (i:=i) (show(0:Int)<2147483647 by decide);refine⟨(x*x+48271*x+11)%2147483647,Sa _ (by decide),Sb _ (by decide),?_⟩;rw[dm];unfold eF;simp! only[m1,m2,g]
theorem xS(ns:List Int)(k:Nat)(hk:k<=100):∃y:Int,0<=y/\y<2147483647/\ao cH 2 3 [.lst (ns.map .int),.int k]=.ok (.int y):=by
 obtain⟨c,ec⟩:=TD.KU ns k ‹0›;have m1:=js (i:=69621) (j:=(k:Int)) (by decide) (by decide);have m2:=oO (i:=69621*(k:Int)) (j:=(k:Int)) ‹0› ‹0›;have g:=λi=>hJ (i:=i) (show(0:Int)<2147483647 by decide);obtain⟨y1,a1,b1,e1⟩:=xP ((c%2147483647+69621*(k:Int)*(k:Int)+5)%2147483647) (Sa _ (by decide)) (by have:=Sb (c%2147483647+69621*(k:Int)*(k:Int)+5) (show(0:Int)<2147483647 by decide);omega);obtain⟨y2,a2,b2,e2⟩:=xP y1 a1 ‹0›;refine⟨y2,a2,b2,?_⟩;rw[bB];unfold cH;simp! only[ec,g,m1,m2,e1,e2]
theorem OO(a b c d:D):n8 [a,b,c,d]=some (.lst [a,b,c,d]):=nr rfl
theorem xN{α:Type}{ρ:av}{g:GF}{C:bZ}{Fe:FX}(mk:α->D)(p:α->Bool)(v:α->D):∀xs:List α,(∀a∈xs,∃ρ1,g (mk a) ρ=some ρ1/\C ρ1=.ok (p a)/\(p a=true->Fe ρ1=.ok (v a)))->
  yF ρ g C Fe (xs.map mk)=.ok ((xs.filter p).map v)
 |[],_=>rfl
 |a::xs,h=>by
  obtain⟨ρ1,h1,h2,h3⟩:=h a Qk;rw[Qw,lZ,h1,dY,eI,h2,jx,eI,xN mk p v xs λb hb=>h b (Ql _ hb)];cases e:p a with
  |true=>rw[if_pos rfl,h3 e,jx,eI,R1 e];rfl
  |false=>rw[if_neg Qu,R3 (by simp[e])]
local macro_rules
 |`(tactic| simp! only[$xs,*])=>`(tactic| simp only[eI,rR,se,rm,jx,dY,ge_0,zv,nI,yV,ng,ku,mO,nQ,z8,zb,yB,yC,zL,mX,mQ,sj,iX,kQ,nY,kR,qV,mC,nS,kP,nN,iW,nD,iL,iY,gK,gH,nM,kC,gL,kS,iz,kD,ky,gu,kT,iH,nh,kz,iV,gq,kr,kI,zC,sr,zi,yh,yz,ni,kE,nO,kq,km,z7,yt,R6,R7,Qw,QR,QZ,Ro,K0,env0,List.replicate,RO,QB,RH,Nat.reduceAdd,Nat.reduceSub,Qv,QT,nV,nq,sF,nA,nB,ny,gJ,mP,rB,sA,qS,mD,iI,iD,iF,iT,iO,iP,rH,sM,sd,rL,rW,sL,ja,iC,fD,fA,mW,gI,fJ,fE,fK,mF,lB,fG,fm,iK,iG,kt,ki,dC,kM,nX,mU,kL,kB,gN,if_true,if_false,RV,R8,QY,$xs,*])
noncomputable def LT:List Nat:=("abcdefghijklmnopqrstuvwxyz":Str).cps.toList
theorem Cj:∀a<26,∀b<26,LT[a]?=LT[b]?->a=b:=by decide +kernel
noncomputable def stp(b:Int):Int:=([1,5,7,11,13,23]:List Int).getD (b%6).toNat 0
noncomputable def kk(b k:Int):Int:=(k*stp b+b/6)%24
noncomputable def jz(b:Int):Int:=b/144/24%(1+b/144/3%8)
noncomputable def KI(b k:Int)(w:Str):Prop:=
 (b/144%3=0->w.length=(1+kk b k%8).toNat/\w.cps.toList[0]?=LT[((b/144/3+kk b k/8)%26).toNat]?)/\
 (b/144%3≠0->w.cps.toList[(jz b).toNat]?=LT[((b/144/(24+11*jz b*jz b)+kk b k)%26).toNat]?)
theorem JT(b k:Int):0<=kk b k/\kk b k<24:=⟨Sa _ (by decide),Sb _ (by decide)⟩
theorem GU{b k1 k2:Int}(a1:0<=k1)(a2:k1<24)(b1:0<=k2)(b2:k2<24)(h:kk b k1=kk b k2):k1=k2:=by
 unfold kk stp at h;rcases(show b%6=0\/b%6=1\/b%6=2\/b%6=3\/b%6=4\/b%6=5 by omega)with z|z|z|z|z|z<;>rw[z]at h<;>simp at h<;>omega
theorem EZ{b k1 k2:Int}{w:Str}(a1:0<=k1)(a2:k1<24)(b1:0<=k2)(b2:k2<24)(h1:KI b k1 w)(h2:KI b k2 w):k1=k2:=by
 refine GU (b:=b) a1 a2 b1 b2 ?_;have q1:=JT b k1;have q2:=JT b k2;by_cases z:b/144%3=0
 ·obtain⟨l1,e1⟩:=h1.1 z;obtain⟨l2,e2⟩:=h2.1 z
  have:=Cj _ ‹0› _ ‹0› (e1.symm.trans e2)
  omega
 ·have:=Cj _ ‹0› _ ‹0› ((h1.2 z).symm.trans (h2.2 z))
  omega
theorem wg(x:Str)(h:x.length<=1000)(i:Int)(h0:0<=i)(h1:i<x.length):∃y:Str,y.length=1/\y.cps.toList[0]?=x.cps.toList[i.toNat]?/\ap (.str x) (.int i)=some (.str y):=by
 have hl:x.cps.toList.length=x.length:=by simp[Str.length]
 have hi:i<x.cps.toList.length:=by omega
 have hn:i.toNat<x.cps.toList.length:=by omega
 refine⟨⟨#[x.cps.toList[i.toNat]'hn]⟩,rfl,?_,?_⟩
 ·rw[Ri hn];rfl
 ·show(if small x.length then(nJ x.cps.toList i).bind λc=>some (D.str ⟨#[c]⟩)else none)=_;rw[lY ‹0›,if_pos rfl,Ds h0 hi];rfl
theorem sf(c:Array Nat)(hc:0<c.size):∀(n:Nat)(a:Array Nat),((List.replicate n c).foldl (·++·) a).toList[0]?=if a.size=0 then(if n=0 then none else c.toList[0]?)else a.toList[0]?
 |0,a=>by
  rw[RO,Sd];split
  ·rename_i h;simp[h]
  ·rfl
 |n+1,a=>by
  rw[RT,RU,sf c hc n (a++c)]
  have:¬(a++c).size=0:=by rw[Array.size_append];omega
  rw[if_neg this,Array.toList_append];by_cases h:a.size=0
  ·rw[if_pos h,if_neg ‹0›,QF (by simp[h])];simp[h]
  ·rw[if_neg h,QH (by simp;omega)]
theorem AA{y:Str}{n:Int}(h:1<=n)(hy:y.length=1):(kZ y n).cps.toList[0]?=y.cps.toList[0]?:=by
 unfold kZ;split
 ·rfl
 ·have hc:0<y.cps.size:=by have:y.cps.size=1:=hy;omega
  rw[sf y.cps hc n.toNat #[]];split
  ·rw[if_neg ‹0›]
  ·rename_i z;exact absurd rfl z
theorem wQ(x y:Str):(x++y).cps.toList=x.cps.toList++y.cps.toList:=by
 show(x.cps++y.cps).toList=_;rw[Array.toList_append]
theorem sU(x:Str):x.cps.toList.length=x.length:=by simp[Str.length]
theorem EC(b k:Int)(hb:0<=b)(hk:0<=k):∃w:Str,ao aL 2 7 [.int b,.int k]=.ok (.str w)/\KI b k w:=by
 have LL:(("abcdefghijklmnopqrstuvwxyz":Str)).length=26:=by decide +kernel
 have hLT:LT=("abcdefghijklmnopqrstuvwxyz":Str).cps.toList:=rfl;generalize hL:("abcdefghijklmnopqrstuvwxyz":Str)=L at LL hLT;have g3:=λi=>hJ (i:=i) (show(0:Int)<3 by decide);have g6:=λi=>hJ (i:=i) (show(0:Int)<6 by decide);have g8:=λi=>hJ (i:=i) (show(0:Int)<8 by decide);have g24:=λi=>hJ (i:=i) (show(0:Int)<24 by decide);have g26:=λi=>hJ (i:=i) (show(0:Int)<26 by decide);have d3:=λi=>ir (i:=i) (show(0:Int)<3 by decide) (show(3:Int)<10^200 by decide);have d6:=λi=>ir (i:=i) (show(0:Int)<6 by decide) (show(6:Int)<10^200 by decide);have d8:=λi=>ir (i:=i) (show(0:Int)<8 by decide) (show(8:Int)<10^200 by decide);have d24:=λi=>ir (i:=i) (show(0:Int)<24 by decide) (show(24:Int)<10^200 by decide);have d144:=λi=>ir (i:=i) (show(0:Int)<144 by decide) (show(144:Int)<10^200 by decide);obtain⟨st,hst,hstp,est⟩:∃st:Int,(0<=st/\st<=25)/\stp b=st/\ap (.lst [.int 1,.int 5,.int 7,.int 11,.int 13,.int 23]) (.int (b%6))=some (.int st):=by
  rcases(show b%6=0\/b%6=1\/b%6=2\/b%6=3\/b%6=4\/b%6=5 by omega)with z|z|z|z|z|z<;>rw[z]
  ·exact⟨1,by decide,by unfold stp;rw[z];rfl,rfl⟩
  ·exact⟨5,by decide,by unfold stp;rw[z];rfl,rfl⟩
  ·exact⟨7,by decide,by unfold stp;rw[z];rfl,rfl⟩
  ·exact⟨11,by decide,by unfold stp;rw[z];rfl,rfl⟩
  ·exact⟨13,by decide,by unfold stp;rw[z];rfl,rfl⟩
  ·exact⟨23,by decide,by unfold stp;rw[z];rfl,rfl⟩
 have l6:∀a b c d e f:D,n8 [a,b,c,d,e,f]=some (.lst [a,b,c,d,e,f]):=λ_ _ _ _ _ _=>rfl;have ms:=oO (i:=k) (j:=st) ‹0› ‹0›;have hkk:kk b k=(k*st+b/6)%24:=by unfold kk;rw[hstp]
 generalize hk':(k*st+b/6)%24=k' at hkk;have k1:0<=k'/\k'<24:=by omega
 have hP:∀w,KI b k w=((b/144%3=0->w.length=(1+kk b k%8).toNat/\w.cps.toList[0]?=LT[((b/144/3+kk b k/8)%26).toNat]?)/\(b/144%3≠0->w.cps.toList[(jz b).toNat]?=LT[((b/144/(24+11*jz b*jz b)+kk b k)%26).toNat]?)):=λ_=>rfl;have hj:jz b=b/144/24%(1+b/144/3%8):=rfl;generalize hb':b/144=b' at hP hj;generalize jz b=j0 at hP hj;rw[hkk]at hP;simp only[hP];have b0:0<=b':=by omega
 rw[bB];unfold aL;by_cases h:b'%3=0
 ·have h':(b'%3==0)=true:=by simp[h]
  obtain⟨y,hy,hy0,e1⟩:=wg L ‹0› ((b'/3+k'/8)%26) ‹0› ‹0›;have mu:=Lf (x:=y) (n:=1+k'%8) ‹0› ‹0› ‹0›;refine⟨kZ y (1+k'%8),?_,λ_=>⟨by rw[uR ‹0›,hy,Nat.mul_one],by rw[AA ‹0› hy,hy0,hLT]⟩,λz=>absurd h z⟩;simp! only[hL,g6,l6,est,ms,d6,g24,hk',d144,hb',g3,h',d3,d8,g26,e1,g8,mu]
 ·have h':(b'%3==0)=false:=by simp[h]
  obtain⟨n,hn,hn1,hn2⟩:∃n:Nat,1+b'/3%8=(n:Int)/\1<=n/\n<=8:=⟨(1+b'/3%8).toNat,by omega,by omega,by omega⟩
  rw[hn]at hj;have hj1:0<=j0/\j0<(n:Int):=by rw[hj];exact⟨Sa _ ‹0›,Sb _ ‹0›⟩
  have rn:=kA n ‹0›;obtain⟨T,hT⟩:∃T:bw,T=(aq (o5 (du (aa (af 3) ah)) (gN 5) (aq (aM 6 (f2 gR (af 0) (f2 bE (fC (.int 24)) (f2 gE (f2 gE (fC (.int 11)) (af 5)) (af 5))))) (aq (dy (fB (f2 gk (af 5) (f2 cT (f2 gR (af 0) (fC (.int 24))) (af 3)))) (aM 6 (f2 bE (af 6) (af 1))) bb) (aq (aM 4 (f2 bE (af 4) (f2 ap (af 2) (f2 cT (af 6) (fC (.int 26)))))) (gM [5,6] bb))))) (aJ (af 4))):=⟨_,rfl⟩
  have key:∃w:Str,(w.cps.toList[j0.toNat]?=LT[((b'/(24+11*j0*j0)+k')%26).toNat]?)/\T K0 [some (.val (.int b')),some (.val (.int k')),some (.val (.str L)),some (.val (.int n)),some (.val (.str "")),none,none]=.ok (.str w):=by
   rw[hT,gu,gq];simp! only[rn];refine lR (Q:=λz=>∃w:Str,(w.cps.toList[j0.toNat]?=LT[((b'/(24+11*j0*j0)+k')%26).toNat]?)/\z=.ok (.str w)) (λi ρ=>∃w:Str,w.length=i/\(j0<(i:Int)->w.cps.toList[j0.toNat]?=LT[((b'/(24+11*j0*j0)+k')%26).toNat]?)/\ρ=[some (.val (.int b')),some (.val (.int k')),some (.val (.str L)),some (.val (.int n)),some (.val (.str w)),none,none]) ?_ ?_ ?_
   ·rintro i d ρ kx hd ⟨w,hw,hw2,rfl⟩;have hi:=fw hd;rw[dZ]at hi;have hdi:d=.int (i:Int):=by
     rw[nH,QI,Rv hi]at hd;cases hd;simp
    subst hdi;have m1:=js (i:=11) (j:=(i:Int)) (by decide) (by decide);have m2:=oO (i:=11*(i:Int)) (j:=(i:Int)) ‹0› ‹0›;have ii:0<=11*(i:Int)*(i:Int):=Int.mul_nonneg ‹0› ‹0›;have ii2:11*(i:Int)*(i:Int)<=11*8*8:=Int.mul_le_mul ‹0› ‹0› ‹0› (by decide);have dd:=λz=>ir (i:=z) (show(0:Int)<24+11*(i:Int)*(i:Int)by omega) (show 24+11*(i:Int)*(i:Int)<10^200 by
     have:(10:Int)^200>10000:=by decide +kernel
     omega)
    have gn:=λz=>hJ (i:=z) (show(0:Int)<(n:Int)by omega);generalize hs:b'/(24+11*(i:Int)*(i:Int))=s;by_cases hq:((i:Int)==b'/24%(n:Int))=true
    ·obtain⟨y,hy,hy0,e1⟩:=wg L ‹0› ((s+k')%26) ‹0› ‹0›;have ad:=vj w y ‹0› ‹0›;refine⟨_,_,rfl,⟨w++y,by rw[wO];omega,λ_=>?_,rfl⟩,?_⟩
     ·have eq:(i:Int)=b'/24%(n:Int):=(by simpa using hq);rw[<-hj]at eq;subst eq;rw[wQ,QF (by rw[sU];omega),sU,hw,QL,RN,hy0,hLT,<-hs]
     simp! only[m1,m2,dd,hs,d24,gn,hq,g26,e1,ad]
    ·have hq':((i:Int)==b'/24%(n:Int))=false:=(by simpa using hq);obtain⟨y,hy,hy0,e1⟩:=wg L ‹0› (s%26) ‹0› ‹0›;have ad:=vj w y ‹0› ‹0›;refine⟨_,_,rfl,⟨w++y,by rw[wO];omega,λz=>?_,rfl⟩,?_⟩
     ·have ne:j0≠(i:Int):=λq=>hq (by rw[<-q,<-hj];simp);rw[wQ,QH (by rw[sU];omega)];exact hw2 ‹0›
     simp! only[m1,m2,dd,hs,d24,gn,hq',g26,e1,ad]
   ·exact⟨"",by decide +kernel,λz=>by omega,rfl⟩
   ·rintro ρ' ⟨w,hw,hw2,rfl⟩;rw[dZ]at hw2;exact⟨w,hw2 ‹0›,by simp! only[]⟩
  obtain⟨w,hw,ew⟩:=key;refine⟨w,?_,λz=>absurd z h,λ_=>hw⟩;rw[<-hT];simp only[K0]at ew;simp! only[hL,g6,l6,est,ms,d6,g24,hk',d144,hb',g3,h',d3,g8,hn,ew]
section
open Classical
variable(m:Nat)
noncomputable def Pw(acc:List (List D))(r:List D):List (List D):=if r.take m∈acc then acc else acc++[r.take m]
noncomputable def fs(t:List (List D)):List (List D):=t.foldl (Pw m) []
noncomputable def gp(t:List (List D))(f:List D):List (List D):=(t.filter λr=>decide (r.take m=f)).map (List.drop m)
noncomputable def flat(t:List (List D)):List (List D):=(fs m t).flatMap λf=>(gp m t f).map (f++·)
end
end T4
namespace Tk92
open PySem PySem.Spec L2 TG TX TD
noncomputable def top(i:Nat):T9:=PySem.Challenge.pw_twoglass_k92_refused_as_it_is.main.body.getD i (.Pass ⟨0,0,0,0⟩)
noncomputable abbrev ic:T9:=inClass (top 60) 0
theorem lD:bu ["self","old","new"] ["self","old","new"] (au ic):=‹2›
noncomputable abbrev iZ:T9:=inClass (top 62) 0
theorem lW:bu ["self","name","kind"] ["self","name","kind"] (au iZ):=‹2›
noncomputable abbrev jC:T9:=inClass (top 34) 0
theorem mM:bu ["self","glass","step"] ["self","glass","step"] (au jC):=‹2›
noncomputable abbrev jG:T9:=inClass (top 35) 0
theorem nR:bu ["self","one","other","pair"] ["self","one","other","pair"] (au jG):=‹2›
noncomputable abbrev jA:T9:=inClass (top 33) 0
theorem mL:bu ["self","name"] ["self","name"] (au jA):=‹2›
noncomputable abbrev jF:T9:=inClass (top 52) 0
theorem nW:bu ["self","many","name"] ["self","many","name"] (au jF):=‹2›
noncomputable abbrev hX:T9:=inClass (top 53) 0
theorem lF:bu ["self","name"] ["self","name"] (au hX):=‹2›
noncomputable abbrev jw:T9:=inClass (top 57) 0
theorem nF:bu ["self","name","by","quotient","rest"] ["self","name","by","quotient","rest"] (au jw):=‹2›
noncomputable abbrev jD:T9:=inClass (top 58) 0
theorem mI:bu ["self","quotient","rest","by","name"] ["self","quotient","rest","by","name"] (au jD):=‹2›
noncomputable abbrev jH:T9:=inClass (top 73) 0
theorem nz:bu ["self","name","value"] ["self","name","value"] (au jH):=‹2›
noncomputable abbrev jE:T9:=inClass (top 12) 0
theorem nZ:bu ["self","view"] ["self","view"] (au jE):=‹2›
noncomputable abbrev iB:T9:=inClass (top 11) 0
theorem lT:bu ["self","one","other","change"] ["self","one","other","change"] (au iB):=‹2›
noncomputable def de:bw:=aq (aM 1 (dh (aa (f1 (dR [("NoTable",false),("NoField",false),("Twice",false),("NoKind",false),("Nothing",false),("NoKey",false),("TooMany",false),("Blind",false),("Torn",false)]) (af 0)) (aa (f1 (dR [("NoTable",true),("NoField",false),("Twice",false),("NoKind",false),("Nothing",false),("NoKey",false),("TooMany",false),("Blind",false),("Torn",false)]) (af 0)) (aa (f1 (dR [("NoTable",false),("NoField",true),("Twice",false),("NoKind",false),("Nothing",false),("NoKey",false),("TooMany",false),("Blind",false),("Torn",false)]) (af 0)) ah))))) (aq (aM 1 (f2 bE (af 1) (dh (aa (f1 (dR [("NoTable",false),("NoField",false),("Twice",true),("NoKind",false),("Nothing",false),("NoKey",false),("TooMany",false),("Blind",false),("Torn",false)]) (af 0)) (aa (f1 (dR [("NoTable",false),("NoField",false),("Twice",false),("NoKind",true),("Nothing",false),("NoKey",false),("TooMany",false),("Blind",false),("Torn",false)]) (af 0)) (aa (f1 (dR [("NoTable",false),("NoField",false),("Twice",false),("NoKind",false),("Nothing",true),("NoKey",false),("TooMany",false),("Blind",false),("Torn",false)]) (af 0)) ah)))))) (aq (aM 1 (f2 bE (af 1) (dh (aa (f1 (dR [("NoTable",false),("NoField",false),("Twice",false),("NoKind",false),("Nothing",false),("NoKey",true),("TooMany",false),("Blind",false),("Torn",false)]) (af 0)) (aa (f1 (dR [("NoTable",false),("NoField",false),("Twice",false),("NoKind",false),("Nothing",false),("NoKey",false),("TooMany",true),("Blind",false),("Torn",false)]) (af 0)) (aa (f1 (dR [("NoTable",false),("NoField",false),("Twice",false),("NoKind",false),("Nothing",false),("NoKey",false),("TooMany",false),("Blind",true),("Torn",false)]) (af 0)) ah)))))) (aq (ui 1 (f2 An (af 1) (dh (aa (f1 (dR [("NoTable",false),("NoField",false),("Twice",false),("NoKind",false),("Nothing",false),("NoKey",false),("TooMany",false),("Blind",false),("Torn",true)]) (af 0)) (aa (f1 (dR [("NoTable",false),("NoField",false),("Twice",false),("NoKind",false),("Nothing",false),("NoKey",false),("TooMany",false),("Blind",false),("Torn",false)]) (af 0)) (aa (f1 (dR [("NoTable",false),("NoField",false),("Twice",false),("NoKind",false),("Nothing",false),("NoKey",false),("TooMany",false),("Blind",false),("Torn",false)]) (af 0)) ah)))))) (aq (KQ 1 C9 (aa (f1 (dR [("NoTable",false),("NoField",false),("Twice",false),("NoKind",false),("Nothing",false),("NoKey",false),("TooMany",false),("Blind",false),("Torn",false)]) (af 0)) ah)) (Ez 1 (aq (dy (vC (fB (f2 lg (wu (af 1) (aa (fC (.bl true)) ah)) (fC (.int 1)))) (mY (aZ (f1 (dR [("NoTable",true),("NoField",true),("Twice",true),("NoKind",true),("Nothing",true),("NoKey",true),("TooMany",true),("Blind",true),("Torn",true)]) (af 0))))) (aJ (fC (.str "odd"))) bb) (aq (aM 2 (dh (aa (fC (.str "form")) (aa (fC (.str "table")) (aa (fC (.str "field")) (aa (fC (.str "twice")) (aa (fC (.str "kind")) (aa (fC (.str "nothing")) (aa (fC (.str "key")) (aa (fC (.str "many")) (aa (fC (.str "blind")) (aa (fC (.str "torn")) (aa (fC (.str "stale")) (aa (fC (.str "pane")) ah)))))))))))))) (aJ (f2 ap (f2 bE (af 2) (dh (aa (fC (.str "text")) ah))) (vS (af 1) (aa (fC (.bl true)) ah)))))))))))
noncomputable def iJ:bw:=aJ (vX (fB (f2 lg (af 0) (af 1))) (dh (aa (fNew "Rename" ["old","new"] (aa (af 0) (aa (af 1) ah))) ah)) (dh ah))
noncomputable def aD:bw:=aJ (fC (.bl true))
noncomputable def bg:bw:=aq (o5 (fu (aa (fR (ao cJ 1 1) (aa (af 0) ah)) ah)) (gT 2 (qt [2,3])) (aq (dy (fB (f2 gk (af 3) (af 1))) (aJ (af 2)) bb) (gM [2,3] bb))) (bW "NoField" (aa (fC (.str "no field has this name")) ah))
noncomputable def dA:bw:=aJ (f2 ap (fR (ao bJ 2 2) (aa (af 1) (aa (fR (ao bg 2 4) (aa (af 1) (aa (f1 (az "name" ["Unnest"]) (af 0)) ah))) ah))) (fC (.int 2)))
noncomputable def jq:bw:=aq (aM 2 (fL gh (aa (fU [none,some 1] (bV (f2 ap (af 0) (fC (.int 1)))) (gN 0) (fB (f2 t9 (af 0) (f2 ap (af 1) (fC (.int 1))))) (af 0)) ah))) (aJ (vX (aZ (af 2)) (aT (aa (fC (.str "word")) (aa (af 2) ah))) (fC .non)))
noncomputable def dB:bw:=aq (aM 2 (fL oh (aa (f2 ap (af 0) (fC (.int 1))) (aa (f2 ap (af 1) (fC (.int 1))) ah)))) (aq (aM 3 (fL n6 (aa (f2 ap (af 0) (fC (.int 2))) (aa (f2 ap (af 1) (fC (.int 2))) ah)))) (aJ (vX (fB (f2 u9 (af 2) (af 3))) (aT (aa (fC (.str "number")) (aa (af 2) (aa (af 3) ah)))) (fC .non))))
noncomputable def jL:bw:=aq (dy (fB (f2 lg (f2 ap (af 0) (fC (.int 0))) (f2 ap (af 1) (fC (.int 0))))) (aJ (fC .non)) bb) (aq (dy (fB (f2 gk (f2 ap (af 0) (fC (.int 0))) (fC (.str "number")))) (aJ (fR (ao dB 2 4) (aa (af 0) (aa (af 1) ah)))) bb) (aq (dy (fB (f2 gk (f2 ap (af 0) (fC (.int 0))) (fC (.str "word")))) (aJ (fR (ao jq 2 3) (aa (af 0) (aa (af 1) ah)))) bb) (aJ (fC .non))))
noncomputable def dX:bw:=aq (aM 2 (fR (ao bJ 2 2) (aa (af 1) (aa (fR (ao bg 2 4) (aa (af 1) (aa (f1 (az "name" ["Sieve"]) (af 0)) ah))) ah)))) (aJ (f2 gk (fR (ao jL 2 2) (aa (af 2) (aa (f1 (az "kind" ["Sieve"]) (af 0)) ah))) (af 2)))
noncomputable def me(cx:bD):bw:=aq (dy (fB (f2 gk (f2 ap (af 0) (fC (.int 0))) (fC (.str "number")))) (aJ (f2 gk (f2 ap (af 0) (fC (.int 1))) (f2 ap (af 0) (fC (.int 2))))) bb) (aq (dy (fB (f2 gk (f2 ap (af 0) (fC (.int 0))) (fC (.str "word")))) (aJ (f2 gk (fL fj (aa (f2 ap (af 0) (fC (.int 1))) ah)) (fC (.int 1)))) bb) (aJ (iR (f2 ap (af 0) (fC (.int 2))) (fL vI (aa (fU [none] (bV (fR (ao cI 1 1) (aa (f2 ap (af 0) (fC (.int 1))) ah))) (gN 0) bX (fR cx (aa (af 0) ah))) ah)))))
noncomputable def cx:Nat->bD
 |0=>λ_=>un
 |n+1=>ao (me (cx n)) 1 1
theorem iy(n:Nat):cx (n+1)=ao (me (cx n)) 1 1:=by rw[cx]
theorem ot:∀n:Nat,Ar 1 (cx n)
 |0=>λ_ h=>absurd (by rw[cx]) h
 |n+1=>by rw[iy];exact et
noncomputable def eS:bw:=aJ (fR (cx 12) (aa (fR (ao bJ 2 2) (aa (af 1) (aa (fR (ao bg 2 4) (aa (af 1) (aa (f1 (az "name" ["Drop"]) (af 0)) ah))) ah))) ah))
noncomputable def jX:bw:=aJ (f2 gk (fR (ao bg 2 4) (aa (af 0) (aa (f1 (az "rest" ["Part","Fuse"]) (af 1)) ah))) (f2 bE (fR (ao bg 2 4) (aa (af 0) (aa (f1 (az "quotient" ["Part","Fuse"]) (af 1)) ah))) (fC (.int 1))))
noncomputable def gF:bw:=aJ (f2 gk (aT (aa (f1 (az "by" ["Part","Fuse"]) (af 0)) (aa (f1 (az "quotient" ["Part","Fuse"]) (af 0)) (aa (f1 (az "rest" ["Part","Fuse"]) (af 0)) ah)))) (aT (aa (f1 (az "by" ["Part","Fuse"]) (af 1)) (aa (f1 (az "quotient" ["Part","Fuse"]) (af 1)) (aa (f1 (az "rest" ["Part","Fuse"]) (af 1)) ah)))))
noncomputable def iM:bw:=aq (dy (nG (aZ (f1 (eB ["Rename"] ["Step","Nest","Unnest","Part","Fuse","Sieve","Drop"]) (af 1))) (aZ (f1 (eB ["Rename"] ["Step","Nest","Unnest","Part","Fuse","Sieve","Drop"]) (af 2)))) (aJ (vX (fB (f2 gk (f1 (az "new" ["Rename"]) (af 1)) (f1 (az "old" ["Rename"]) (af 2)))) (fR (ao iJ 2 2) (aa (f1 (az "old" ["Rename"]) (af 1)) (aa (f1 (az "new" ["Rename"]) (af 2)) ah))) (fC .non))) bb) (aq (dy (nG (aZ (f1 (eB ["Sieve"] ["Step","Nest","Unnest","Part","Fuse","Rename","Drop"]) (af 1))) (aZ (f1 (eB ["Sieve"] ["Step","Nest","Unnest","Part","Fuse","Rename","Drop"]) (af 2)))) (aJ (vX (fB (f2 gk (f1 (az "name" ["Leaf","Nest","Unnest","Part","Fuse","Sieve","Drop"]) (af 1)) (f1 (az "name" ["Leaf","Nest","Unnest","Part","Fuse","Sieve","Drop"]) (af 2)))) (dh (aa (fNew "Sieve" ["name","kind"] (aa (f1 (az "name" ["Leaf","Nest","Unnest","Part","Fuse","Sieve","Drop"]) (af 1)) (aa (fR (ao jL 2 2) (aa (f1 (az "kind" ["Sieve"]) (af 1)) (aa (f1 (az "kind" ["Sieve"]) (af 2)) ah))) ah))) ah)) (fC .non))) bb) (aq (dy (nG (aZ (f1 (eB ["Part"] ["Step","Nest","Unnest","Fuse","Rename","Sieve","Drop"]) (af 1))) (aZ (f1 (eB ["Fuse"] ["Step","Nest","Unnest","Part","Rename","Sieve","Drop"]) (af 2)))) (aJ (vX (aZ (fR (ao gF 2 2) (aa (af 1) (aa (af 2) ah)))) (fR (ao iJ 2 2) (aa (f1 (az "name" ["Leaf","Nest","Unnest","Part","Fuse","Sieve","Drop"]) (af 1)) (aa (f1 (az "name" ["Leaf","Nest","Unnest","Part","Fuse","Sieve","Drop"]) (af 2)) ah))) (fC .non))) bb) (aq (dy (nG (aZ (f1 (eB ["Fuse"] ["Step","Nest","Unnest","Part","Rename","Sieve","Drop"]) (af 1))) (aZ (f1 (eB ["Part"] ["Step","Nest","Unnest","Fuse","Rename","Sieve","Drop"]) (af 2)))) (aJ (vX (nG (fB (f2 gk (f1 (az "name" ["Leaf","Nest","Unnest","Part","Fuse","Sieve","Drop"]) (af 1)) (f1 (az "name" ["Leaf","Nest","Unnest","Part","Fuse","Sieve","Drop"]) (af 2)))) (nG (aZ (fR (ao gF 2 2) (aa (af 1) (aa (af 2) ah)))) (aZ (fR (ao jX 2 2) (aa (af 0) (aa (af 1) ah)))))) (dh ah) (fC .non))) bb) (aq (dy (nG (aZ (f1 (eB ["Nest"] ["Step","Unnest","Part","Fuse","Rename","Sieve","Drop"]) (af 1))) (aZ (f1 (eB ["Unnest"] ["Step","Nest","Part","Fuse","Rename","Sieve","Drop"]) (af 2)))) (aJ (dh ah)) bb) (aq (dy (nG (aZ (f1 (eB ["Unnest"] ["Step","Nest","Part","Fuse","Rename","Sieve","Drop"]) (af 1))) (aZ (f1 (eB ["Nest"] ["Step","Unnest","Part","Fuse","Rename","Sieve","Drop"]) (af 2)))) (aJ (vX (nG (aZ (cw "exact" [("Step",(ao aD 2 2)),("Nest",(ao aD 2 2)),("Unnest",(ao dA 2 2)),("Part",(ao aD 2 2)),("Fuse",(ao aD 2 2)),("Rename",(ao aD 2 2)),("Sieve",(ao dX 2 3)),("Drop",(ao eS 2 2))] (af 1) (aa (af 0) ah))) (fB (f2 gk (f1 (az "many" ["Nest"]) (af 2)) (fL fj (aa (f2 ap (af 0) (fC (.int 0))) ah))))) (fR (ao iJ 2 2) (aa (f1 (az "name" ["Leaf","Nest","Unnest","Part","Fuse","Sieve","Drop"]) (af 1)) (aa (f1 (az "name" ["Leaf","Nest","Unnest","Part","Fuse","Sieve","Drop"]) (af 2)) ah))) (fC .non))) bb) (aJ (fC .non)))))))
noncomputable def bA:bw:=aq (dy (fB (f2 gC (f1 (az "name" ["Leaf"]) (af 0)) (af 1))) (bW "NoTable" (aa (fC (.str "no table has this name")) ah)) bb) (aJ (f2 qX (af 1) (f1 (az "name" ["Leaf"]) (af 0))))
noncomputable def jo:bw:=aq (dy (fB (f2 lg (fU [none] (bV (af 0)) (gN 0) bX (f2 ap (af 0) (fC (.int 0)))) (fU [none] (bV (af 1)) (gN 0) bX (f2 ap (af 0) (fC (.int 0)))))) (bW "NoKind" (aa (fC (.str "the keys have not the same names in the same order")) ah)) bb) (aq (dy (fB (f2 lg (fU [none] (bV (af 0)) (gN 0) bX (f2 ap (f2 ap (af 0) (fC (.int 1))) (fC (.int 0)))) (fU [none] (bV (af 1)) (gN 0) bX (f2 ap (f2 ap (af 0) (fC (.int 1))) (fC (.int 0)))))) (bW "NoKind" (aa (fC (.str "two kinds of one name are not of the same sort")) ah)) bb) (aq (aM 2 (fU [none,none] (yw (aa (af 0) (aa (af 1) ah))) (gT 2 (qt [0,1])) bX (fR (ao jL 2 2) (aa (f2 ap (af 0) (fC (.int 1))) (aa (f2 ap (af 1) (fC (.int 1))) ah))))) (aq (dy (fB (f2 t9 (fC .non) (af 2))) (bW "Nothing" (aa (fC (.str "of some field no value is in both")) ah)) bb) (aJ (fL gh (aa (fU [none,none] (yw (aa (af 0) (aa (af 2) ah))) (gT 2 (qt [0,1])) bX (aT (aa (f2 ap (af 0) (fC (.int 0))) (aa (af 1) ah)))) ah))))))
noncomputable def dI:bw:=aq (aM 3 (fR (ao jo 2 3) (aa (f2 ap (af 1) (fC (.int 0))) (aa (f2 ap (af 2) (fC (.int 0))) ah)))) (aq (aM 4 (fU [none] (bV (f2 ap (af 1) (fC (.int 1)))) (gN 0) bX (f2 ap (af 0) (fC (.int 0))))) (aq (dy (aZ (fL qp (aa (fU [none,some 4] (bV (f2 ap (af 2) (fC (.int 1)))) (gN 0) bX (f2 t9 (f2 ap (af 0) (fC (.int 0))) (af 1))) ah))) (bW "Twice" (aa (fC (.str "a name is in both rests")) ah)) bb) (aq (dy (fB (f2 IQ (f2 bE (fL fj (aa (f2 ap (af 1) (fC (.int 1))) ah)) (fL fj (aa (f2 ap (af 2) (fC (.int 1))) ah))) (fC (.int 8)))) (bW "TooMany" (aa (fC (.str "the rest would have more than 8 fields")) ah)) bb) (aJ (aT (aa (af 3) (aa (f2 bE (f2 ap (af 1) (fC (.int 1))) (f2 ap (af 2) (fC (.int 1)))) ah)))))))
noncomputable def bj:bw:=aJ (aT (aa (f1 (az "name" ["Leaf"]) (af 0)) ah))
noncomputable def gA(aC aG:bD):bw:=aJ (cw "names" [("Leaf",(ao bj 1 1)),("Over",aC),("Both",aG)] (f1 (az "glass" ["Over"]) (af 0)) ah)
noncomputable def jk(aC aG:bD):bw:=aJ (f2 bE (cw "names" [("Leaf",(ao bj 1 1)),("Over",aC),("Both",aG)] (f1 (az "one" ["Both"]) (af 0)) ah) (cw "names" [("Leaf",(ao bj 1 1)),("Over",aC),("Both",aG)] (f1 (az "other" ["Both"]) (af 0)) ah))
mutual
noncomputable def aC:Nat->bD
 |0=>λ_=>un
 |n+1=>ao (gA (aC n) (aG n)) 1 1
noncomputable def aG:Nat->bD
 |0=>λ_=>un
 |n+1=>ao (jk (aC n) (aG n)) 1 1
end
theorem eY(n:Nat):aC (n+1)=ao (gA (aC n) (aG n)) 1 1:=by rw[aC]
theorem jB:∀n:Nat,Ar 1 (aC n)
 |0=>λ_ h=>absurd (by rw[aC]) h
 |n+1=>by rw[eY];exact et
theorem ie(n:Nat):aG (n+1)=ao (jk (aC n) (aG n)) 1 1:=by rw[aG]
theorem jy:∀n:Nat,Ar 1 (aG n)
 |0=>λ_ h=>absurd (by rw[aG]) h
 |n+1=>by rw[ie];exact et
noncomputable def bO:bw:=aJ (af 1)
noncomputable def jj(bF:bD):bw:=aJ (f1 (rN 0) (fU [none] (bV (fR (ao cI 1 1) (aa (af 0) ah))) (gN 0) (fB (f2 gk (f2 ap (af 0) (fC (.int 0))) (fC (.str "rows")))) (f2 bE (fC (.int 1)) (fR bF (aa (f2 ap (af 0) (fC (.int 1))) ah)))))
noncomputable def bF:Nat->bD
 |0=>λ_=>un
 |n+1=>ao (jj (bF n)) 1 1
theorem fY(n:Nat):bF (n+1)=ao (jj (bF n)) 1 1:=by rw[bF]
theorem li:∀n:Nat,Ar 1 (bF n)
 |0=>λ_ h=>absurd (by rw[bF]) h
 |n+1=>by rw[fY];exact et
noncomputable def fO:bw:=aJ (iR (oA "int" (af 0)) (uw (oA "bool" (af 0))))
noncomputable def bp:bw:=aq (dy (vC (mY (aZ (fR (ao fO 1 1) (aa (f1 (az "many" ["Nest"]) (af 0)) ah)))) (mY (fB (fX u9 lV (fC (.int 1)) (f1 (az "many" ["Nest"]) (af 0)) (fL fj (aa (f2 ap (af 1) (fC (.int 0))) ah)))))) (bW "NoKey" (aa (fC (.str "some fields of the key must stay without, and some go within")) ah)) bb) (aq (aM 2 (jc (f2 ap (af 1) (fC (.int 0))) gx (lQ (f1 (az "many" ["Nest"]) (af 0))))) (aq (dy (fB (f2 t9 (f1 (az "name" ["Nest"]) (af 0)) (fU [none] (bV (af 2)) (gN 0) bX (f2 ap (af 0) (fC (.int 0)))))) (bW "Twice" (aa (fC (.str "a field of the view's key has the name")) ah)) bb) (aq (aM 3 (aT (aa (jc (f2 ap (af 1) (fC (.int 0))) (lQ (f1 (az "many" ["Nest"]) (af 0))) gx) (aa (f2 ap (af 1) (fC (.int 1))) ah)))) (aq (dy (fB (f2 Jt (fR (bF 12) (aa (af 3) ah)) (fC (.int 3)))) (bW "TooMany" (aa (fC (.str "kinds rows would lie more than three within one another")) ah)) bb) (aJ (aT (aa (af 2) (aa (aT (aa (aT (aa (f1 (az "name" ["Nest"]) (af 0)) (aa (aT (aa (fC (.str "rows")) (aa (af 3) (aa (fC (.bl true)) ah)))) ah))) ah)) ah))))))))
noncomputable def aW:bw:=aq (aM 2 (fR (ao bJ 2 2) (aa (af 1) (aa (fR (ao bg 2 4) (aa (af 1) (aa (f1 (az "name" ["Unnest"]) (af 0)) ah))) ah)))) (aq (dy (vC (fB (f2 lg (f2 ap (af 2) (fC (.int 0))) (fC (.str "rows")))) (fB (f2 lg (fL fj (aa (f2 ap (af 1) (fC (.int 1))) ah)) (fC (.int 1))))) (bW "NoKind" (aa (fC (.str "it is no field of rows, or another one is beside it")) ah)) bb) (aq (aM 3 (f2 ap (af 1) (fC (.int 0)))) (aq (aM 4 (f2 ap (af 2) (fC (.int 1)))) (aq (dy (aZ (fL qp (aa (fU [none,some 4] (bV (af 3)) (gN 0) bX (f2 t9 (f2 ap (af 0) (fC (.int 0))) (fR (ao cJ 1 1) (aa (af 1) ah)))) ah))) (bW "Twice" (aa (fC (.str "a field within has the name of one of the key")) ah)) bb) (aq (dy (fB (f2 IQ (f2 bE (fL fj (aa (af 3) ah)) (fL fj (aa (f2 ap (af 4) (fC (.int 0))) ah))) (fC (.int 8)))) (bW "TooMany" (aa (fC (.str "the key would have more than 8 fields")) ah)) bb) (aJ (aT (aa (f2 bE (af 3) (f2 ap (af 4) (fC (.int 0)))) (aa (f2 ap (af 4) (fC (.int 1))) ah)))))))))
noncomputable def bI:bw:=aq (aM 3 (fR (ao bJ 2 2) (aa (af 1) (aa (af 2) ah)))) (aq (aM 4 (fR (ao eE 1 1) (aa (af 1) ah))) (aq (dy (fB (f2 lg (f2 cT (f2 ap (af 3) (fC (.int 1))) (f1 (az "by" ["Part"]) (af 0))) (fC (.int 0)))) (kj "Torn" ["view"] (aa (aT (aa (fR (ao cK 3 3) (aa (af 4) (aa (af 2) (aa (aT (aa (f2 gR (f2 ap (af 3) (fC (.int 1))) (f1 (az "by" ["Part"]) (af 0))) (aa (fC (.int 0)) ah))) ah)))) ah)) ah)) bb) (dy (fB (f2 lg (f2 cT (f2 bE (f2 ap (af 3) (fC (.int 2))) (fC (.int 1))) (f1 (az "by" ["Part"]) (af 0))) (fC (.int 0)))) (kj "Torn" ["view"] (aa (aT (aa (fR (ao cK 3 3) (aa (af 4) (aa (af 2) (aa (aT (aa (f2 gR (f2 ap (af 3) (fC (.int 2))) (f1 (az "by" ["Part"]) (af 0))) (aa (f2 pT (f1 (az "by" ["Part"]) (af 0)) (fC (.int 1))) ah))) ah)))) ah)) ah)) bb)))
noncomputable def bC:bw:=aq (dy (fB (f2 gk (f1 (az "quotient" ["Part"]) (af 0)) (f1 (az "rest" ["Part"]) (af 0)))) (bW "Twice" (aa (fC (.str "quotient and rest have one name")) ah)) bb) (dy (vC (aZ (fR (ao bH 3 4) (aa (af 1) (aa (f1 (az "quotient" ["Part"]) (af 0)) (aa (aT (aa (af 2) ah)) ah))))) (aZ (fR (ao bH 3 4) (aa (af 1) (aa (f1 (az "rest" ["Part"]) (af 0)) (aa (aT (aa (af 2) ah)) ah)))))) (bW "Twice" (aa (fC (.str "another field has the name of the quotient or of the rest")) ah)) bb)
noncomputable def bM:bw:=aq (aM 2 (fR (ao bg 2 4) (aa (af 1) (aa (f1 (az "name" ["Part"]) (af 0)) ah)))) (aq (aM 3 (fR (ao bJ 2 2) (aa (af 1) (aa (af 2) ah)))) (aq (dy (vC (fB (f2 lg (f2 ap (af 3) (fC (.int 0))) (fC (.str "number")))) (mY (fB (fX u9 u9 (fC (.int 2)) (f1 (az "by" ["Part"]) (af 0)) (fC (.int 1000000000)))))) (bW "NoKind" (aa (fC (.str "only a number is parted, and by 2 to 10 ** 9")) ah)) bb) (aq (lx (cw "check_names" [("Part",(ao bC 3 3))] (af 0) (aa (af 1) (aa (af 2) ah)))) (aq (dy (fB (f2 Jt (fL fj (aa (vX (aZ (fR (ao dS 2 2) (aa (af 1) (aa (af 2) ah)))) (f2 ap (af 1) (fC (.int 0))) (f2 ap (af 1) (fC (.int 1)))) ah)) (fC (.int 8)))) (bW "TooMany" (aa (fC (.str "there is no room for one more field")) ah)) bb) (aq (lx (cw "check_ends" [("Part",(ao bI 3 5))] (af 0) (aa (af 1) (aa (af 2) ah)))) (aq (aM 4 (aT (aa (fC (.str "number")) (aa (f2 gR (f2 ap (af 3) (fC (.int 1))) (f1 (az "by" ["Part"]) (af 0))) (aa (f2 gR (f2 ap (af 3) (fC (.int 2))) (f1 (az "by" ["Part"]) (af 0))) ah))))) (aq (aM 5 (aT (aa (fC (.str "number")) (aa (fC (.int 0)) (aa (f2 pT (f1 (az "by" ["Part"]) (af 0)) (fC (.int 1))) ah))))) (aJ (fR (ao bK 3 3) (aa (af 1) (aa (af 2) (aa (aT (aa (aT (aa (f1 (az "quotient" ["Part"]) (af 0)) (aa (af 4) ah))) (aa (aT (aa (f1 (az "rest" ["Part"]) (af 0)) (aa (af 5) ah))) ah))) ah))))))))))))
noncomputable def bz:bw:=aq (dy (vC (fB (f2 gk (af 2) (af 3))) (fB (f2 lg (fR (ao dS 2 2) (aa (af 1) (aa (af 2) ah))) (fR (ao dS 2 2) (aa (af 1) (aa (af 3) ah)))))) (bW "NoKind" (aa (fC (.str "quotient and rest are two fields, both in the key or both not")) ah)) bb) (aq (dy (vC (fB (f2 lg (f2 ap (fR (ao bJ 2 2) (aa (af 1) (aa (af 2) ah))) (fC (.int 0))) (fC (.str "number")))) (mY (fB (fX u9 u9 (fC (.int 2)) (f1 (az "by" ["Fuse"]) (af 0)) (fC (.int 1000000000)))))) (bW "NoKind" (aa (fC (.str "only numbers are fused, and by 2 to 10 ** 9")) ah)) bb) (dy (fB (f2 lg (fR (ao bJ 2 2) (aa (af 1) (aa (af 3) ah))) (aT (aa (fC (.str "number")) (aa (fC (.int 0)) (aa (f2 pT (f1 (az "by" ["Fuse"]) (af 0)) (fC (.int 1))) ah)))))) (bW "NoKind" (aa (fC (.str "the rest is no number from 0 to by - 1")) ah)) bb))
noncomputable def bN:bw:=aq (aM 2 (fR (ao bg 2 4) (aa (af 1) (aa (f1 (az "quotient" ["Fuse"]) (af 0)) ah)))) (aq (aM 3 (fR (ao bg 2 4) (aa (af 1) (aa (f1 (az "rest" ["Fuse"]) (af 0)) ah)))) (aq (lx (cw "check_kinds" [("Fuse",(ao bz 4 4))] (af 0) (aa (af 1) (aa (af 2) (aa (af 3) ah))))) (aq (dy (aZ (fR (ao bH 3 4) (aa (af 1) (aa (f1 (az "name" ["Fuse"]) (af 0)) (aa (aT (aa (af 2) (aa (af 3) ah))) ah))))) (bW "Twice" (aa (fC (.str "another field has the name")) ah)) bb) (aq (aM 4 (fR (ao bJ 2 2) (aa (af 1) (aa (af 2) ah)))) (aq (aM 5 (aT (aa (fC (.str "number")) (aa (f2 gE (f2 ap (af 4) (fC (.int 1))) (f1 (az "by" ["Fuse"]) (af 0))) (aa (f2 pT (f2 bE (f2 gE (f2 ap (af 4) (fC (.int 2))) (f1 (az "by" ["Fuse"]) (af 0))) (f1 (az "by" ["Fuse"]) (af 0))) (fC (.int 1))) ah))))) (aJ (fR (ao bK 3 3) (aa (fR (ao bK 3 3) (aa (af 1) (aa (af 2) (aa (aT (aa (aT (aa (f1 (az "name" ["Fuse"]) (af 0)) (aa (af 5) ah))) ah)) ah)))) (aa (af 3) (aa (aT ah) ah))))))))))
noncomputable def aV:bw:=aq (aM 2 (fR (ao bg 2 4) (aa (af 1) (aa (f1 (az "old" ["Rename"]) (af 0)) ah)))) (aq (dy (fB (f2 t9 (f1 (az "new" ["Rename"]) (af 0)) (fR (ao cJ 1 1) (aa (af 1) ah)))) (bW "Twice" (aa (fC (.str "there is a field of the new name")) ah)) bb) (aJ (fR (ao bK 3 3) (aa (af 1) (aa (af 2) (aa (aT (aa (aT (aa (f1 (az "new" ["Rename"]) (af 0)) (aa (fR (ao bJ 2 2) (aa (af 1) (aa (af 2) ah))) ah))) ah)) ah))))))
noncomputable def bG:bw:=aq (aM 2 (fR (ao bg 2 4) (aa (af 1) (aa (f1 (az "name" ["Sieve"]) (af 0)) ah)))) (aq (aM 3 (fR (ao bJ 2 2) (aa (af 1) (aa (af 2) ah)))) (aq (dy (fB (f2 lg (f2 ap (af 3) (fC (.int 0))) (f2 ap (f1 (az "kind" ["Sieve"]) (af 0)) (fC (.int 0))))) (bW "NoKind" (aa (fC (.str "the field's kind is of another sort")) ah)) bb) (aq (aM 4 (fR (ao jL 2 2) (aa (af 3) (aa (f1 (az "kind" ["Sieve"]) (af 0)) ah)))) (aq (dy (fB (uz (af 4))) (bW "Nothing" (aa (fC (.str "no value is in both kinds")) ah)) bb) (aJ (fR (ao bK 3 3) (aa (af 1) (aa (af 2) (aa (aT (aa (aT (aa (f1 (az "name" ["Sieve"]) (af 0)) (aa (af 4) ah))) ah)) ah)))))))))
noncomputable def dG:bw:=aJ (vX (fB (f2 gk (f2 ap (af 0) (fC (.int 0))) (fC (.str "number")))) (f2 bE (f2 ap (af 0) (fC (.int 1))) (fC (.int 1))) (f2 ap (f2 ap (af 0) (fC (.int 1))) (fC (.int 1))))
noncomputable def eJ:bw:=aq (aM 2 (fL fj (aa (f2 ap (af 0) (fC (.int 0))) ah))) (aq (dy (fB (f2 gk (af 2) (fC (.int 1)))) (bW "NoKey" (aa (fC (.str "no key would be left")) ah)) bb) (aq (aM 3 (fR (ao bJ 2 2) (aa (af 0) (aa (af 1) ah)))) (dy (mY (aZ (fR (cx 12) (aa (af 3) ah)))) (aq (aM 4 (fR (ao eE 1 1) (aa (af 0) ah))) (aq (aM 5 (fR (ao cK 3 3) (aa (af 4) (aa (af 1) (aa (aT (aa (fR (ao dG 1 1) (aa (af 3) ah)) ah)) ah))))) (kj "Blind" ["one","other","change"] (aa (aT (aa (af 4) (aa (af 5) ah))) (aa (aT (aa (af 4) ah)) (aa (aT (aa (aT (aa (jc (af 4) gx (lQ (af 2))) (aa (af 4) (aa (fC .non) ah)))) ah)) ah)))))) bb)))
noncomputable def j6:bw:=aJ (iR (oA "tuple" (af 0)) (f2 gk (fL fj (aa (af 0) ah)) (af 1)))
noncomputable def j7:bw:=aq (aM 2 (fU [none,some 0] (bV (af 1)) (gN 0) bX (jc (af 0) gx (lQ (af 1))))) (aJ (fL vI (aa (fU [none,some 2] (du (aa (f2 pT (fL fj (aa (af 2) ah)) (fC (.int 1))) ah)) (gN 0) bX (f2 lV (f2 ap (af 1) (af 0)) (f2 ap (af 1) (f2 bE (af 0) (fC (.int 1)))))) ah)))
noncomputable def tE(cO cA bY:bD):bw:=aq (dy (fB (f2 gk (f2 ap (af 0) (fC (.int 0))) (fC (.str "number")))) (aJ (iR (fR (ao fO 1 1) (aa (af 1) ah)) (fX u9 u9 (f2 ap (af 0) (fC (.int 1))) (af 1) (f2 ap (af 0) (fC (.int 2)))))) bb) (aq (dy (fB (f2 gk (f2 ap (af 0) (fC (.int 0))) (fC (.str "word")))) (aJ (iR (oA "str" (af 1)) (f2 t9 (af 1) (f2 ap (af 0) (fC (.int 1)))))) bb) (aJ (iR (fR cA (aa (f2 ap (af 0) (fC (.int 1))) (aa (af 1) ah))) (Bk (f2 IQ (fL fj (aa (af 1) ah)) (fC (.int 0))) (uw (f2 ap (af 0) (fC (.int 2))))))))
noncomputable def tM(cO cA bY:bD):bw:=aq (dy (mY (aZ (oA "tuple" (af 1)))) (aJ (fC (.bl false))) bb) (aq (aM 2 (fR (ao cI 1 1) (aa (af 0) ah))) (aJ (iR (fL vI (aa (fU [none,some 2] (bV (af 1)) (gN 0) bX (fR bY (aa (af 1) (aa (af 0) ah)))) ah)) (fR (ao j7 2 3) (aa (fL fj (aa (f2 ap (af 0) (fC (.int 0))) ah)) (aa (af 1) ah))))))
noncomputable def pH(cO cA bY:bD):bw:=aq (dy (mY (aZ (fR (ao j6 2 2) (aa (af 1) (aa (fL fj (aa (af 0) ah)) ah))))) (aJ (fC (.bl false))) bb) (aJ (fL vI (aa (fU [none,none] (yw (aa (af 0) (aa (af 1) ah))) (gT 2 (qt [0,1])) bX (fR cO (aa (af 0) (aa (af 1) ah)))) ah)))
mutual
noncomputable def cO:Nat->bD
 |0=>λ_=>un
 |n+1=>ao (tE (cO n) (cA n) (bY n)) 2 2
noncomputable def cA:Nat->bD
 |0=>λ_=>un
 |n+1=>ao (tM (cO n) (cA n) (bY n)) 2 3
noncomputable def bY:Nat->bD
 |0=>λ_=>un
 |n+1=>ao (pH (cO n) (cA n) (bY n)) 2 2
end
theorem jZ(n:Nat):cO (n+1)=ao (tE (cO n) (cA n) (bY n)) 2 2:=by rw[cO]
theorem rY:∀n:Nat,Ar 2 (cO n)
 |0=>λ_ h=>absurd (by rw[cO]) h
 |n+1=>by rw[jZ];exact et
theorem mr(n:Nat):cA (n+1)=ao (tM (cO n) (cA n) (bY n)) 2 3:=by rw[cA]
theorem qg:∀n:Nat,Ar 2 (cA n)
 |0=>λ_ h=>absurd (by rw[cA]) h
 |n+1=>by rw[mr];exact et
theorem ll(n:Nat):bY (n+1)=ao (pH (cO n) (cA n) (bY n)) 2 2:=by rw[bY]
theorem ow:∀n:Nat,Ar 2 (bY n)
 |0=>λ_ h=>absurd (by rw[bY]) h
 |n+1=>by rw[ll];exact et
noncomputable def bP:bw:=aq (aM 2 (fR (ao bg 2 4) (aa (af 1) (aa (f1 (az "name" ["Drop"]) (af 0)) ah)))) (aq (aM 3 (fR (ao bJ 2 2) (aa (af 1) (aa (af 2) ah)))) (aq (dy (vC (fB (f2 gk (f2 ap (af 3) (fC (.int 0))) (fC (.str "rows")))) (mY (aZ (fR (cO 12) (aa (af 3) (aa (f1 (az "value" ["Drop"]) (af 0)) ah)))))) (bW "NoKind" (aa (fC (.str "it is a field of rows, or the value is not of its kind")) ah)) bb) (aq (dy (aZ (fR (ao dS 2 2) (aa (af 1) (aa (af 2) ah)))) (lx (fR (ao eJ 2 6) (aa (af 1) (aa (af 2) ah)))) bb) (aJ (fR (ao bK 3 3) (aa (af 1) (aa (af 2) (aa (aT ah) ah))))))))
noncomputable def h7(aE aF:bD):bw:=aJ (cw "view_form" [("Step",(ao bO 2 2)),("Nest",(ao bp 2 4)),("Unnest",(ao aW 2 5)),("Part",(ao bM 2 6)),("Fuse",(ao bN 2 6)),("Rename",(ao aV 2 3)),("Sieve",(ao bG 2 5)),("Drop",(ao bP 2 4))] (f1 (az "step" ["Over"]) (af 0)) (aa (cw "form" [("Leaf",(ao bA 2 2)),("Over",aE),("Both",aF)] (f1 (az "glass" ["Over"]) (af 0)) (aa (af 1) ah)) ah))
noncomputable def fT(aE aF:bD):bw:=aq (aM 2 (cw "form" [("Leaf",(ao bA 2 2)),("Over",aE),("Both",aF)] (f1 (az "one" ["Both"]) (af 0)) (aa (af 1) ah))) (aq (aM 3 (cw "form" [("Leaf",(ao bA 2 2)),("Over",aE),("Both",aF)] (f1 (az "other" ["Both"]) (af 0)) (aa (af 1) ah))) (aq (aM 4 (cw "names" [("Leaf",(ao bj 1 1)),("Over",(aC 12)),("Both",(aG 12))] (f1 (az "one" ["Both"]) (af 0)) ah)) (aq (dy (aZ (fL qp (aa (fU [none,some 4] (bV (cw "names" [("Leaf",(ao bj 1 1)),("Over",(aC 12)),("Both",(aG 12))] (f1 (az "other" ["Both"]) (af 0)) ah)) (gN 0) bX (f2 t9 (af 0) (af 1))) ah))) (bW "Twice" (aa (fC (.str "a table is named by both glasses")) ah)) bb) (aJ (cw "view_form" [("Join",(ao dI 3 5))] (f1 (az "pair" ["Both"]) (af 0)) (aa (af 2) (aa (af 3) ah)))))))
mutual
noncomputable def aE:Nat->bD
 |0=>λ_=>un
 |n+1=>ao (h7 (aE n) (aF n)) 2 2
noncomputable def aF:Nat->bD
 |0=>λ_=>un
 |n+1=>ao (fT (aE n) (aF n)) 2 5
end
theorem fF(n:Nat):aE (n+1)=ao (h7 (aE n) (aF n)) 2 2:=by rw[aE]
theorem jT:∀n:Nat,Ar 2 (aE n)
 |0=>λ_ h=>absurd (by rw[aE]) h
 |n+1=>by rw[fF];exact et
theorem dH(n:Nat):aF (n+1)=ao (fT (aE n) (aF n)) 2 5:=by rw[aF]
theorem jR:∀n:Nat,Ar 2 (aF n)
 |0=>λ_ h=>absurd (by rw[aF]) h
 |n+1=>by rw[dH];exact et
noncomputable def eN:bw:=aJ (aT ah)
noncomputable def df:bw:=aJ (aT (aa (fC (.str "nest")) (aa (fR (ao cP 1 1) (aa (f1 (az "many" ["Nest"]) (af 0)) ah)) (aa (f1 (az "name" ["Nest"]) (af 0)) ah))))
noncomputable def cv:bw:=aJ (aT (aa (fC (.str "unnest")) (aa (f1 (az "name" ["Unnest"]) (af 0)) ah)))
noncomputable def cX:bw:=aJ (aT (aa (fC (.str "part")) (aa (f1 (az "name" ["Part"]) (af 0)) (aa (fR (ao cP 1 1) (aa (f1 (az "by" ["Part"]) (af 0)) ah)) (aa (f1 (az "quotient" ["Part"]) (af 0)) (aa (f1 (az "rest" ["Part"]) (af 0)) ah))))))
noncomputable def eT:bw:=aJ (aT (aa (fC (.str "fuse")) (aa (f1 (az "quotient" ["Fuse"]) (af 0)) (aa (f1 (az "rest" ["Fuse"]) (af 0)) (aa (fR (ao cP 1 1) (aa (f1 (az "by" ["Fuse"]) (af 0)) ah)) (aa (f1 (az "name" ["Fuse"]) (af 0)) ah))))))
noncomputable def dD:bw:=aJ (aT (aa (fC (.str "rename")) (aa (f1 (az "old" ["Rename"]) (af 0)) (aa (f1 (az "new" ["Rename"]) (af 0)) ah))))
noncomputable def dW:bw:=aq (dy (fB (f2 gk (f2 ap (f1 (az "kind" ["Sieve"]) (af 0)) (fC (.int 0))) (fC (.str "number")))) (aJ (aT (aa (fC (.str "sieve")) (aa (f1 (az "name" ["Sieve"]) (af 0)) (aa (fR (ao cP 1 1) (aa (f2 ap (f1 (az "kind" ["Sieve"]) (af 0)) (fC (.int 1))) ah)) (aa (fR (ao cP 1 1) (aa (f2 ap (f1 (az "kind" ["Sieve"]) (af 0)) (fC (.int 2))) ah)) ah)))))) bb) (aJ (f2 bE (aT (aa (fC (.str "keep")) (aa (f1 (az "name" ["Sieve"]) (af 0)) ah))) (fL gh (aa (fU [none] (bV (f2 ap (f1 (az "kind" ["Sieve"]) (af 0)) (fC (.int 1)))) (gN 0) bX (fR (ao cP 1 1) (aa (af 0) ah))) ah))))
noncomputable def eQ:bw:=aJ (aT (aa (fC (.str "drop")) (aa (f1 (az "name" ["Drop"]) (af 0)) (aa (fR (ao cP 1 1) (aa (f1 (az "value" ["Drop"]) (af 0)) ah)) ah))))
noncomputable def eX:bw:=aJ (aT (aa (fC (.str "join")) ah))
noncomputable def dJ:bw:=aJ (Bk (f2 gk (cw "words" [("Step",(ao eN 1 1)),("Nest",(ao df 1 1)),("Unnest",(ao cv 1 1)),("Part",(ao cX 1 1)),("Fuse",(ao eT 1 1)),("Rename",(ao dD 1 1)),("Sieve",(ao dW 1 1)),("Drop",(ao eQ 1 1)),("Join",(ao eX 1 1))] (af 1) ah) (aT ah)) (iR (f1 (eB ["Sieve"] ["Step","Nest","Unnest","Part","Fuse","Rename","Drop"]) (af 1)) (cw "exact" [("Step",(ao aD 2 2)),("Nest",(ao aD 2 2)),("Unnest",(ao dA 2 2)),("Part",(ao aD 2 2)),("Fuse",(ao aD 2 2)),("Rename",(ao aD 2 2)),("Sieve",(ao dX 2 3)),("Drop",(ao eS 2 2))] (af 1) (aa (af 0) ah))))
noncomputable def fV(bq:bD):bw:=aq (dy (aZ (fR (ao dJ 2 2) (aa (cw "form" [("Leaf",(ao bA 2 2)),("Over",(aE 12)),("Both",(aF 12))] (af 1) (aa (af 0) ah)) (aa (af 2) ah)))) (aJ (af 1)) bb) (aq (aM 3 (fC .non)) (aq (dy (aZ (f1 (eB ["Over"] ["Leaf","Both"]) (af 1))) (aM 3 (fR (ao iM 3 3) (aa (cw "form" [("Leaf",(ao bA 2 2)),("Over",(aE 12)),("Both",(aF 12))] (f1 (az "glass" ["Over"]) (af 1)) (aa (af 0) ah)) (aa (f1 (az "step" ["Over"]) (af 1)) (aa (af 2) ah))))) bb) (aq (dy (fB (uz (af 3))) (aJ (fNew "Over" ["glass","step"] (aa (af 1) (aa (af 2) ah)))) bb) (aJ (vX (aZ (af 3)) (fR bq (aa (af 0) (aa (f1 (az "glass" ["Over"]) (af 1)) (aa (f2 ap (af 3) (fC (.int 0))) ah)))) (f1 (az "glass" ["Over"]) (af 1)))))))
noncomputable def bq:Nat->bD
 |0=>λ_=>un
 |n+1=>ao (fV (bq n)) 3 4
theorem dL(n:Nat):bq (n+1)=ao (fV (bq n)) 3 4:=by rw[bq]
theorem jN:∀n:Nat,Ar 3 (bq n)
 |0=>λ_ h=>absurd (by rw[bq]) h
 |n+1=>by rw[dL];exact et
noncomputable def pB(dg:bD):bw:=aq (dy (aZ (f1 (eB ["Over"] ["Leaf","Both"]) (af 1))) (aJ (fR (bq 12) (aa (af 0) (aa (fR dg (aa (af 0) (aa (f1 (az "glass" ["Over"]) (af 1)) ah))) (aa (f1 (az "step" ["Over"]) (af 1)) ah))))) bb) (aq (dy (aZ (f1 (eB ["Both"] ["Leaf","Over"]) (af 1))) (aJ (fNew "Both" ["one","other","pair"] (aa (fR dg (aa (af 0) (aa (f1 (az "one" ["Both"]) (af 1)) ah))) (aa (fR dg (aa (af 0) (aa (f1 (az "other" ["Both"]) (af 1)) ah))) (aa (f1 (az "pair" ["Both"]) (af 1)) ah))))) bb) (aJ (af 1)))
noncomputable def dg:Nat->bD
 |0=>λ_=>un
 |n+1=>ao (pB (dg n)) 2 2
theorem ig(n:Nat):dg (n+1)=ao (pB (dg n)) 2 2:=by rw[dg]
theorem sE:∀n:Nat,Ar 2 (dg n)
 |0=>λ_ h=>absurd (by rw[dg]) h
 |n+1=>by rw[ig];exact et
noncomputable def eM:bw:=aq (lx (cw "form" [("Leaf",(ao bA 2 2)),("Over",(aE 12)),("Both",(aF 12))] (af 1) (aa (af 0) ah))) (aJ (fR (dg 12) (aa (af 0) (aa (af 1) ah))))
noncomputable def aK:bw:=aq (aM 2 (fC (.str "none"))) (aq (zY ["NoTable","NoField","Twice","NoKind","Nothing","NoKey","TooMany","Blind","Torn"] 3 (lx (fR (ao eM 2 2) (aa (af 0) (aa (af 1) ah)))) (aM 2 (fR (Bz (ao de 1 3)) (aa (af 3) ah)))) (aJ (af 2)))
noncomputable def cn:bw:=aq (o5 (bV (af 1)) (gN 2) (aq (aM 0 (fNew "Over" ["glass","step"] (aa (af 0) (aa (af 2) ah)))) (gM [2] bb))) (aJ (af 0))
noncomputable def cM:bw:=aq (aM 2 (fC (.str "none"))) (aq (zY ["NoTable","NoField","Twice","NoKind","Nothing","NoKey","TooMany","Blind","Torn"] 3 (lx (cw "form" [("Leaf",(ao bA 2 2)),("Over",(aE 12)),("Both",(aF 12))] (af 1) (aa (af 0) ah))) (aM 2 (fR (Bz (ao de 1 3)) (aa (af 3) ah)))) (aJ (af 2)))
noncomputable def cm:bw:=aq (aM 3 (fNew "Leaf" ["name"] (aa (f2 ap (af 1) (fC (.int 0))) ah))) (aq (aM 4 (fNew "Rename" ["old","new"] (aa (f2 ap (af 2) (fC (.int 4))) (aa (f2 ap (af 2) (fC (.int 5))) ah)))) (aq (dy (fB (f2 gk (af 0) (fC (.int 0)))) (aJ (aT (aa (fC (.str "table")) (aa (fR (ao cn 2 3) (aa (fNew "Leaf" ["name"] (aa (f2 ap (af 1) (fC (.int 2))) ah)) (aa (dh (aa (fNew "Rename" ["old","new"] (aa (f2 ap (af 2) (fC (.int 4))) (aa (f2 ap (af 2) (fC (.int 5))) ah))) (aa (fNew "Rename" ["old","new"] (aa (f2 ap (af 2) (fC (.int 5))) (aa (f2 ap (af 2) (fC (.int 4))) ah))) ah))) ah))) ah)))) bb) (aq (dy (fB (f2 gk (af 0) (fC (.int 1)))) (aJ (aT (aa (fC (.str "twice")) (aa (fNew "Both" ["one","other","pair"] (aa (af 3) (aa (fNew "Over" ["glass","step"] (aa (fNew "Leaf" ["name"] (aa (f2 ap (af 1) (fC (.int 0))) ah)) (aa (fC (.obj "Step" [] [])) ah))) (aa (fC (.obj "Join" [] [])) ah)))) ah)))) bb) (aq (dy (fB (f2 gk (af 0) (fC (.int 2)))) (aJ (aT (aa (fC (.str "field")) (aa (fNew "Both" ["one","other","pair"] (aa (fNew "Over" ["glass","step"] (aa (fNew "Over" ["glass","step"] (aa (af 3) (aa (af 4) ah))) (aa (fNew "Rename" ["old","new"] (aa (f2 ap (af 2) (fC (.int 5))) (aa (f2 ap (af 2) (fC (.int 4))) ah))) ah))) (aa (fNew "Leaf" ["name"] (aa (f2 ap (af 1) (fC (.int 2))) ah)) (aa (fC (.obj "Join" [] [])) ah)))) ah)))) bb) (aJ (aT (aa (fC (.str "table")) (aa (fNew "Both" ["one","other","pair"] (aa (fNew "Leaf" ["name"] (aa (f2 ap (af 1) (fC (.int 2))) ah)) (aa (fNew "Over" ["glass","step"] (aa (af 3) (aa (af 4) ah))) (aa (fC (.obj "Join" [] [])) ah)))) ah))))))))
noncomputable def cW:bw:=aq (uh (af 1) (KW 6 (qt [3,4,5,6,7,8]))) (aq (aM 9 (f2 ap (dh (aa (fC (.int 0)) (aa (fC (.int 2)) (aa (qN (fC (.int 1))) (aa (fC (.int 9)) ah))))) (f2 cT (af 2) (fC (.int 4))))) (aq (aM 10 (dh (aa (aT (aa (fC (.str "key")) (aa (dh (aa (fNew "Nest" ["many","name"] (aa (af 9) (aa (af 7) ah))) (aa (fNew "Unnest" ["name"] (aa (af 7) ah)) ah))) ah))) (aa (aT (aa (fC (.str "kind")) (aa (dh (aa (fNew "Unnest" ["name"] (aa (af 5) ah)) (aa (fNew "Nest" ["many","name"] (aa (fC (.int 2)) (aa (af 5) ah))) ah))) ah))) ah)))) (aq (aM 10 (f2 bE (af 10) (dh (aa (aT (aa (fC (.str "field")) (aa (dh (aa (fNew "Rename" ["old","new"] (aa (af 7) (aa (af 8) ah))) (aa (fNew "Rename" ["old","new"] (aa (af 8) (aa (af 7) ah))) ah))) ah))) ah)))) (aq (aM 10 (f2 bE (af 10) (dh (aa (aT (aa (fC (.str "twice")) (aa (dh (aa (fNew "Rename" ["old","new"] (aa (af 3) (aa (af 4) ah))) (aa (fNew "Rename" ["old","new"] (aa (af 4) (aa (af 3) ah))) ah))) ah))) (aa (aT (aa (fC (.str "twice")) (aa (dh (aa (fNew "Rename" ["old","new"] (aa (af 3) (aa (af 3) ah))) (aa (fNew "Rename" ["old","new"] (aa (af 3) (aa (af 3) ah))) ah))) ah))) ah))))) (aq (aM 10 (f2 bE (af 10) (dh (aa (aT (aa (fC (.str "kind")) (aa (dh (aa (fNew "Fuse" ["quotient","rest","by","name"] (aa (af 3) (aa (af 4) (aa (f2 bE (fC (.int 12)) (f2 gE (fC (.int 12)) (f2 cT (af 2) (fC (.int 2))))) (aa (af 7) ah))))) (aa (fNew "Part" ["name","by","quotient","rest"] (aa (af 7) (aa (f2 bE (fC (.int 12)) (f2 gE (fC (.int 12)) (f2 cT (af 2) (fC (.int 2))))) (aa (af 3) (aa (af 4) ah))))) ah))) ah))) ah)))) (aq (aM 10 (f2 bE (af 10) (dh (aa (aT (aa (fC (.str "torn")) (aa (dh (aa (fNew "Part" ["name","by","quotient","rest"] (aa (af 3) (aa (f2 bE (fC (.int 5)) (f2 gE (fC (.int 2)) (f2 cT (af 2) (fC (.int 3))))) (aa (af 7) (aa (af 8) ah))))) (aa (fNew "Fuse" ["quotient","rest","by","name"] (aa (af 7) (aa (af 8) (aa (f2 bE (fC (.int 5)) (f2 gE (fC (.int 2)) (f2 cT (af 2) (fC (.int 3))))) (aa (af 3) ah))))) ah))) ah))) ah)))) (aq (aM 11 (fNew "Sieve" ["name","kind"] (aa (af 3) (aa (aT (aa (fC (.str "number")) (aa (qN (fC (.int 9))) (aa (f2 pT (qN (fC (.int 1))) (f2 cT (af 2) (fC (.int 8)))) ah)))) ah)))) (aq (aM 10 (f2 bE (af 10) (dh (aa (aT (aa (fC (.str "nothing")) (aa (dh (aa (af 11) (aa (fNew "Sieve" ["name","kind"] (aa (af 3) (aa (aT (aa (fC (.str "number")) (aa (qN (fC (.int 9))) (aa (fC (.int 99)) ah)))) ah))) ah))) ah))) (aa (aT (aa (fC (.str "blind")) (aa (dh (aa (fNew "Drop" ["name","value"] (aa (af 3) (aa (f2 cT (af 2) (fC (.int 12))) ah))) (aa (fC (.obj "Step" [] [])) ah))) ah))) ah))))) (aJ (f2 ap (af 10) (af 0)))))))))))
noncomputable def eK:bw:=aq (aM 3 (aT (aa (aT (aa (fR (ao aL 2 7) (aa (af 0) (aa (fC (.int 0)) ah))) (aa (aT (aa (fC (.str "number")) (aa (fC (.int 0)) (aa (fC (.int 11)) ah)))) ah))) (aa (aT (aa (fR (ao aL 2 7) (aa (af 0) (aa (fC (.int 1)) ah))) (aa (aT (aa (fC (.str "number")) (aa (f2 gE (fC (.int 12)) (f2 cT (af 1) (fC (.int 9)))) (aa (f2 bE (f2 gE (fC (.int 12)) (f2 cT (af 1) (fC (.int 9)))) (fC (.int 11))) ah)))) ah))) ah)))) (aq (aM 4 (aT (aa (aT (aa (fR (ao aL 2 7) (aa (af 0) (aa (fC (.int 2)) ah))) (aa (aT (aa (fC (.str "number")) (aa (qN (fC (.int 5))) (aa (af 2) ah)))) ah))) (aa (aT (aa (fR (ao aL 2 7) (aa (af 0) (aa (fC (.int 3)) ah))) (aa (aT (aa (fC (.str "word")) (aa (aT (aa (fC (.str "")) (aa (fC (.str "ab")) ah))) ah))) ah))) ah)))) (aJ (aT (aa (af 3) (aa (af 4) ah)))))
noncomputable def og:bw:=aq (aM 1 (f2 cT (f2 gE (fR (ao ce 2 2) (aa (af 0) (aa (fC (.int 0)) ah))) (fC (.int 48271))) (fC (.int 2147483647)))) (aq (aM 2 (fR (ao cH 2 3) (aa (af 0) (aa (fC (.int 1)) ah)))) (aq (aM 3 (fR (ao eK 3 5) (aa (af 1) (aa (f2 bE (fC (.int 1)) (f2 cT (af 2) (fC (.int 8)))) (aa (f2 cT (fR (ao ce 2 2) (aa (af 0) (aa (fC (.int 2)) ah))) (f2 yP (fC (.int 10)) (fC (.int 60)))) ah))))) (aq (aM 4 (fU [none,some 1] (du (aa (fC (.int 6)) ah)) (gN 0) bX (fR (ao aL 2 7) (aa (af 1) (aa (af 0) ah))))) (aq (aM 5 (fU [none,some 1] (du (aa (fC (.int 3)) ah)) (gN 0) bX (fR (ao aL 2 7) (aa (af 1) (aa (f2 bE (fC (.int 8)) (af 0)) ah))))) (aq (aM 6 (gW [(f2 ap (af 5) (fC (.int 0)),af 3),(f2 ap (af 5) (fC (.int 1)),af 3)])) (gM [1,2,3] (aq (o5 (ml (aa (fC (.int 3)) (aa (fL n6 (aa (fL oh (aa (fL fj (aa (af 0) ah)) (aa (fC (.int 5)) ah))) (aa (fC (.int 20)) ah))) ah))) (gN 7) (aq (aM 8 (fR (ao cH 2 3) (aa (af 0) (aa (af 7) ah)))) (aq (aM 9 (f2 cT (af 8) (fC (.int 13)))) (aq (dy (fB (f2 lV (af 9) (fC (.int 9)))) (aq (uh (fR (ao cW 3 12) (aa (af 9) (aa (af 4) (aa (f2 gR (af 8) (fC (.int 13))) ah)))) (gT 2 (qt [10,11]))) (aM 12 (fR (ao cn 2 3) (aa (fNew "Leaf" ["name"] (aa (f2 ap (af 5) (fC (.int 0))) ah)) (aa (af 11) ah))))) (uh (fR (ao cm 3 5) (aa (f2 pT (af 9) (fC (.int 9))) (aa (af 5) (aa (af 4) ah)))) (gT 2 (qt [10,12])))) (gM [1,2,3,7,9,11] (aq (o5 (du (aa (f2 cT (f2 gR (af 8) (fC (.int 1000))) (fC (.int 5))) ah)) (gN 13) (aq (aM 12 (fNew "Over" ["glass","step"] (aa (af 12) (aa (f2 ap (dh (aa (fC (.obj "Step" [] [])) (aa (fNew "Sieve" ["name","kind"] (aa (f2 ap (af 4) (fC (.int 0))) (aa (aT (aa (fC (.str "number")) (aa (qN (fC (.int 5))) (aa (fC (.int 20)) ah)))) ah))) ah))) (f2 cT (f2 gR (af 8) (f2 bE (fC (.int 5000)) (af 13))) (fC (.int 2)))) ah)))) (gM [13] bb))) (aq (dy (vC (fB (f2 lg (fR (ao aK 2 4) (aa (af 6) (aa (af 12) ah))) (af 10))) (fB (f2 lg (fR (ao cM 2 4) (aa (af 6) (aa (af 12) ah))) (af 10)))) (aJ (fC (.bl false))) bb) (aq (dy (vC (fB (f2 lg (fR (ao aK 2 4) (aa (af 6) (aa (af 12) ah))) (af 10))) (fB (f2 lg (fR (ao aK 2 4) (aa (af 6) (aa (fNew "Leaf" ["name"] (aa (f2 ap (af 5) (fC (.int 1))) ah)) ah))) (fC (.str "none"))))) (aJ (fC (.bl false))) bb) (gM [7,8,9,10,11,12,13] bb))))))))) (aq (aM 14 (fR (ao cn 2 3) (aa (fNew "Leaf" ["name"] (aa (f2 ap (af 5) (fC (.int 0))) ah)) (aa (dh (aa (fNew "Nest" ["many","name"] (aa (fC (.int 1)) (aa (f2 ap (af 4) (fC (.int 4))) ah))) (aa (fNew "Unnest" ["name"] (aa (f2 ap (af 4) (fC (.int 4))) ah)) (aa (fNew "Part" ["name","by","quotient","rest"] (aa (f2 ap (af 4) (fC (.int 0))) (aa (fC (.int 4)) (aa (f2 ap (af 4) (fC (.int 4))) (aa (f2 ap (af 4) (fC (.int 5))) ah))))) ah)))) ah)))) (aJ (f2 gk (fR (ao aK 2 4) (aa (af 6) (aa (af 14) ah))) (fC (.str "none"))))))))))))
set_option hygiene false
local macro_rules|`(tactic|ktr_call $p $e)=>`(tactic|((with_reducible show $p);refine $e))
local macro_rules|`(tactic|walk_at "A")=>`(tactic|first|ktr_call (qR _ _ (aq _ _)) (yn ?_ ?_)|ktr_call (qR _ _ (gM _ _)) (yr _ ?_)|ktr_call (qR _ _ (Ez _ _)) (Bj _ ?_)|ktr_call (qR _ _ bb) B2|refine Al ?_)
local macro_rules|`(tactic|walk_at "B")=>`(tactic|first|ktr_call (XS _ _ (aM _ (fU _ _ _ _ _))) (Og (by first|assumption|exact si rfl) rfl (by first|exact kn rfl|exact jf rfl) ?_ ?_)|ktr_call (XS _ _ (aM _ _)) (xs _ (by first|assumption|exact si rfl) ?_)|ktr_call (XS _ _ (aJ _)) (EW ?_)|ktr_call (XS _ _ (dy _ _ _)) (Iz ?_ ?_ ?_)|ktr_call (XS _ _ bb) Az|ktr_call (XS _ _ bb) DT|ktr_call (XS _ _ (bW _ _)) (zH rfl (by walk_at "a") rfl ?_)|ktr_call (XS _ _ (lx _)) (Ay ?_)|ktr_call (XS _ _ (o5 _ _ _)) (Dd hp rfl ?_ ?_ ?_)|ktr_call (XS _ _ (uh _ _)) (Ey ?_ ?_)|ktr_call (XS _ _ (kj _ _ _)) (ww rfl rfl (by walk_at "a") hr ‹0› rfl ?_)|ktr_call (XS _ _ (zY _ _ _ _)) (DU rfl rfl rfl (fun _=>rfl) (by walk_at "a") rfl (by first|assumption|exact si rfl) rfl rfl (fun E' pn hp=>?_) (fun A' pn hA hU=>?_))|ktr_call (XS _ _ (ui _ (fU _ _ _ _ _))) (Qb (by first|assumption|exact si rfl) rfl (by first|exact kn rfl|exact jf rfl) ?_ ?_)|ktr_call (XS _ _ (ui _ _)) (CV (by first|assumption|exact si rfl) rfl (by first|exact Or.inl rfl|exact Or.inr rfl) ?_)|ktr_call (XS _ _ (KQ _ C9 _)) (Ik PySem.F.slot_list_append PySem.F.type_list_append rX yi (xv _) ?_))
local macro_rules|`(tactic|walk_at "C")=>`(tactic|first|ktr_call (XT _ _ (aZ _)) (zf ?_)|ktr_call (XT _ _ (fB (f2 gk _ _))) (gG (Bw hr.units) bR ?_ ?_ (gj _))|ktr_call (XT _ _ (fB (f2 lg _ _))) (gG (CL hr.units) bR ?_ ?_ (gj _))|ktr_call (XT _ _ (vC _ _)) (NU ?_)|ktr_call (XT _ _ (mY _)) (D9 ?_)|ktr_call (XT _ _ (nG _ _)) (NU ?_)|ktr_call (XT _ _ (fB (f2 t9 _ _))) (gG (Ct hr.units) bR ?_ ?_ rfl)|ktr_call (XT _ _ (fB (fX u9 lV _ _ _))) (rQ oo cC (sZ hr.units) bR ?_ ?_ ?_)|ktr_call (XT _ _ (fB (fX u9 u9 _ _ _))) (rQ oo cC oo cC ?_ ?_ ?_)|ktr_call (XT _ _ (fB (f2 IQ _ _))) (gG FQ cC ?_ ?_ (gj _))|ktr_call (XT _ _ (fB (f2 Jt _ _))) (gG FH cC ?_ ?_ (gj _))|ktr_call (XT _ _ (fB (uz _))) (Fd ?_)|ktr_call (XT _ _ (fB (f2 lV _ _))) (gG (sZ hr.units) bR ?_ ?_ (gj _))|ktr_call (XT _ _ (fB (f2 u9 _ _))) (gG oo cC ?_ ?_ (gj _))|ktr_call (XT _ _ (fB (f2 gC _ _))) (gG (rT hr.units) bR ?_ ?_ rfl)|ktr_call (XT _ _ (fB (f2 lG _ _))) (gG (rF hr.units) bR ?_ ?_ rfl))
local macro_rules|`(tactic|walk_at "D")=>`(tactic|first|ktr_call (XW _ _ (nG _ _)) (Dr ?_ ?_)|ktr_call (XW _ _ (vC _ _)) (Gm ?_ ?_)|refine Cd ?_|refine Et ?_)
local macro_rules|`(tactic|walk_at "F")=>`(tactic|first|ktr_call (XI _ _ _ (bV _)) (D4 ?_)|ktr_call (XI _ _ _ (du _)) (vT rfl (by walk_at "a") ?_)|ktr_call (XI _ _ _ (yw _)) (C8 rfl (by walk_at "a") ?_)|ktr_call (XI _ _ _ (ml _)) (wj rfl (by walk_at "a") ?_)|ktr_call (XI _ _ _ (fu _)) (qv rfl (by walk_at "a") ?_))
local macro_rules|`(tactic|walk_at "G")=>`(tactic|first|ktr_call (XG _ _ (gN _)) (AV (by first|assumption|exact si rfl) rfl (by first|exact Or.inl rfl|exact Or.inr rfl))|ktr_call (XG _ _ (gT _ _)) (Dq rfl ?_)|ktr_call (XG _ _ (KW _ _)) (CI rfl ?_))
local macro_rules|`(tactic|walk_at "L")=>`(tactic|first|ktr_call (XN _ _ (dh _)) (Ea ?_)|ktr_call (XN _ _ (fU _ _ _ _ _)) (Pg rfl (by first|exact kn rfl|exact jf rfl) ?_ ?_)|ktr_call (XN _ _ (f2 An _ _)) (D6 ?_ ?_)|ktr_call (XN _ _ (gW [_])) (zp ?_ ?_))
local macro_rules|`(tactic|walk_at "M")=>`(tactic|first|with_reducible refine Dh ?_|ktr_call (XE _ _ (af _)) (xw _)|ktr_call (XE _ _ (fC .non)) Dz|ktr_call (XE _ _ (fC (.int _))) Dg|ktr_call (XE _ _ (fC (.int _))) (CN rfl (by walk_at "a"))|ktr_call (XE _ _ (f2 ap _ _)) (xi ?_ ?_)|ktr_call (XE _ _ (fR (Bz _) _)) (uk (by walk_at "a") (Ii et) (hV.at hr hA hU) ‹0› ?_)|ktr_call (XE _ _ (fR _ _)) (wd (by walk_at "a") (by first|exact et|walk_at "a") hr ‹0› ?_)|ktr_call (XE _ _ (f1 (az _ _) _)) (C4 (by walk_at "a") ?_)|ktr_call (XE _ _ (fC (.str _))) EY|ktr_call (XE _ _ (aT _)) (DM ?_)|ktr_call (XE _ _ (fNew _ _ _)) (Fj (by walk_at "a") hr ‹0› rfl ?_)|ktr_call (XE _ _ (dh _)) (ED ?_)|ktr_call (XE _ _ (f2 gk _ _)) (gD (Bw hr.units) bR ?_ ?_ (gj _))|ktr_call (XE _ _ (f2 bE _ _)) (jh EK bR ?_ ?_)|ktr_call (XE _ _ (fU _ _ _ _ _)) (xl rfl (by first|exact kn rfl|exact jf rfl) ?_ ?_)|ktr_call (XE _ _ (cw _ _ _ (aa _ _))) (Ai (by walk_at "a") hr ‹0› ?_ ?_)|ktr_call (XE _ _ (cw _ _ _ ah)) (zU (by walk_at "a") hr ‹0› ?_)|ktr_call (XE _ _ (f2 lg _ _)) (gD (CL hr.units) bR ?_ ?_ (gj _))|ktr_call (XE _ _ (f2 cT _ _)) (jh Gz HL ?_ ?_)|ktr_call (XE _ _ (f1 (eB _ _) _)) (EL (by walk_at "a") rfl (by walk_at "a") rfl ?_)|ktr_call (XE _ _ (fL fj _)) (jb yD rfl (by walk_at "a") PySem.boot_len ?_)|ktr_call (XE _ _ (f1 (dR _) _)) (BI (by walk_at "a") rfl (by walk_at "a") rfl ?_)|ktr_call (XE _ _ (f1 (dR _) _)) (zO (by walk_at "a") rfl (by walk_at "a") rfl (by walk_at "a") PyProof.Rows.Boot.«ValueError» ?_)|ktr_call (XE _ _ (vX _ _ _)) (Hu ?_ ?_ ?_)|ktr_call (XE _ _ (f2 gE _ _)) (jh BL AH ?_ ?_)|ktr_call (XE _ _ (fC (.bl _))) Hg|ktr_call (XE _ _ (f2 t9 _ _)) (gD (Ct hr.units) bR ?_ ?_ rfl)|ktr_call (XE _ _ (iR _ _)) (C2 ?_ ?_)|ktr_call (XE _ _ (f2 pT _ _)) (jh G9 GK ?_ ?_)|ktr_call (XE _ _ (f2 gR _ _)) (jh CP Io ?_ ?_)|ktr_call (XE _ _ (fC (.obj _ _ _))) (AC (by walk_at "a") rfl)|ktr_call (XE _ _ (qN _)) (C3 ?_)|ktr_call (XE _ _ (oA "int" _)) (oX Am rfl (by walk_at "a") rfl (by walk_at "a") PyProof.Rows.boot_int ?_)|ktr_call (XE _ _ (oA "bool" _)) (oX zR rfl (by walk_at "a") rfl (by walk_at "a") PyProof.Rows.boot_bool ?_)|ktr_call (XE _ _ (oA "str" _)) (oX BF rfl (by walk_at "a") rfl (by walk_at "a") TN ?_)|ktr_call (XE _ _ (oA "tuple" _)) (oX wI rfl (by walk_at "a") rfl (by walk_at "a") TQ ?_)|ktr_call (XE _ _ (fX u9 lV _ _ _)) (qY oo cC (sZ hr.units) bR ?_ ?_ ?_)|ktr_call (XE _ _ (fX u9 u9 _ _ _)) (qY oo cC oo cC ?_ ?_ ?_)|ktr_call (XE _ _ (jc _ _ _)) (zj ?_ ?_ ?_)|ktr_call (XE _ _ (fL vI _)) (jb (yx rfl) rfl (by walk_at "a") PyProof.Rows.boot_all ?_)|ktr_call (XE _ _ (f2 IQ _ _)) (gD FQ cC ?_ ?_ (gj _))|ktr_call (XE _ _ (fL gh _)) (pZ uE rfl (by walk_at "a") TQ ?_)|ktr_call (XE _ _ (fL qp _)) (jb (yQ rfl) rfl (by walk_at "a") PyProof.Rows.boot_any ?_)|ktr_call (XE _ _ (f2 lV _ _)) (gD (sZ hr.units) bR ?_ ?_ (gj _))|ktr_call (XE _ _ (f2 Jt _ _)) (gD FH cC ?_ ?_ (gj _))|ktr_call (XE _ _ (uz _)) (DX ?_)|ktr_call (XE _ _ (uw _)) (E8 ?_)|ktr_call (XE _ _ (Bk _ _)) (Hs ?_ ?_)|ktr_call (XE _ _ (fL oh _)) (jb (v6 rfl) rfl (by walk_at "a") PyProof.Rows.boot_max ?_)|ktr_call (XE _ _ (fL n6 _)) (jb (v9 rfl) rfl (by walk_at "a") PyProof.Rows.boot_min ?_)|ktr_call (XE _ _ (f2 yP _ _)) (jh Ht Gq ?_ ?_)|ktr_call (XE _ _ (f2 u9 _ _)) (gD oo cC ?_ ?_ (gj _))|ktr_call (XE _ _ (f2 gC _ _)) (gD (rT hr.units) bR ?_ ?_ rfl)|ktr_call (XE _ _ (f2 qX _ _)) (Bm hr.units ?_ ?_ (fun _ _=>rfl))|ktr_call (XE _ _ (gW [_])) (zV ?_ ?_)|ktr_call (XE _ _ (gW [_, _])) (zt ?_ ?_ ?_ ?_)|ktr_call (XE _ _ (gW [_, _, _])) (zG ?_ ?_ ?_ ?_ ?_ ?_)|ktr_call (XE _ _ (f1 (rN _) _)) (AO rfl rfl (by walk_at "a") ?_)|ktr_call (XE _ _ (wu _ _)) (yo hr.units ?_ ?_)|ktr_call (XE _ _ (vS _ _)) (yA hr.units ?_ ?_)|ktr_call (XE _ _ (f2 w8 _ _)) (jh Ew bR ?_ ?_)|ktr_call (XE _ _ (f2 lG _ _)) (gD (rF hr.units) bR ?_ ?_ rfl)|ktr_call (XE _ _ (fL Br _)) (pZ y8 rfl (by walk_at "a") TN ?_))
local macro_rules|`(tactic|walk_at "d")=>`(tactic|((first|((with_reducible show XE _ _ _);walk_at "M")|((with_reducible show XA _ _ _);first|ktr_call (XA _ _ (aa _ _)) (pq ?_ ?_)|ktr_call (XA _ _ ah) xx)|((with_reducible show XS _ _ _);walk_at "B")|((with_reducible show qR _ _ _);walk_at "A")|((with_reducible show XT _ _ _);walk_at "C")|((with_reducible show XW _ _ _);walk_at "D")|((with_reducible show XI _ _ _ _);walk_at "F")|((with_reducible show XG _ _ _);walk_at "G")|((with_reducible show Fy _ _ _);first|ktr_call (Fy _ _ (qt (_ :: _))) (yG ?_ ?_)|ktr_call (Fy _ _ (qt [])) B8)|((with_reducible show XO _ _ _);first|ktr_call (XO _ _ gx) B6|ktr_call (XO _ _ (lQ _)) (Cp ?_))|((with_reducible show Kc _ _ _);first|ktr_call (Kc _ _ bX) BE|refine CA ?_)|((with_reducible show qx _ _ _ _ _ _ _ _ _);first|refine ⟨fun _ _ _ _ _ _=>⟨?_, ?_, ?_⟩⟩)|((with_reducible show XN _ _ _);walk_at "L"))<;>walk_at "d"))
local macro_rules | `(tactic| walk_at "a") => `(tactic| first | assumption | exact q.2 | exact q.1.2 | exact q.1.1.2 | exact q.1.1.1.2 | exact q.1.1.1.1.2 | exact q.1.1.1.1.1.2 | exact q.1.1.1.1.1.1.2 | exact q.1.1.1.1.1.1.1.2 | (replace q := q.1.1.1.1.1.1.1.1; walk_at "a") | exact q.1 | exact q.1.1 | exact q.1.1.1 | exact q.1.1.1.1 | exact q.1.1.1.1.1 | exact q.1.1.1.1.1.1 | exact q.1.1.1.1.1.1.1)
local macro_rules | `(tactic| walk_at "b") => `(tactic| (intro us hl _ _ _ _ _ _; first | (obtain ⟨a, rfl⟩ := Jg hl; rfl) | (obtain ⟨a, b, rfl⟩ := Bc hl; rfl) | (obtain ⟨a, b, c, rfl⟩ := wq hl; rfl) | (obtain ⟨a, b, c, d, rfl⟩ := Ec hl; rfl)))
local macro_rules | `(tactic| walk_at "m") => `(tactic| ((· walk_at "a"); (· walk_at "b"); (· exact ‹2›); first | refine fun nd f => ⟨fun cdv A outer s H E hr hp => ?_⟩ | intro nd f A outer s H E hr hp))
local macro_rules | `(tactic| ktn_call $m $b:ident) => `(tactic| ((first | (apply DH $m; walk_at "m") | (apply JP $m; walk_at "m")); unfold $b; walk_at "d"))
local macro_rules | `(tactic| walk_at "t") => `(tactic| first | exact Ff | (refine Bi (MethAt.mono (by walk_at "a") (by first | decide | omega)) (by first | exact et | walk_at "a") ?_; walk_at "t"))
section
variable{u:U}
noncomputable def Q0(u:U):Prop:=(((((((((((((((((((((((((((((((((((((((((((((((((((((((((((((((((((((((((((((((((((((((((((((((((((((((((((((((KO u (KO u (Zs u ["isinstance","ValueError","tuple","enumerate","max","min","len","all","zip","any","int","bool","range","str"]) [("_law_which",top 85),("renamed",top 69),("kind_at",top 43),("names_of",top 28),("place_of",top 29),("both_words",top 22),("both_numbers",top 21),("both",top 20),("kinds_of",top 19),("single",top 23),("is_behind",top 71),("same_parts",top 70),("instead",top 68),("shared_key",top 79),("depth_of",top 30),("is_whole",top 17),("replaced",top 45),("in_key",top 44),("with_fields",top 46),("least",top 24),("least_row",top 41),("named_elsewhere",top 47),("second_value",top 75),("check_key",top 74),("has_parts",top 18),("keys_rise",top 40),("fits",top 37),("keeps",top 38),("is_row",top 39),("written",top 50)]) [("is_idle",top 67),("laid_over",top 66),("thin",top 65),("thinned",top 64),("_law_refused",top 90),("_law_chain",top 87),("_law_formed",top 91),("_law_pairs",top 89),("_law_steps",top 88),("_law_next",top 82),("_law_cell_at",top 81),("_law_seed",top 83),("_law_name",top 84),("_law_form",top 86)])/\∃t,u.mg "MOST_FIELDS"=some (.int 8 t))/\∃t,u.mg "MOST_WITHIN"=some (.int 3 t))/\∃t,u.mg "LEAST_BY"=some (.int 2 t))/\∃t,u.mg "MOST_BY"=some (.int 1000000000 t))/\bh u.K "name" ["Unnest"])/\bh u.K "name" ["Sieve"])/\bh u.K "kind" ["Sieve"])/\bh u.K "name" ["Drop"])/\bh u.K "rest" ["Part","Fuse"])/\bh u.K "quotient" ["Part","Fuse"])/\bh u.K "by" ["Part","Fuse"])/\bh u.K "new" ["Rename"])/\bh u.K "old" ["Rename"])/\bh u.K "name" ["Leaf","Nest","Unnest","Part","Fuse","Sieve","Drop"])/\bh u.K "many" ["Nest"])/\bh u.K "name" ["Leaf"])/\bh u.K "glass" ["Over"])/\bh u.K "one" ["Both"])/\bh u.K "other" ["Both"])/\bh u.K "name" ["Nest"])/\bh u.K "by" ["Part"])/\bh u.K "quotient" ["Part"])/\bh u.K "rest" ["Part"])/\bh u.K "name" ["Part"])/\bh u.K "by" ["Fuse"])/\bh u.K "quotient" ["Fuse"])/\bh u.K "rest" ["Fuse"])/\bh u.K "name" ["Fuse"])/\bh u.K "value" ["Drop"])/\bh u.K "step" ["Over"])/\bh u.K "pair" ["Both"])/\cB u.P u.w u.K u.mg u.base 1 "Rename" ["self","old","new"] ["old","new"])/\cB u.P u.w u.K u.mg u.base 1 "Sieve" ["self","name","kind"] ["name","kind"])/\cB u.P u.w u.K u.mg u.base 1 "Over" ["self","glass","step"] ["glass","step"])/\cB u.P u.w u.K u.mg u.base 1 "Both" ["self","one","other","pair"] ["one","other","pair"])/\cB u.P u.w u.K u.mg u.base 1 "Leaf" ["self","name"] ["name"])/\cB u.P u.w u.K u.mg u.base 1 "Nest" ["self","many","name"] ["many","name"])/\cB u.P u.w u.K u.mg u.base 1 "Unnest" ["self","name"] ["name"])/\cB u.P u.w u.K u.mg u.base 1 "Part" ["self","name","by","quotient","rest"] ["name","by","quotient","rest"])/\cB u.P u.w u.K u.mg u.base 1 "Fuse" ["self","quotient","rest","by","name"] ["quotient","rest","by","name"])/\cB u.P u.w u.K u.mg u.base 1 "Drop" ["self","name","value"] ["name","value"])/\ur u.K u.mg "Join")/\ur u.K u.mg "Step")/\fW u.K u.mg "Rename" ["Rename"] ["Step","Nest","Unnest","Part","Fuse","Sieve","Drop"])/\fW u.K u.mg "Sieve" ["Sieve"] ["Step","Nest","Unnest","Part","Fuse","Rename","Drop"])/\fW u.K u.mg "Part" ["Part"] ["Step","Nest","Unnest","Fuse","Rename","Sieve","Drop"])/\fW u.K u.mg "Fuse" ["Fuse"] ["Step","Nest","Unnest","Part","Rename","Sieve","Drop"])/\fW u.K u.mg "Nest" ["Nest"] ["Step","Unnest","Part","Fuse","Rename","Sieve","Drop"])/\fW u.K u.mg "Unnest" ["Unnest"] ["Step","Nest","Part","Fuse","Rename","Sieve","Drop"])/\fW u.K u.mg "Over" ["Over"] ["Leaf","Both"])/\fW u.K u.mg "Both" ["Both"] ["Leaf","Over"])/\kF u.P u.w u.K u.mg u.base 1 "Torn" ["self","view"] ["view"])/\kF u.P u.w u.K u.mg u.base 1 "Blind" ["self","one","other","change"] ["one","other","change"])/\ExcAt u.K u.mg "NoField")/\ExcAt u.K u.mg "NoTable")/\ExcAt u.K u.mg "NoKind")/\ExcAt u.K u.mg "Nothing")/\ExcAt u.K u.mg "Twice")/\ExcAt u.K u.mg "TooMany")/\ExcAt u.K u.mg "NoKey")/\vi u.K u.mg "GlassError" ["NoTable","NoField","Twice","NoKind","Nothing","NoKey","TooMany","Blind","Torn"])/\cR u.K u.mg "NoField" [("NoTable",false),("NoField",true),("Twice",false),("NoKind",false),("Nothing",false),("NoKey",false),("TooMany",false),("Blind",false),("Torn",false)])/\cR u.K u.mg "NoTable" [("NoTable",true),("NoField",false),("Twice",false),("NoKind",false),("Nothing",false),("NoKey",false),("TooMany",false),("Blind",false),("Torn",false)])/\cR u.K u.mg "NoForm" [("NoTable",false),("NoField",false),("Twice",false),("NoKind",false),("Nothing",false),("NoKey",false),("TooMany",false),("Blind",false),("Torn",false)])/\cR u.K u.mg "Nothing" [("NoTable",false),("NoField",false),("Twice",false),("NoKind",false),("Nothing",true),("NoKey",false),("TooMany",false),("Blind",false),("Torn",false)])/\cR u.K u.mg "NoKind" [("NoTable",false),("NoField",false),("Twice",false),("NoKind",true),("Nothing",false),("NoKey",false),("TooMany",false),("Blind",false),("Torn",false)])/\cR u.K u.mg "Twice" [("NoTable",false),("NoField",false),("Twice",true),("NoKind",false),("Nothing",false),("NoKey",false),("TooMany",false),("Blind",false),("Torn",false)])/\cR u.K u.mg "Blind" [("NoTable",false),("NoField",false),("Twice",false),("NoKind",false),("Nothing",false),("NoKey",false),("TooMany",false),("Blind",true),("Torn",false)])/\cR u.K u.mg "TooMany" [("NoTable",false),("NoField",false),("Twice",false),("NoKind",false),("Nothing",false),("NoKey",false),("TooMany",true),("Blind",false),("Torn",false)])/\cR u.K u.mg "NoKey" [("NoTable",false),("NoField",false),("Twice",false),("NoKind",false),("Nothing",false),("NoKey",true),("TooMany",false),("Blind",false),("Torn",false)])/\cR u.K u.mg "NoPane" [("NoTable",false),("NoField",false),("Twice",false),("NoKind",false),("Nothing",false),("NoKey",false),("TooMany",false),("Blind",false),("Torn",false)])/\cR u.K u.mg "Stale" [("NoTable",false),("NoField",false),("Twice",false),("NoKind",false),("Nothing",false),("NoKey",false),("TooMany",false),("Blind",false),("Torn",false)])/\cR u.K u.mg "Torn" [("NoTable",false),("NoField",false),("Twice",false),("NoKind",false),("Nothing",false),("NoKey",false),("TooMany",false),("Blind",false),("Torn",true)])/\cR u.K u.mg "NoText" [("NoTable",false),("NoField",false),("Twice",false),("NoKind",false),("Nothing",false),("NoKey",false),("TooMany",false),("Blind",false),("Torn",false)])/\uJ u.K (.type "ValueError") [("NoTable",true),("NoField",true),("Twice",true),("NoKind",true),("Nothing",true),("NoKey",true),("TooMany",true),("Blind",true),("Torn",true)])/\Dm u "Rename" "exact" "Step.exact" (inClass (top 49) 4))/\Dm u "Part" "exact" "Step.exact" (inClass (top 49) 4))/\Dm u "Fuse" "exact" "Step.exact" (inClass (top 49) 4))/\Dm u "Nest" "exact" "Step.exact" (inClass (top 49) 4))/\Dm u "Step" "exact" "Step.exact" (inClass (top 49) 4))/\Dm u "Unnest" "exact" "Unnest.exact" (inClass (top 53) 5))/\Dm u "Sieve" "exact" "Sieve.exact" (inClass (top 62) 5))/\Dm u "Drop" "exact" "Drop.exact" (inClass (top 73) 5))/\Dm u "Leaf" "form" "Leaf.form" (inClass (top 33) 2))/\Dm u "Join" "view_form" "Join.view_form" (inClass (top 78) 1))/\Dm u "Leaf" "names" "Leaf.names" (inClass (top 33) 1))/\Dm u "Over" "names" "Over.names" (inClass (top 34) 1))/\Dm u "Both" "names" "Both.names" (inClass (top 35) 1))/\Dm u "Step" "view_form" "Step.view_form" (inClass (top 49) 1))/\Dm u "Nest" "view_form" "Nest.view_form" (inClass (top 52) 2))/\Dm u "Unnest" "view_form" "Unnest.view_form" (inClass (top 53) 2))/\Dm u "Part" "check_ends" "Part.check_ends" (inClass (top 57) 4))/\Dm u "Part" "check_names" "Part.check_names" (inClass (top 57) 3))/\Dm u "Part" "view_form" "Part.view_form" (inClass (top 57) 2))/\Dm u "Fuse" "check_kinds" "Fuse.check_kinds" (inClass (top 58) 3))/\Dm u "Fuse" "view_form" "Fuse.view_form" (inClass (top 58) 2))/\Dm u "Rename" "view_form" "Rename.view_form" (inClass (top 60) 2))/\Dm u "Sieve" "view_form" "Sieve.view_form" (inClass (top 62) 2))/\Dm u "Drop" "view_form" "Drop.view_form" (inClass (top 73) 2))/\Dm u "Over" "form" "Over.form" (inClass (top 34) 2))/\Dm u "Both" "form" "Both.form" (inClass (top 35) 2))/\Dm u "Step" "words" "Step.words" (inClass (top 49) 0))/\Dm u "Nest" "words" "Nest.words" (inClass (top 52) 1))/\Dm u "Unnest" "words" "Unnest.words" (inClass (top 53) 1))/\Dm u "Part" "words" "Part.words" (inClass (top 57) 1))/\Dm u "Fuse" "words" "Fuse.words" (inClass (top 58) 1))/\Dm u "Rename" "words" "Rename.words" (inClass (top 60) 1))/\Dm u "Sieve" "words" "Sieve.words" (inClass (top 62) 1))/\Dm u "Drop" "words" "Drop.words" (inClass (top 73) 1))/\Dm u "Join" "words" "Join.words" (inClass (top 78) 0))
noncomputable def Q1(u:U):Prop:=(Q0 u/\Ca u 1 "_law_which" ["_law_error"] (ao de 1 3))/\N6 u 1 "_law_which" ["_law_error"] (ao de 1 3)
theorem e1(q:Q0 u):Q1 u:=⟨⟨q,(by ktn_call ["_law_marks","_law_some"] de)⟩,(by apply OS ["_law_marks","_law_some"];walk_at "m";unfold de;walk_at "d")⟩
noncomputable def Q2(u:U):Prop:=Q1 u/\Ca u 3 "renamed" ["old","new"] (ao iJ 2 2)
theorem e2(q:Q1 u):Q2 u:=⟨q,(by ktn_call [] iJ)⟩
noncomputable def Q3(u:U):Prop:=((((Q2 u/\Ma u 1 "Rename" "exact" ["self","form"] (ao aD 2 2))/\Ma u 1 "Part" "exact" ["self","form"] (ao aD 2 2))/\Ma u 1 "Fuse" "exact" ["self","form"] (ao aD 2 2))/\Ma u 1 "Nest" "exact" ["self","form"] (ao aD 2 2))/\Ma u 1 "Step" "exact" ["self","form"] (ao aD 2 2)
theorem e3(q:Q2 u):Q3 u:=⟨⟨⟨⟨⟨q,(by ktn_call [] aD)⟩,(by ktn_call [] aD)⟩,(by ktn_call [] aD)⟩,(by ktn_call [] aD)⟩,(by ktn_call [] aD)⟩
noncomputable def Q4(u:U):Prop:=Q3 u/\Ca u 1 "kind_at" ["form","place"] (ao bJ 2 2)
theorem e4(q:Q3 u):Q4 u:=⟨q,(by ktn_call [] bJ)⟩
noncomputable def Q5(u:U):Prop:=Q4 u/\Ca u 1 "names_of" ["form"] (ao cJ 1 1)
theorem e5(q:Q4 u):Q5 u:=⟨q,(by ktn_call [] cJ)⟩
noncomputable def Q6(u:U):Prop:=Q5 u/\Ca u 2 "place_of" ["form","name"] (ao bg 2 4)
theorem e6(q:Q5 u):Q6 u:=⟨q,(by ktn_call ["place","other"] bg)⟩
noncomputable def Q7(u:U):Prop:=Q6 u/\Ma u 3 "Unnest" "exact" ["self","form"] (ao dA 2 2)
theorem e7(q:Q6 u):Q7 u:=⟨q,(by ktn_call [] dA)⟩
noncomputable def Q8(u:U):Prop:=Q7 u/\Ca u 1 "both_words" ["one","other"] (ao jq 2 3)
theorem e8(q:Q7 u):Q8 u:=⟨q,(by ktn_call ["words"] jq)⟩
noncomputable def Q9(u:U):Prop:=Q8 u/\Ca u 1 "both_numbers" ["one","other"] (ao dB 2 4)
theorem e9(q:Q8 u):Q9 u:=⟨q,(by ktn_call ["low","high"] dB)⟩
noncomputable def Mv(u:U):Prop:=Q9 u/\Ca u 2 "both" ["one","other"] (ao jL 2 2)
theorem e10(q:Q9 u):Mv u:=⟨q,(by ktn_call [] jL)⟩
noncomputable def Np(u:U):Prop:=Mv u/\Ma u 3 "Sieve" "exact" ["self","form"] (ao dX 2 3)
theorem G0(q:Mv u):Np u:=⟨q,(by ktn_call ["kind"] dX)⟩
noncomputable def Ko(u:U):Prop:=Np u/\Ca u 1 "kinds_of" ["form"] (ao cI 1 1)
theorem PZ(q:Np u):Ko u:=⟨q,(by ktn_call [] cI)⟩
theorem pj(q:Ko u):∀n:Nat,Ca u (1+n) "single" ["kind"] (cx n)
 |0=>by
  rw[cx];exact Gj (by walk_at "a") (by walk_at "b")
 |n+1=>by
  have ih:=pj q n;have c0:=ih;have a0:=ot n;rw[iy];apply DH (k:=1+n) [];walk_at "m";unfold me;walk_at "d"
noncomputable def MT(u:U):Prop:=(Ko u/\Ca u (13) "single" ["kind"] (cx 12))/\Ar 1 (cx 12)
theorem Pt(q:Ko u):MT u:=⟨⟨q,(pj q 12)⟩,ot 12⟩
noncomputable def K9(u:U):Prop:=MT u/\Ma u 14 "Drop" "exact" ["self","form"] (ao eS 2 2)
theorem Om(q:MT u):K9 u:=⟨q,(by ktn_call [] eS)⟩
noncomputable def Li(u:U):Prop:=K9 u/\Ca u 3 "is_behind" ["form","fuse"] (ao jX 2 2)
theorem O7(q:K9 u):Li u:=⟨q,(by ktn_call [] jX)⟩
noncomputable def MR(u:U):Prop:=Li u/\Ca u 1 "same_parts" ["one","other"] (ao gF 2 2)
theorem PF(q:Li u):MR u:=⟨q,(by ktn_call [] gF)⟩
noncomputable def Nx(u:U):Prop:=MR u/\Ta u 14 "exact" ["self","form"] [("Step",(ao aD 2 2)),("Nest",(ao aD 2 2)),("Unnest",(ao dA 2 2)),("Part",(ao aD 2 2)),("Fuse",(ao aD 2 2)),("Rename",(ao aD 2 2)),("Sieve",(ao dX 2 3)),("Drop",(ao eS 2 2))]
theorem Pk(q:MR u):Nx u:=⟨q,(by walk_at "t")⟩
noncomputable def MQ(u:U):Prop:=Nx u/\Ca u 15 "instead" ["form","lower","upper"] (ao iM 3 3)
theorem OT(q:Nx u):MQ u:=⟨q,(by ktn_call [] iM)⟩
noncomputable def Nv(u:U):Prop:=MQ u/\Ma u 1 "Leaf" "form" ["self","forms"] (ao bA 2 2)
theorem Pl(q:MQ u):Nv u:=⟨q,(by ktn_call [] bA)⟩
noncomputable def Le(u:U):Prop:=Nv u/\Ca u 3 "shared_key" ["one","other"] (ao jo 2 3)
theorem e20(q:Nv u):Le u:=⟨q,(by ktn_call ["kinds"] jo)⟩
noncomputable def ML(u:U):Prop:=Le u/\Ma u 4 "Join" "view_form" ["self","one","other"] (ao dI 3 5)
theorem M7(q:Le u):ML u:=⟨q,(by ktn_call ["key","names"] dI)⟩
noncomputable def KP(u:U):Prop:=ML u/\Ma u 1 "Leaf" "names" ["self"] (ao bj 1 1)
theorem O9(q:ML u):KP u:=⟨q,(by ktn_call [] bj)⟩
theorem gO(q:KP u):∀n:Nat,Ma u (1+n) "Over" "names" ["self"] (aC n)/\Ma u (1+n) "Both" "names" ["self"] (aG n)
 |0=>by
  rw[aC];rw[aG];exact⟨E9 (by walk_at "a") (by walk_at "b"),E9 (by walk_at "a") (by walk_at "b")⟩
 |n+1=>by
  have ih:=gO q n;have c0:=ih.1;have c1:=ih.2;have a0:=jB n;have a1:=jy n;have t0:Ta u (1+n) "names" ["self"] [("Leaf",(ao bj 1 1)),("Over",aC n),("Both",aG n)]:=by walk_at "t"
  rw[eY];rw[ie];refine⟨?_,?_⟩
  ·apply JP (k:=1+n) [];walk_at "m";unfold gA;walk_at "d"
  ·apply JP (k:=1+n) [];walk_at "m";unfold jk;walk_at "d"
noncomputable def Lw(u:U):Prop:=(((KP u/\Ma u (13) "Over" "names" ["self"] (aC 12))/\Ma u (13) "Both" "names" ["self"] (aG 12))/\Ar 1 (aC 12))/\Ar 1 (aG 12)
theorem P7(q:KP u):Lw u:=⟨⟨⟨⟨q,(gO q 12).1⟩,(gO q 12).2⟩,jB 12⟩,jy 12⟩
noncomputable def Kw(u:U):Prop:=Lw u/\Ma u 1 "Step" "view_form" ["self","form"] (ao bO 2 2)
theorem O6(q:Lw u):Kw u:=⟨q,(by ktn_call [] bO)⟩
theorem mn(q:Kw u):∀n:Nat,Ca u (1+n) "depth_of" ["form"] (bF n)
 |0=>by
  rw[bF];exact Gj (by walk_at "a") (by walk_at "b")
 |n+1=>by
  have ih:=mn q n;have c0:=ih;have a0:=li n;rw[fY];apply DH (k:=1+n) [];walk_at "m";unfold jj;walk_at "d"
noncomputable def Lb(u:U):Prop:=(Kw u/\Ca u (13) "depth_of" ["form"] (bF 12))/\Ar 1 (bF 12)
theorem P8(q:Kw u):Lb u:=⟨⟨q,(mn q 12)⟩,li 12⟩
noncomputable def La(u:U):Prop:=Lb u/\Ca u 1 "is_whole" ["value"] (ao fO 1 1)
theorem Oz(q:Lb u):La u:=⟨q,(by ktn_call [] fO)⟩
noncomputable def Nk(u:U):Prop:=La u/\Ma u 14 "Nest" "view_form" ["self","form"] (ao bp 2 4)
theorem OB(q:La u):Nk u:=⟨q,(by ktn_call ["key","inner"] bp)⟩
noncomputable def MD(u:U):Prop:=Nk u/\Ma u 3 "Unnest" "view_form" ["self","form"] (ao aW 2 5)
theorem Qc(q:Nk u):MD u:=⟨q,(by ktn_call ["kind","key","inner"] aW)⟩
noncomputable def NM(u:U):Prop:=MD u/\Ca u 1 "replaced" ["values","place","others"] (ao cK 3 3)
theorem Oy(q:MD u):NM u:=⟨q,(by ktn_call [] cK)⟩
noncomputable def K8(u:U):Prop:=NM u/\Ca u 1 "in_key" ["form","place"] (ao dS 2 2)
theorem N8(q:NM u):K8 u:=⟨q,(by ktn_call [] dS)⟩
noncomputable def KH(u:U):Prop:=K8 u/\Ca u 2 "with_fields" ["form","place","fields"] (ao bK 3 3)
theorem PJ(q:K8 u):KH u:=⟨q,(by ktn_call [] bK)⟩
theorem sy(q:KH u):∀n:Nat,Ca u (1+n) "least" ["kind"] (cz n)
 |0=>by
  rw[cz];exact Gj (by walk_at "a") (by walk_at "b")
 |n+1=>by
  have ih:=sy q n;have c0:=ih;have a0:=pY n;rw[eU];apply DH (k:=1+n) [];walk_at "m";unfold kg;walk_at "d"
noncomputable def NN(u:U):Prop:=(KH u/\Ca u (13) "least" ["kind"] (cz 12))/\Ar 1 (cz 12)
theorem P9(q:KH u):NN u:=⟨⟨q,(sy q 12)⟩,pY 12⟩
noncomputable def M4(u:U):Prop:=NN u/\Ca u 14 "least_row" ["form"] (ao eE 1 1)
theorem Pb(q:NN u):M4 u:=⟨q,(by ktn_call [] eE)⟩
noncomputable def MN(u:U):Prop:=M4 u/\Ma u 15 "Part" "check_ends" ["self","form","place"] (ao bI 3 5)
theorem OM(q:M4 u):MN u:=⟨q,(by ktn_call ["kind","row"] bI)⟩
noncomputable def MU(u:U):Prop:=MN u/\Ca u 1 "named_elsewhere" ["form","name","places"] (ao bH 3 4)
theorem Oh(q:MN u):MU u:=⟨q,(by ktn_call ["fields"] bH)⟩
noncomputable def MK(u:U):Prop:=MU u/\Ma u 2 "Part" "check_names" ["self","form","place"] (ao bC 3 3)
theorem Pz(q:MU u):MK u:=⟨q,(by ktn_call [] bC)⟩
noncomputable def LZ(u:U):Prop:=MK u/\Ta u 2 "check_names" ["self","form","place"] [("Part",(ao bC 3 3))]
theorem PN(q:MK u):LZ u:=⟨q,(by walk_at "t")⟩
noncomputable def M8(u:U):Prop:=LZ u/\Ta u 15 "check_ends" ["self","form","place"] [("Part",(ao bI 3 5))]
theorem OQ(q:LZ u):M8 u:=⟨q,(by walk_at "t")⟩
noncomputable def Lp(u:U):Prop:=M8 u/\Ma u 16 "Part" "view_form" ["self","form"] (ao bM 2 6)
theorem O8(q:M8 u):Lp u:=⟨q,(by ktn_call ["place","kind","quotients","rests"] bM)⟩
noncomputable def Nt(u:U):Prop:=Lp u/\Ma u 2 "Fuse" "check_kinds" ["self","form","place","gone"] (ao bz 4 4)
theorem OD(q:Lp u):Nt u:=⟨q,(by ktn_call [] bz)⟩
noncomputable def LN(u:U):Prop:=Nt u/\Ta u 2 "check_kinds" ["self","form","place","gone"] [("Fuse",(ao bz 4 4))]
theorem PL(q:Nt u):LN u:=⟨q,(by walk_at "t")⟩
noncomputable def Ml(u:U):Prop:=LN u/\Ma u 3 "Fuse" "view_form" ["self","form"] (ao bN 2 6)
theorem O0(q:LN u):Ml u:=⟨q,(by ktn_call ["place","gone","kind","numbers"] bN)⟩
noncomputable def M9(u:U):Prop:=Ml u/\Ma u 3 "Rename" "view_form" ["self","form"] (ao aV 2 3)
theorem Ox(q:Ml u):M9 u:=⟨q,(by ktn_call ["place"] aV)⟩
noncomputable def M6(u:U):Prop:=M9 u/\Ma u 3 "Sieve" "view_form" ["self","form"] (ao bG 2 5)
theorem Od(q:M9 u):M6 u:=⟨q,(by ktn_call ["place","kind","shown"] bG)⟩
noncomputable def K4(u:U):Prop:=M6 u/\Ca u 1 "second_value" ["kind"] (ao dG 1 1)
theorem P6(q:M6 u):K4 u:=⟨q,(by ktn_call [] dG)⟩
noncomputable def Mg(u:U):Prop:=K4 u/\Ca u 15 "check_key" ["form","place"] (ao eJ 2 6)
theorem Py(q:K4 u):Mg u:=⟨q,(by ktn_call ["many","kind","row","twin"] eJ)⟩
noncomputable def Lq(u:U):Prop:=Mg u/\Ca u 1 "has_parts" ["value","many"] (ao j6 2 2)
theorem OV(q:Mg u):Lq u:=⟨q,(by ktn_call [] j6)⟩
noncomputable def Kr(u:U):Prop:=Lq u/\Ca u 1 "keys_rise" ["many","table"] (ao j7 2 3)
theorem PD(q:Lq u):Kr u:=⟨q,(by ktn_call ["keys"] j7)⟩
theorem lP(q:Kr u):∀n:Nat,Ca u (1+n) "fits" ["kind","value"] (cO n)/\Ca u (1+n) "keeps" ["form","table"] (cA n)/\Ca u (1+n) "is_row" ["kinds","row"] (bY n)
 |0=>by
  rw[cO];rw[cA];rw[bY];exact⟨Gj (by walk_at "a") (by walk_at "b"),Gj (by walk_at "a") (by walk_at "b"),Gj (by walk_at "a") (by walk_at "b")⟩
 |n+1=>by
  have ih:=lP q n;have c0:=ih.1;have c1:=ih.2.1;have c2:=ih.2.2;have a0:=rY n;have a1:=qg n;have a2:=ow n;rw[jZ];rw[mr];rw[ll];refine⟨?_,?_,?_⟩
  ·apply DH (k:=1+n) [];walk_at "m";unfold tE;walk_at "d"
  ·apply DH (k:=1+n) ["kinds"];walk_at "m";unfold tM;walk_at "d"
  ·apply DH (k:=1+n) [];walk_at "m";unfold pH;walk_at "d"
noncomputable def MZ(u:U):Prop:=(((((Kr u/\Ca u (13) "fits" ["kind","value"] (cO 12))/\Ca u (13) "keeps" ["form","table"] (cA 12))/\Ca u (13) "is_row" ["kinds","row"] (bY 12))/\Ar 2 (cO 12))/\Ar 2 (cA 12))/\Ar 2 (bY 12)
theorem O5(q:Kr u):MZ u:=⟨⟨⟨⟨⟨⟨q,(lP q 12).1⟩,(lP q 12).2.1⟩,(lP q 12).2.2⟩,rY 12⟩,qg 12⟩,ow 12⟩
noncomputable def K6(u:U):Prop:=MZ u/\Ma u 16 "Drop" "view_form" ["self","form"] (ao bP 2 4)
theorem Pa(q:MZ u):K6 u:=⟨q,(by ktn_call ["place","kind"] bP)⟩
noncomputable def LW(u:U):Prop:=K6 u/\Ta u 16 "view_form" ["self","form"] [("Step",(ao bO 2 2)),("Nest",(ao bp 2 4)),("Unnest",(ao aW 2 5)),("Part",(ao bM 2 6)),("Fuse",(ao bN 2 6)),("Rename",(ao aV 2 3)),("Sieve",(ao bG 2 5)),("Drop",(ao bP 2 4))]
theorem OY(q:K6 u):LW u:=⟨q,(by walk_at "t")⟩
noncomputable def Nn(u:U):Prop:=LW u/\Ta u 13 "names" ["self"] [("Leaf",(ao bj 1 1)),("Over",(aC 12)),("Both",(aG 12))]
theorem PH(q:LW u):Nn u:=⟨q,(by walk_at "t")⟩
noncomputable def Kz(u:U):Prop:=Nn u/\Ta u 4 "view_form" ["self","one","other"] [("Join",(ao dI 3 5))]
theorem Pp(q:Nn u):Kz u:=⟨q,(by walk_at "t")⟩
theorem iw(q:Kz u):∀n:Nat,Ma u (16+n) "Over" "form" ["self","forms"] (aE n)/\Ma u (16+n) "Both" "form" ["self","forms"] (aF n)
 |0=>by
  rw[aE];rw[aF];exact⟨E9 (by walk_at "a") (by walk_at "b"),E9 (by walk_at "a") (by walk_at "b")⟩
 |n+1=>by
  have ih:=iw q n;have c0:=ih.1;have c1:=ih.2;have a0:=jT n;have a1:=jR n;have t0:Ta u (16+n) "form" ["self","forms"] [("Leaf",(ao bA 2 2)),("Over",aE n),("Both",aF n)]:=by walk_at "t"
  rw[fF];rw[dH];refine⟨?_,?_⟩
  ·apply JP (k:=16+n) [];walk_at "m";unfold h7;walk_at "d"
  ·apply JP (k:=16+n) ["first","second","names"];walk_at "m";unfold fT;walk_at "d"
noncomputable def NI(u:U):Prop:=(((Kz u/\Ma u (28) "Over" "form" ["self","forms"] (aE 12))/\Ma u (28) "Both" "form" ["self","forms"] (aF 12))/\Ar 2 (aE 12))/\Ar 2 (aF 12)
theorem Oo(q:Kz u):NI u:=⟨⟨⟨⟨q,(iw q 12).1⟩,(iw q 12).2⟩,jT 12⟩,jR 12⟩
noncomputable def MX(u:U):Prop:=NI u/\Ma u 1 "Step" "words" ["self"] (ao eN 1 1)
theorem Ol(q:NI u):MX u:=⟨q,(by ktn_call [] eN)⟩
noncomputable def LA(u:U):Prop:=MX u/\Ca u 1 "written" ["value"] (ao cP 1 1)
theorem OH(q:MX u):LA u:=⟨q,(by ktn_call [] cP)⟩
noncomputable def Ni(u:U):Prop:=LA u/\Ma u 2 "Nest" "words" ["self"] (ao df 1 1)
theorem OX(q:LA u):Ni u:=⟨q,(by ktn_call [] df)⟩
noncomputable def Mj(u:U):Prop:=Ni u/\Ma u 1 "Unnest" "words" ["self"] (ao cv 1 1)
theorem Ou(q:Ni u):Mj u:=⟨q,(by ktn_call [] cv)⟩
noncomputable def Nr(u:U):Prop:=Mj u/\Ma u 2 "Part" "words" ["self"] (ao cX 1 1)
theorem Pu(q:Mj u):Nr u:=⟨q,(by ktn_call [] cX)⟩
noncomputable def Lx(u:U):Prop:=Nr u/\Ma u 2 "Fuse" "words" ["self"] (ao eT 1 1)
theorem Oc(q:Nr u):Lx u:=⟨q,(by ktn_call [] eT)⟩
noncomputable def Lh(u:U):Prop:=Lx u/\Ma u 1 "Rename" "words" ["self"] (ao dD 1 1)
theorem Qd(q:Lx u):Lh u:=⟨q,(by ktn_call [] dD)⟩
noncomputable def ME(u:U):Prop:=Lh u/\Ma u 2 "Sieve" "words" ["self"] (ao dW 1 1)
theorem Oe(q:Lh u):ME u:=⟨q,(by ktn_call [] dW)⟩
noncomputable def LX(u:U):Prop:=ME u/\Ma u 2 "Drop" "words" ["self"] (ao eQ 1 1)
theorem OZ(q:ME u):LX u:=⟨q,(by ktn_call [] eQ)⟩
noncomputable def Mx(u:U):Prop:=LX u/\Ma u 1 "Join" "words" ["self"] (ao eX 1 1)
theorem Oi(q:LX u):Mx u:=⟨q,(by ktn_call [] eX)⟩
noncomputable def LC(u:U):Prop:=Mx u/\Ta u 2 "words" ["self"] [("Step",(ao eN 1 1)),("Nest",(ao df 1 1)),("Unnest",(ao cv 1 1)),("Part",(ao cX 1 1)),("Fuse",(ao eT 1 1)),("Rename",(ao dD 1 1)),("Sieve",(ao dW 1 1)),("Drop",(ao eQ 1 1)),("Join",(ao eX 1 1))]
theorem P4(q:Mx u):LC u:=⟨q,(by walk_at "t")⟩
noncomputable def Mt(u:U):Prop:=LC u/\Ca u 15 "is_idle" ["form","step"] (ao dJ 2 2)
theorem PY(q:LC u):Mt u:=⟨q,(by ktn_call [] dJ)⟩
noncomputable def KA(u:U):Prop:=Mt u/\Ta u 28 "form" ["self","forms"] [("Leaf",(ao bA 2 2)),("Over",(aE 12)),("Both",(aF 12))]
theorem Pn(q:Mt u):KA u:=⟨q,(by walk_at "t")⟩
theorem lq(q:KA u):∀n:Nat,Ca u (28+n) "laid_over" ["forms","glass","step"] (bq n)
 |0=>by
  rw[bq];exact Gj (by walk_at "a") (by walk_at "b")
 |n+1=>by
  have ih:=lq q n;have c0:=ih;have a0:=jN n;rw[dL];apply DH (k:=28+n) ["steps"];walk_at "m";unfold fV;walk_at "d"
noncomputable def KS(u:U):Prop:=(KA u/\Ca u (40) "laid_over" ["forms","glass","step"] (bq 12))/\Ar 3 (bq 12)
theorem Px(q:KA u):KS u:=⟨⟨q,(lq q 12)⟩,jN 12⟩
theorem uU(q:KS u):∀n:Nat,Ca u (40+n) "thin" ["forms","glass"] (dg n)
 |0=>by
  rw[dg];exact Gj (by walk_at "a") (by walk_at "b")
 |n+1=>by
  have ih:=uU q n;have c0:=ih;have a0:=sE n;rw[ig];apply DH (k:=40+n) [];walk_at "m";unfold pB;walk_at "d"
noncomputable def Mf(u:U):Prop:=(KS u/\Ca u (52) "thin" ["forms","glass"] (dg 12))/\Ar 2 (dg 12)
theorem Pq(q:KS u):Mf u:=⟨⟨q,(uU q 12)⟩,sE 12⟩
noncomputable def Nu(u:U):Prop:=Mf u/\Ca u 53 "thinned" ["forms","glass"] (ao eM 2 2)
theorem OG(q:Mf u):Nu u:=⟨q,(by ktn_call [] eM)⟩
noncomputable def NE(u:U):Prop:=Nu u/\Ca u 54 "_law_refused" ["_law_forms","_law_glass"] (ao aK 2 4)
theorem PV(q:Nu u):NE u:=⟨q,(by ktn_call ["_law_found","e"] aK)⟩
noncomputable def Lg(u:U):Prop:=NE u/\Ca u 3 "_law_chain" ["_law_glass","_law_steps_here"] (ao cn 2 3)
theorem OA(q:NE u):Lg u:=⟨q,(by ktn_call ["_law_step"] cn)⟩
noncomputable def Ld(u:U):Prop:=Lg u/\Ca u 29 "_law_formed" ["_law_forms","_law_glass"] (ao cM 2 4)
theorem P5(q:Lg u):Ld u:=⟨q,(by ktn_call ["_law_found","e"] cM)⟩
noncomputable def LQ(u:U):Prop:=Ld u/\Ca u 4 "_law_pairs" ["_law_way","_law_tables","_law_names"] (ao cm 3 5)
theorem OL(q:Ld u):LQ u:=⟨q,(by ktn_call ["_law_one","_law_bad"] cm)⟩
noncomputable def MJ(u:U):Prop:=LQ u/\Ca u 3 "_law_steps" ["_law_way","_law_names","_law_x"] (ao cW 3 12)
theorem OU(q:LQ u):MJ u:=⟨q,(by ktn_call ["_law_one","_law_other","_law_third","_law_word","_law_new","_law_more","_law_many","_law_some","_law_below"] cW)⟩
noncomputable def LO(u:U):Prop:=MJ u/\Ca u 1 "_law_next" ["_law_x"] (ao eF 1 1)
theorem PB(q:MJ u):LO u:=⟨q,(by ktn_call [] eF)⟩
noncomputable def Mw(u:U):Prop:=LO u/\Ca u 1 "_law_cell_at" ["_law_script","_law_k"] (ao ce 2 2)
theorem Oj(q:LO u):Mw u:=⟨q,(by ktn_call [] ce)⟩
noncomputable def Md(u:U):Prop:=Mw u/\Ca u 2 "_law_seed" ["_law_script","_law_k"] (ao cH 2 3)
theorem OW(q:Mw u):Md u:=⟨q,(by ktn_call ["_law_x"] cH)⟩
noncomputable def M1(u:U):Prop:=Md u/\Ca u 1 "_law_name" ["_law_base","_law_k"] (ao aL 2 7)
theorem P0(q:Md u):M1 u:=⟨q,(by ktn_call ["_law_letters","_law_size","_law_name_here","_law_j","_law_step"] aL)⟩
noncomputable def NR(u:U):Prop:=M1 u/\Ca u 2 "_law_form" ["_law_base","_law_x","_law_high"] (ao eK 3 5)
theorem Qa(q:M1 u):NR u:=⟨q,(by ktn_call ["_law_key","_law_rest"] eK)⟩
theorem Jj{f:T7}{fd:UP}(F:mj u.K "law" "law" (top 92) f fd)(q:NR u):gS u.P u.w u.K u.mg u.base (kX u.P u.w) 55 f fd ["_law_script"] (wa u.K 1 (ao og 1 15)):=by
 refine Ot ["_law_base","_law_x","_law_form_here","_law_names","_law_tables","_law_forms","_law_k","_law_y","_law_way","_law_due","_law_steps_here","_law_glass","_law_turn","_law_good"] F ?_ ?_
 ·exact‹2›
 refine λnd=>⟨λcdv A outer s H E hr hp=>?_⟩
 unfold og;walk_at "d"
set_option hygiene true
variable{P:Uc}{w:Ub}{K:Sn}{mg:bU}{base:Ue}
theorem uP{C f:T7}{fd:UP}(h1:clsAt K "Rename" C)(hM:Mk K C f)(cl:jK K C)(na:∀g∈(["old","new"]:ax),b8 K C g)(F:mj K "__init__" "Rename.__init__" ic f fd)(b:Binds K fd ["self","old","new"] [])(hmg:mg "Rename"=some (.ref C)):cB P w K mg base 1 "Rename" ["self","old","new"] ["old","new"]:=
 dk (k:=0) h1 hM cl na F b hmg lD rfl (by decide +kernel) (by decide) λcdv A outer s H E=>(b6 rfl (pv 0) (pv 1) rfl (dj rfl (pv 0) (pv 2) rfl))
theorem we{C f:T7}{fd:UP}(h1:clsAt K "Sieve" C)(hM:Mk K C f)(cl:jK K C)(na:∀g∈(["name","kind"]:ax),b8 K C g)(F:mj K "__init__" "Sieve.__init__" iZ f fd)(b:Binds K fd ["self","name","kind"] [])(hmg:mg "Sieve"=some (.ref C)):cB P w K mg base 1 "Sieve" ["self","name","kind"] ["name","kind"]:=
 dk (k:=0) h1 hM cl na F b hmg lW rfl (by decide +kernel) (by decide) λcdv A outer s H E=>(b6 rfl (pv 0) (pv 1) rfl (dj rfl (pv 0) (pv 2) rfl))
theorem yN{C f:T7}{fd:UP}(h1:clsAt K "Over" C)(hM:Mk K C f)(cl:jK K C)(na:∀g∈(["glass","step"]:ax),b8 K C g)(F:mj K "__init__" "Over.__init__" jC f fd)(b:Binds K fd ["self","glass","step"] [])(hmg:mg "Over"=some (.ref C)):cB P w K mg base 1 "Over" ["self","glass","step"] ["glass","step"]:=
 dk (k:=0) h1 hM cl na F b hmg mM rfl (by decide +kernel) (by decide) λcdv A outer s H E=>(b6 rfl (pv 0) (pv 1) rfl (dj rfl (pv 0) (pv 2) rfl))
theorem ym{C f:T7}{fd:UP}(h1:clsAt K "Both" C)(hM:Mk K C f)(cl:jK K C)(na:∀g∈(["one","other","pair"]:ax),b8 K C g)(F:mj K "__init__" "Both.__init__" jG f fd)(b:Binds K fd ["self","one","other","pair"] [])(hmg:mg "Both"=some (.ref C)):cB P w K mg base 1 "Both" ["self","one","other","pair"] ["one","other","pair"]:=
 dk (k:=0) h1 hM cl na F b hmg nR rfl (by decide +kernel) (by decide) λcdv A outer s H E=>(b6 rfl (pv 0) (pv 1) rfl (b6 rfl (pv 0) (pv 2) rfl (dj rfl (pv 0) (pv 3) rfl)))
theorem yu{C f:T7}{fd:UP}(h1:clsAt K "Leaf" C)(hM:Mk K C f)(cl:jK K C)(na:∀g∈(["name"]:ax),b8 K C g)(F:mj K "__init__" "Leaf.__init__" jA f fd)(b:Binds K fd ["self","name"] [])(hmg:mg "Leaf"=some (.ref C)):cB P w K mg base 1 "Leaf" ["self","name"] ["name"]:=
 dk (k:=0) h1 hM cl na F b hmg mL rfl (by decide +kernel) (by decide) λcdv A outer s H E=>(dj rfl (pv 0) (pv 1) rfl)
theorem zQ{C f:T7}{fd:UP}(h1:clsAt K "Nest" C)(hM:Mk K C f)(cl:jK K C)(na:∀g∈(["many","name"]:ax),b8 K C g)(F:mj K "__init__" "Nest.__init__" jF f fd)(b:Binds K fd ["self","many","name"] [])(hmg:mg "Nest"=some (.ref C)):cB P w K mg base 1 "Nest" ["self","many","name"] ["many","name"]:=
 dk (k:=0) h1 hM cl na F b hmg nW rfl (by decide +kernel) (by decide) λcdv A outer s H E=>(b6 rfl (pv 0) (pv 1) rfl (dj rfl (pv 0) (pv 2) rfl))
theorem uI{C f:T7}{fd:UP}(h1:clsAt K "Unnest" C)(hM:Mk K C f)(cl:jK K C)(na:∀g∈(["name"]:ax),b8 K C g)(F:mj K "__init__" "Unnest.__init__" hX f fd)(b:Binds K fd ["self","name"] [])(hmg:mg "Unnest"=some (.ref C)):cB P w K mg base 1 "Unnest" ["self","name"] ["name"]:=
 dk (k:=0) h1 hM cl na F b hmg lF rfl (by decide +kernel) (by decide) λcdv A outer s H E=>(dj rfl (pv 0) (pv 1) rfl)
theorem yg{C f:T7}{fd:UP}(h1:clsAt K "Part" C)(hM:Mk K C f)(cl:jK K C)(na:∀g∈(["name","by","quotient","rest"]:ax),b8 K C g)(F:mj K "__init__" "Part.__init__" jw f fd)(b:Binds K fd ["self","name","by","quotient","rest"] [])(hmg:mg "Part"=some (.ref C)):cB P w K mg base 1 "Part" ["self","name","by","quotient","rest"] ["name","by","quotient","rest"]:=
 dk (k:=0) h1 hM cl na F b hmg nF rfl (by decide +kernel) (by decide) λcdv A outer s H E=>(b6 rfl (pv 0) (pv 1) rfl (b6 rfl (pv 0) (pv 2) rfl (b6 rfl (pv 0) (pv 3) rfl (dj rfl (pv 0) (pv 4) rfl))))
theorem Ab{C f:T7}{fd:UP}(h1:clsAt K "Fuse" C)(hM:Mk K C f)(cl:jK K C)(na:∀g∈(["quotient","rest","by","name"]:ax),b8 K C g)(F:mj K "__init__" "Fuse.__init__" jD f fd)(b:Binds K fd ["self","quotient","rest","by","name"] [])(hmg:mg "Fuse"=some (.ref C)):cB P w K mg base 1 "Fuse" ["self","quotient","rest","by","name"] ["quotient","rest","by","name"]:=
 dk (k:=0) h1 hM cl na F b hmg mI rfl (by decide +kernel) (by decide) λcdv A outer s H E=>(b6 rfl (pv 0) (pv 1) rfl (b6 rfl (pv 0) (pv 2) rfl (b6 rfl (pv 0) (pv 3) rfl (dj rfl (pv 0) (pv 4) rfl))))
theorem yS{C f:T7}{fd:UP}(h1:clsAt K "Drop" C)(hM:Mk K C f)(cl:jK K C)(na:∀g∈(["name","value"]:ax),b8 K C g)(F:mj K "__init__" "Drop.__init__" jH f fd)(b:Binds K fd ["self","name","value"] [])(hmg:mg "Drop"=some (.ref C)):cB P w K mg base 1 "Drop" ["self","name","value"] ["name","value"]:=
 dk (k:=0) h1 hM cl na F b hmg nz rfl (by decide +kernel) (by decide) λcdv A outer s H E=>(b6 rfl (pv 0) (pv 1) rfl (dj rfl (pv 0) (pv 2) rfl))
theorem wc{C f:T7}{fd:UP}(h1:clsAt K "Torn" C)(hM:Kg K C f)(na:∀g∈(["view"]:ax),b8 K C g)(F:mj K "__init__" "Torn.__init__" jE f fd)(b:Binds K fd ["self","view"] [])(hmg:mg "Torn"=some (.ref C)):kF P w K mg base 1 "Torn" ["self","view"] ["view"]:=
 ph (k:=0) h1 hM na F b hmg nZ rfl (by decide +kernel) (by decide) λcdv A outer s H E=>(qU rfl (pv 0) (pv 1) rfl)
theorem vA{C f:T7}{fd:UP}(h1:clsAt K "Blind" C)(hM:Kg K C f)(na:∀g∈(["one","other","change"]:ax),b8 K C g)(F:mj K "__init__" "Blind.__init__" iB f fd)(b:Binds K fd ["self","one","other","change"] [])(hmg:mg "Blind"=some (.ref C)):kF P w K mg base 1 "Blind" ["self","one","other","change"] ["one","other","change"]:=
 ph (k:=0) h1 hM na F b hmg lT rfl (by decide +kernel) (by decide) λcdv A outer s H E=>(qf rfl (pv 0) (pv 1) rfl (qf rfl (pv 0) (pv 2) rfl (qU rfl (pv 0) (pv 3) rfl)))
end
theorem all_mk{l:SZ}{w:Ub}{K:Sn}{h:Ue}{mg:bU}{fa:T7}(X:K.In h)(G:h.Ns Uh mg)(hfa:mg "law"=some (.ref fa)){f1 f2:T7}
  (ac0:S0 K Uh "Rename"=some (some (.ref Cl0)))
  (ac1:S0 K Uh "Unnest"=some (some (.ref Cl1)))
  (ac2:S0 K Uh "Sieve"=some (some (.ref Cl2)))
  (ac3:S0 K Uh "Drop"=some (some (.ref Cl3)))
  (ac4:S0 K Uh "Part"=some (some (.ref Cl4)))
  (ac5:S0 K Uh "Fuse"=some (some (.ref Cl5)))
  (ac6:S0 K Uh "Leaf"=some (some (.ref Cl6)))
  (ac7:S0 K Uh "Nest"=some (some (.ref Cl7)))
  (ac8:S0 K Uh "Step"=some (some (.ref Cl8)))
  (ac9:S0 K Uh "Over"=some (some (.ref Cl9)))
  (ac10:S0 K Uh "Both"=some (some (.ref Cl10)))
  (ac11:S0 K Uh "Join"=some (some (.ref Cl11)))
  (a0:Su K (.ref Cl0) "exact"=some (some (.ref f0)))
  (a0_4:Su K (.ref Cl4) "exact"=some (some (.ref f0)))
  (a0_5:Su K (.ref Cl5) "exact"=some (some (.ref f0)))
  (a0_7:Su K (.ref Cl7) "exact"=some (some (.ref f0)))
  (a0_8:Su K (.ref Cl8) "exact"=some (some (.ref f0)))
  (i0:Sx K (.ref f0)=true)
  (l0:Lk K f0 "exact" "Step.exact" (inClass (top 49) 4) oc0 od0 kV0 dc0 pm0 an0 cd0 ct0 sl0)
  (c0:SW K cd0 "Step.exact"=true)
  (k0:SN K (.ref f0)=true)
  (a1:Su K (.ref Cl1) "exact"=some (some (.ref f1)))
  (i1:Sx K (.ref f1)=true)
  (l1:Lk K f1 "exact" "Unnest.exact" (inClass (top 53) 5) oc1 od1 kV1 dc1 pm1 an1 cd1 ct1 sl1)
  (c1:SW K cd1 "Unnest.exact"=true)
  (k1:SN K (.ref f1)=true)
  (a2:Su K (.ref Cl2) "exact"=some (some (.ref f2)))
  (i2:Sx K (.ref f2)=true)
  (l2:Lk K f2 "exact" "Sieve.exact" (inClass (top 62) 5) oc2 od2 kV2 dc2 pm2 an2 cd2 ct2 sl2)
  (c2:SW K cd2 "Sieve.exact"=true)
  (k2:SN K (.ref f2)=true)
  (a3:Su K (.ref Cl3) "exact"=some (some (.ref f3)))
  (i3:Sx K (.ref f3)=true)
  (l3:Lk K f3 "exact" "Drop.exact" (inClass (top 73) 5) oc3 od3 kV3 dc3 pm3 an3 cd3 ct3 sl3)
  (c3:SW K cd3 "Drop.exact"=true)
  (k3:SN K (.ref f3)=true)
  (a4:Su K (.ref Cl6) "form"=some (some (.ref f4)))
  (i4:Sx K (.ref f4)=true)
  (l4:Lk K f4 "form" "Leaf.form" (inClass (top 33) 2) oc4 od4 kV4 dc4 pm4 an4 cd4 ct4 sl4)
  (c4:SW K cd4 "Leaf.form"=true)
  (k4:SN K (.ref f4)=true)
  (a5:Su K (.ref Cl11) "view_form"=some (some (.ref f5)))
  (i5:Sx K (.ref f5)=true)
  (l5:Lk K f5 "view_form" "Join.view_form" (inClass (top 78) 1) oc5 od5 kV5 dc5 pm5 an5 cd5 ct5 sl5)
  (c5:SW K cd5 "Join.view_form"=true)
  (k5:SN K (.ref f5)=true)
  (a6:Su K (.ref Cl6) "names"=some (some (.ref f6)))
  (i6:Sx K (.ref f6)=true)
  (l6:Lk K f6 "names" "Leaf.names" (inClass (top 33) 1) oc6 od6 kV6 dc6 pm6 an6 cd6 ct6 sl6)
  (c6:SW K cd6 "Leaf.names"=true)
  (k6:SN K (.ref f6)=true)
  (a7:Su K (.ref Cl9) "names"=some (some (.ref f7)))
  (i7:Sx K (.ref f7)=true)
  (l7:Lk K f7 "names" "Over.names" (inClass (top 34) 1) oc7 od7 kV7 dc7 pm7 an7 cd7 ct7 sl7)
  (c7:SW K cd7 "Over.names"=true)
  (k7:SN K (.ref f7)=true)
  (a8:Su K (.ref Cl10) "names"=some (some (.ref f8)))
  (i8:Sx K (.ref f8)=true)
  (l8:Lk K f8 "names" "Both.names" (inClass (top 35) 1) oc8 od8 kV8 dc8 pm8 an8 cd8 ct8 sl8)
  (c8:SW K cd8 "Both.names"=true)
  (k8:SN K (.ref f8)=true)
  (a9:Su K (.ref Cl8) "view_form"=some (some (.ref f9)))
  (i9:Sx K (.ref f9)=true)
  (l9:Lk K f9 "view_form" "Step.view_form" (inClass (top 49) 1) oc9 od9 kV9 dc9 pm9 an9 cd9 ct9 sl9)
  (c9:SW K cd9 "Step.view_form"=true)
  (k9:SN K (.ref f9)=true)
  (a10:Su K (.ref Cl7) "view_form"=some (some (.ref f10)))
  (i10:Sx K (.ref f10)=true)
  (l10:Lk K f10 "view_form" "Nest.view_form" (inClass (top 52) 2) oc10 od10 kV10 dc10 pm10 an10 cd10 ct10 sl10)
  (c10:SW K cd10 "Nest.view_form"=true)
  (k10:SN K (.ref f10)=true)
  (a11:Su K (.ref Cl1) "view_form"=some (some (.ref f11)))
  (i11:Sx K (.ref f11)=true)
  (l11:Lk K f11 "view_form" "Unnest.view_form" (inClass (top 53) 2) oc11 od11 kV11 dc11 pm11 an11 cd11 ct11 sl11)
  (c11:SW K cd11 "Unnest.view_form"=true)
  (k11:SN K (.ref f11)=true)
  (a12:Su K (.ref Cl4) "check_ends"=some (some (.ref f12)))
  (i12:Sx K (.ref f12)=true)
  (l12:Lk K f12 "check_ends" "Part.check_ends" (inClass (top 57) 4) oc12 od12 kV12 dc12 pm12 an12 cd12 ct12 sl12)
  (c12:SW K cd12 "Part.check_ends"=true)
  (k12:SN K (.ref f12)=true)
  (a13:Su K (.ref Cl4) "check_names"=some (some (.ref f13)))
  (i13:Sx K (.ref f13)=true)
  (l13:Lk K f13 "check_names" "Part.check_names" (inClass (top 57) 3) oc13 od13 kV13 dc13 pm13 an13 cd13 ct13 sl13)
  (c13:SW K cd13 "Part.check_names"=true)
  (k13:SN K (.ref f13)=true)
  (a14:Su K (.ref Cl4) "view_form"=some (some (.ref f14)))
  (i14:Sx K (.ref f14)=true)
  (l14:Lk K f14 "view_form" "Part.view_form" (inClass (top 57) 2) oc14 od14 kV14 dc14 pm14 an14 cd14 ct14 sl14)
  (c14:SW K cd14 "Part.view_form"=true)
  (k14:SN K (.ref f14)=true)
  (a15:Su K (.ref Cl5) "check_kinds"=some (some (.ref f15)))
  (i15:Sx K (.ref f15)=true)
  (l15:Lk K f15 "check_kinds" "Fuse.check_kinds" (inClass (top 58) 3) oc15 od15 kV15 dc15 pm15 an15 cd15 ct15 sl15)
  (c15:SW K cd15 "Fuse.check_kinds"=true)
  (k15:SN K (.ref f15)=true)
  (a16:Su K (.ref Cl5) "view_form"=some (some (.ref f16)))
  (i16:Sx K (.ref f16)=true)
  (l16:Lk K f16 "view_form" "Fuse.view_form" (inClass (top 58) 2) oc16 od16 kV16 dc16 pm16 an16 cd16 ct16 sl16)
  (c16:SW K cd16 "Fuse.view_form"=true)
  (k16:SN K (.ref f16)=true)
  (a17:Su K (.ref Cl0) "view_form"=some (some (.ref f17)))
  (i17:Sx K (.ref f17)=true)
  (l17:Lk K f17 "view_form" "Rename.view_form" (inClass (top 60) 2) oc17 od17 kV17 dc17 pm17 an17 cd17 ct17 sl17)
  (c17:SW K cd17 "Rename.view_form"=true)
  (k17:SN K (.ref f17)=true)
  (a18:Su K (.ref Cl2) "view_form"=some (some (.ref f18)))
  (i18:Sx K (.ref f18)=true)
  (l18:Lk K f18 "view_form" "Sieve.view_form" (inClass (top 62) 2) oc18 od18 kV18 dc18 pm18 an18 cd18 ct18 sl18)
  (c18:SW K cd18 "Sieve.view_form"=true)
  (k18:SN K (.ref f18)=true)
  (a19:Su K (.ref Cl3) "view_form"=some (some (.ref f19)))
  (i19:Sx K (.ref f19)=true)
  (l19:Lk K f19 "view_form" "Drop.view_form" (inClass (top 73) 2) oc19 od19 kV19 dc19 pm19 an19 cd19 ct19 sl19)
  (c19:SW K cd19 "Drop.view_form"=true)
  (k19:SN K (.ref f19)=true)
  (a20:Su K (.ref Cl9) "form"=some (some (.ref f20)))
  (i20:Sx K (.ref f20)=true)
  (l20:Lk K f20 "form" "Over.form" (inClass (top 34) 2) oc20 od20 kV20 dc20 pm20 an20 cd20 ct20 sl20)
  (c20:SW K cd20 "Over.form"=true)
  (k20:SN K (.ref f20)=true)
  (a21:Su K (.ref Cl10) "form"=some (some (.ref f21)))
  (i21:Sx K (.ref f21)=true)
  (l21:Lk K f21 "form" "Both.form" (inClass (top 35) 2) oc21 od21 kV21 dc21 pm21 an21 cd21 ct21 sl21)
  (c21:SW K cd21 "Both.form"=true)
  (k21:SN K (.ref f21)=true)
  (a22:Su K (.ref Cl8) "words"=some (some (.ref f22)))
  (i22:Sx K (.ref f22)=true)
  (l22:Lk K f22 "words" "Step.words" (inClass (top 49) 0) oc22 od22 kV22 dc22 pm22 an22 cd22 ct22 sl22)
  (c22:SW K cd22 "Step.words"=true)
  (k22:SN K (.ref f22)=true)
  (a23:Su K (.ref Cl7) "words"=some (some (.ref f23)))
  (i23:Sx K (.ref f23)=true)
  (l23:Lk K f23 "words" "Nest.words" (inClass (top 52) 1) oc23 od23 kV23 dc23 pm23 an23 cd23 ct23 sl23)
  (c23:SW K cd23 "Nest.words"=true)
  (k23:SN K (.ref f23)=true)
  (a24:Su K (.ref Cl1) "words"=some (some (.ref f24)))
  (i24:Sx K (.ref f24)=true)
  (l24:Lk K f24 "words" "Unnest.words" (inClass (top 53) 1) oc24 od24 kV24 dc24 pm24 an24 cd24 ct24 sl24)
  (c24:SW K cd24 "Unnest.words"=true)
  (k24:SN K (.ref f24)=true)
  (a25:Su K (.ref Cl4) "words"=some (some (.ref f25)))
  (i25:Sx K (.ref f25)=true)
  (l25:Lk K f25 "words" "Part.words" (inClass (top 57) 1) oc25 od25 kV25 dc25 pm25 an25 cd25 ct25 sl25)
  (c25:SW K cd25 "Part.words"=true)
  (k25:SN K (.ref f25)=true)
  (a26:Su K (.ref Cl5) "words"=some (some (.ref f26)))
  (i26:Sx K (.ref f26)=true)
  (l26:Lk K f26 "words" "Fuse.words" (inClass (top 58) 1) oc26 od26 kV26 dc26 pm26 an26 cd26 ct26 sl26)
  (c26:SW K cd26 "Fuse.words"=true)
  (k26:SN K (.ref f26)=true)
  (a27:Su K (.ref Cl0) "words"=some (some (.ref f27)))
  (i27:Sx K (.ref f27)=true)
  (l27:Lk K f27 "words" "Rename.words" (inClass (top 60) 1) oc27 od27 kV27 dc27 pm27 an27 cd27 ct27 sl27)
  (c27:SW K cd27 "Rename.words"=true)
  (k27:SN K (.ref f27)=true)
  (a28:Su K (.ref Cl2) "words"=some (some (.ref f28)))
  (i28:Sx K (.ref f28)=true)
  (l28:Lk K f28 "words" "Sieve.words" (inClass (top 62) 1) oc28 od28 kV28 dc28 pm28 an28 cd28 ct28 sl28)
  (c28:SW K cd28 "Sieve.words"=true)
  (k28:SN K (.ref f28)=true)
  (a29:Su K (.ref Cl3) "words"=some (some (.ref f29)))
  (i29:Sx K (.ref f29)=true)
  (l29:Lk K f29 "words" "Drop.words" (inClass (top 73) 1) oc29 od29 kV29 dc29 pm29 an29 cd29 ct29 sl29)
  (c29:SW K cd29 "Drop.words"=true)
  (k29:SN K (.ref f29)=true)
  (a30:Su K (.ref Cl11) "words"=some (some (.ref f30)))
  (i30:Sx K (.ref f30)=true)
  (l30:Lk K f30 "words" "Join.words" (inClass (top 78) 0) oc30 od30 kV30 dc30 pm30 an30 cd30 ct30 sl30)
  (c30:SW K cd30 "Join.words"=true)
  (k30:SN K (.ref f30)=true)
  (a31:S0 K Uh "law"=some (some (.ref f31)))
  (l31:Lk K f31 "law" "law" (top 92) oc31 od31 kV31 dc31 pm31 an31 cd31 ct31 sl31)
  (c31:SW K cd31 "law"=true)
  (k31:SN K (.ref f31)=true)
  (a32:Su K (.ref Cl0) "__init__"=some (some (.ref f32)))
  (i32:Sx K (.ref f32)=true)
  (l32:Lk K f32 "__init__" "Rename.__init__" (inClass (top 60) 0) oc32 od32 kV32 dc32 pm32 an32 cd32 ct32 sl32)
  (c32:SW K cd32 "Rename.__init__"=true)
  (k32:SN K (.ref f32)=true)
  (a33:Su K (.ref Cl2) "__init__"=some (some (.ref f33)))
  (i33:Sx K (.ref f33)=true)
  (l33:Lk K f33 "__init__" "Sieve.__init__" (inClass (top 62) 0) oc33 od33 kV33 dc33 pm33 an33 cd33 ct33 sl33)
  (c33:SW K cd33 "Sieve.__init__"=true)
  (k33:SN K (.ref f33)=true)
  (a34:Su K (.ref Cl9) "__init__"=some (some (.ref f34)))
  (i34:Sx K (.ref f34)=true)
  (l34:Lk K f34 "__init__" "Over.__init__" (inClass (top 34) 0) oc34 od34 kV34 dc34 pm34 an34 cd34 ct34 sl34)
  (c34:SW K cd34 "Over.__init__"=true)
  (k34:SN K (.ref f34)=true)
  (a35:Su K (.ref Cl10) "__init__"=some (some (.ref f35)))
  (i35:Sx K (.ref f35)=true)
  (l35:Lk K f35 "__init__" "Both.__init__" (inClass (top 35) 0) oc35 od35 kV35 dc35 pm35 an35 cd35 ct35 sl35)
  (c35:SW K cd35 "Both.__init__"=true)
  (k35:SN K (.ref f35)=true)
  (a36:Su K (.ref Cl6) "__init__"=some (some (.ref f36)))
  (i36:Sx K (.ref f36)=true)
  (l36:Lk K f36 "__init__" "Leaf.__init__" (inClass (top 33) 0) oc36 od36 kV36 dc36 pm36 an36 cd36 ct36 sl36)
  (c36:SW K cd36 "Leaf.__init__"=true)
  (k36:SN K (.ref f36)=true)
  (a37:Su K (.ref Cl7) "__init__"=some (some (.ref f37)))
  (i37:Sx K (.ref f37)=true)
  (l37:Lk K f37 "__init__" "Nest.__init__" (inClass (top 52) 0) oc37 od37 kV37 dc37 pm37 an37 cd37 ct37 sl37)
  (c37:SW K cd37 "Nest.__init__"=true)
  (k37:SN K (.ref f37)=true)
  (a38:Su K (.ref Cl1) "__init__"=some (some (.ref f38)))
  (i38:Sx K (.ref f38)=true)
  (l38:Lk K f38 "__init__" "Unnest.__init__" (inClass (top 53) 0) oc38 od38 kV38 dc38 pm38 an38 cd38 ct38 sl38)
  (c38:SW K cd38 "Unnest.__init__"=true)
  (k38:SN K (.ref f38)=true)
  (a39:Su K (.ref Cl4) "__init__"=some (some (.ref f39)))
  (i39:Sx K (.ref f39)=true)
  (l39:Lk K f39 "__init__" "Part.__init__" (inClass (top 57) 0) oc39 od39 kV39 dc39 pm39 an39 cd39 ct39 sl39)
  (c39:SW K cd39 "Part.__init__"=true)
  (k39:SN K (.ref f39)=true)
  (a40:Su K (.ref Cl5) "__init__"=some (some (.ref f40)))
  (i40:Sx K (.ref f40)=true)
  (l40:Lk K f40 "__init__" "Fuse.__init__" (inClass (top 58) 0) oc40 od40 kV40 dc40 pm40 an40 cd40 ct40 sl40)
  (c40:SW K cd40 "Fuse.__init__"=true)
  (k40:SN K (.ref f40)=true)
  (a41:Su K (.ref Cl3) "__init__"=some (some (.ref f41)))
  (i41:Sx K (.ref f41)=true)
  (l41:Lk K f41 "__init__" "Drop.__init__" (inClass (top 73) 0) oc41 od41 kV41 dc41 pm41 an41 cd41 ct41 sl41)
  (c41:SW K cd41 "Drop.__init__"=true)
  (k41:SN K (.ref f41)=true)
  (p0:Sr K Cl0 Str.empty=true)
  (q0:Ss K Cl0=true)
  (r0:Sy K Cl0=true)
  (s0:Su K (.ref Cl0) "__setattr__"=some (some (.builtin "object.__setattr__")))
  (n0_0:Su K (.ref Cl0) "old"=some none)
  (n0_1:Su K (.ref Cl0) "new"=some none)
  (m0:SD K Cl0=true)
  (kp0:SN K (.ref Cl0)=true)
  (p1:Sr K Cl1 Str.empty=true)
  (q1:Ss K Cl1=true)
  (r1:Sy K Cl1=true)
  (s1:Su K (.ref Cl1) "__setattr__"=some (some (.builtin "object.__setattr__")))
  (n1_0:Su K (.ref Cl1) "name"=some none)
  (m1:SD K Cl1=true)
  (kp1:SN K (.ref Cl1)=true)
  (p2:Sr K Cl2 Str.empty=true)
  (q2:Ss K Cl2=true)
  (r2:Sy K Cl2=true)
  (s2:Su K (.ref Cl2) "__setattr__"=some (some (.builtin "object.__setattr__")))
  (n2_0:Su K (.ref Cl2) "name"=some none)
  (n2_1:Su K (.ref Cl2) "kind"=some none)
  (m2:SD K Cl2=true)
  (kp2:SN K (.ref Cl2)=true)
  (p3:Sr K Cl3 Str.empty=true)
  (q3:Ss K Cl3=true)
  (r3:Sy K Cl3=true)
  (s3:Su K (.ref Cl3) "__setattr__"=some (some (.builtin "object.__setattr__")))
  (n3_0:Su K (.ref Cl3) "name"=some none)
  (n3_1:Su K (.ref Cl3) "value"=some none)
  (m3:SD K Cl3=true)
  (kp3:SN K (.ref Cl3)=true)
  (p4:Sr K Cl4 Str.empty=true)
  (q4:Ss K Cl4=true)
  (r4:Sy K Cl4=true)
  (s4:Su K (.ref Cl4) "__setattr__"=some (some (.builtin "object.__setattr__")))
  (n4_0:Su K (.ref Cl4) "name"=some none)
  (n4_1:Su K (.ref Cl4) "by"=some none)
  (n4_2:Su K (.ref Cl4) "quotient"=some none)
  (n4_3:Su K (.ref Cl4) "rest"=some none)
  (m4:SD K Cl4=true)
  (kp4:SN K (.ref Cl4)=true)
  (p5:Sr K Cl5 Str.empty=true)
  (q5:Ss K Cl5=true)
  (r5:Sy K Cl5=true)
  (s5:Su K (.ref Cl5) "__setattr__"=some (some (.builtin "object.__setattr__")))
  (n5_0:Su K (.ref Cl5) "quotient"=some none)
  (n5_1:Su K (.ref Cl5) "rest"=some none)
  (n5_2:Su K (.ref Cl5) "by"=some none)
  (n5_3:Su K (.ref Cl5) "name"=some none)
  (m5:SD K Cl5=true)
  (kp5:SN K (.ref Cl5)=true)
  (p6:Sr K Cl6 Str.empty=true)
  (q6:Ss K Cl6=true)
  (r6:Sy K Cl6=true)
  (s6:Su K (.ref Cl6) "__setattr__"=some (some (.builtin "object.__setattr__")))
  (n6_0:Su K (.ref Cl6) "name"=some none)
  (m6:SD K Cl6=true)
  (kp6:SN K (.ref Cl6)=true)
  (p7:Sr K Cl7 Str.empty=true)
  (q7:Ss K Cl7=true)
  (r7:Sy K Cl7=true)
  (s7:Su K (.ref Cl7) "__setattr__"=some (some (.builtin "object.__setattr__")))
  (n7_0:Su K (.ref Cl7) "many"=some none)
  (n7_1:Su K (.ref Cl7) "name"=some none)
  (m7:SD K Cl7=true)
  (kp7:SN K (.ref Cl7)=true)
  (p8:Sr K Cl8 Str.empty=true)
  (q8:Ss K Cl8=true)
  (r8:Sy K Cl8=true)
  (s8:Su K (.ref Cl8) "__setattr__"=some (some (.builtin "object.__setattr__")))
  (o8:Su K (.ref Cl8) "__init__"=some (some (.builtin "object.__init__")))
  (m8:SD K Cl8=true)
  (kp8:SN K (.ref Cl8)=true)
  (p9:Sr K Cl9 Str.empty=true)
  (q9:Ss K Cl9=true)
  (r9:Sy K Cl9=true)
  (s9:Su K (.ref Cl9) "__setattr__"=some (some (.builtin "object.__setattr__")))
  (n9_0:Su K (.ref Cl9) "glass"=some none)
  (n9_1:Su K (.ref Cl9) "step"=some none)
  (m9:SD K Cl9=true)
  (kp9:SN K (.ref Cl9)=true)
  (p10:Sr K Cl10 Str.empty=true)
  (q10:Ss K Cl10=true)
  (r10:Sy K Cl10=true)
  (s10:Su K (.ref Cl10) "__setattr__"=some (some (.builtin "object.__setattr__")))
  (n10_0:Su K (.ref Cl10) "one"=some none)
  (n10_1:Su K (.ref Cl10) "other"=some none)
  (n10_2:Su K (.ref Cl10) "pair"=some none)
  (m10:SD K Cl10=true)
  (kp10:SN K (.ref Cl10)=true)
  (p11:Sr K Cl11 Str.empty=true)
  (q11:Ss K Cl11=true)
  (r11:Sy K Cl11=true)
  (s11:Su K (.ref Cl11) "__setattr__"=some (some (.builtin "object.__setattr__")))
  (o11:Su K (.ref Cl11) "__init__"=some (some (.builtin "object.__init__")))
  (m11:SD K Cl11=true)
  (kp11:SN K (.ref Cl11)=true)
  (vsg:Tb K (.builtin "object.__class__") "__get__"=some (some (.builtin "getset_descriptor.__get__")))
  (vtk:Tc K (.builtin "object.__class__")=some true)
  (vf0:Su K (.ref Cl0) "__class__"=some (some (.builtin "object.__class__")))
  (vm0:Td K Cl0 (.type "object")=some true)
  (vf1:Su K (.ref Cl1) "__class__"=some (some (.builtin "object.__class__")))
  (vm1:Td K Cl1 (.type "object")=some true)
  (vf2:Su K (.ref Cl2) "__class__"=some (some (.builtin "object.__class__")))
  (vm2:Td K Cl2 (.type "object")=some true)
  (vf3:Su K (.ref Cl3) "__class__"=some (some (.builtin "object.__class__")))
  (vm3:Td K Cl3 (.type "object")=some true)
  (vf4:Su K (.ref Cl4) "__class__"=some (some (.builtin "object.__class__")))
  (vm4:Td K Cl4 (.type "object")=some true)
  (vf5:Su K (.ref Cl5) "__class__"=some (some (.builtin "object.__class__")))
  (vm5:Td K Cl5 (.type "object")=some true)
  (vf6:Su K (.ref Cl6) "__class__"=some (some (.builtin "object.__class__")))
  (vm6:Td K Cl6 (.type "object")=some true)
  (vf7:Su K (.ref Cl7) "__class__"=some (some (.builtin "object.__class__")))
  (vm7:Td K Cl7 (.type "object")=some true)
  (vf8:Su K (.ref Cl8) "__class__"=some (some (.builtin "object.__class__")))
  (vm8:Td K Cl8 (.type "object")=some true)
  (vf9:Su K (.ref Cl9) "__class__"=some (some (.builtin "object.__class__")))
  (vm9:Td K Cl9 (.type "object")=some true)
  (vf10:Su K (.ref Cl10) "__class__"=some (some (.builtin "object.__class__")))
  (vm10:Td K Cl10 (.type "object")=some true)
  (vt0:SE K (.ref Cl0)=some (.type "type"))
  (vi0:S8 K (.ref Cl0) (.type "type")=some true)
  (yy0_0:Te K (.ref Cl0) Cl0=true)
  (vs0_8:S9 K (.ref Cl8) (.ref Cl0)=some false)
  (vn0_8:Cl8≠Cl0)
  (vs0_7:S9 K (.ref Cl7) (.ref Cl0)=some false)
  (vn0_7:Cl7≠Cl0)
  (vs0_1:S9 K (.ref Cl1) (.ref Cl0)=some false)
  (vn0_1:Cl1≠Cl0)
  (vs0_4:S9 K (.ref Cl4) (.ref Cl0)=some false)
  (vn0_4:Cl4≠Cl0)
  (vs0_5:S9 K (.ref Cl5) (.ref Cl0)=some false)
  (vn0_5:Cl5≠Cl0)
  (vs0_2:S9 K (.ref Cl2) (.ref Cl0)=some false)
  (vn0_2:Cl2≠Cl0)
  (vs0_3:S9 K (.ref Cl3) (.ref Cl0)=some false)
  (vn0_3:Cl3≠Cl0)
  (vt2:SE K (.ref Cl2)=some (.type "type"))
  (vi2:S8 K (.ref Cl2) (.type "type")=some true)
  (yy2_2:Te K (.ref Cl2) Cl2=true)
  (vs2_8:S9 K (.ref Cl8) (.ref Cl2)=some false)
  (vn2_8:Cl8≠Cl2)
  (vs2_7:S9 K (.ref Cl7) (.ref Cl2)=some false)
  (vn2_7:Cl7≠Cl2)
  (vs2_1:S9 K (.ref Cl1) (.ref Cl2)=some false)
  (vn2_1:Cl1≠Cl2)
  (vs2_4:S9 K (.ref Cl4) (.ref Cl2)=some false)
  (vn2_4:Cl4≠Cl2)
  (vs2_5:S9 K (.ref Cl5) (.ref Cl2)=some false)
  (vn2_5:Cl5≠Cl2)
  (vs2_0:S9 K (.ref Cl0) (.ref Cl2)=some false)
  (vn2_0:Cl0≠Cl2)
  (vs2_3:S9 K (.ref Cl3) (.ref Cl2)=some false)
  (vn2_3:Cl3≠Cl2)
  (vt4:SE K (.ref Cl4)=some (.type "type"))
  (vi4:S8 K (.ref Cl4) (.type "type")=some true)
  (yy4_4:Te K (.ref Cl4) Cl4=true)
  (vs4_8:S9 K (.ref Cl8) (.ref Cl4)=some false)
  (vn4_8:Cl8≠Cl4)
  (vs4_7:S9 K (.ref Cl7) (.ref Cl4)=some false)
  (vn4_7:Cl7≠Cl4)
  (vs4_1:S9 K (.ref Cl1) (.ref Cl4)=some false)
  (vn4_1:Cl1≠Cl4)
  (vs4_5:S9 K (.ref Cl5) (.ref Cl4)=some false)
  (vn4_5:Cl5≠Cl4)
  (vs4_0:S9 K (.ref Cl0) (.ref Cl4)=some false)
  (vn4_0:Cl0≠Cl4)
  (vs4_2:S9 K (.ref Cl2) (.ref Cl4)=some false)
  (vn4_2:Cl2≠Cl4)
  (vs4_3:S9 K (.ref Cl3) (.ref Cl4)=some false)
  (vn4_3:Cl3≠Cl4)
  (vt5:SE K (.ref Cl5)=some (.type "type"))
  (vi5:S8 K (.ref Cl5) (.type "type")=some true)
  (yy5_5:Te K (.ref Cl5) Cl5=true)
  (vs5_8:S9 K (.ref Cl8) (.ref Cl5)=some false)
  (vn5_8:Cl8≠Cl5)
  (vs5_7:S9 K (.ref Cl7) (.ref Cl5)=some false)
  (vn5_7:Cl7≠Cl5)
  (vs5_1:S9 K (.ref Cl1) (.ref Cl5)=some false)
  (vn5_1:Cl1≠Cl5)
  (vs5_4:S9 K (.ref Cl4) (.ref Cl5)=some false)
  (vn5_4:Cl4≠Cl5)
  (vs5_0:S9 K (.ref Cl0) (.ref Cl5)=some false)
  (vn5_0:Cl0≠Cl5)
  (vs5_2:S9 K (.ref Cl2) (.ref Cl5)=some false)
  (vn5_2:Cl2≠Cl5)
  (vs5_3:S9 K (.ref Cl3) (.ref Cl5)=some false)
  (vn5_3:Cl3≠Cl5)
  (vt7:SE K (.ref Cl7)=some (.type "type"))
  (vi7:S8 K (.ref Cl7) (.type "type")=some true)
  (yy7_7:Te K (.ref Cl7) Cl7=true)
  (vs7_8:S9 K (.ref Cl8) (.ref Cl7)=some false)
  (vn7_8:Cl8≠Cl7)
  (vs7_1:S9 K (.ref Cl1) (.ref Cl7)=some false)
  (vn7_1:Cl1≠Cl7)
  (vs7_4:S9 K (.ref Cl4) (.ref Cl7)=some false)
  (vn7_4:Cl4≠Cl7)
  (vs7_5:S9 K (.ref Cl5) (.ref Cl7)=some false)
  (vn7_5:Cl5≠Cl7)
  (vs7_0:S9 K (.ref Cl0) (.ref Cl7)=some false)
  (vn7_0:Cl0≠Cl7)
  (vs7_2:S9 K (.ref Cl2) (.ref Cl7)=some false)
  (vn7_2:Cl2≠Cl7)
  (vs7_3:S9 K (.ref Cl3) (.ref Cl7)=some false)
  (vn7_3:Cl3≠Cl7)
  (vt1:SE K (.ref Cl1)=some (.type "type"))
  (vi1:S8 K (.ref Cl1) (.type "type")=some true)
  (yy1_1:Te K (.ref Cl1) Cl1=true)
  (vs1_8:S9 K (.ref Cl8) (.ref Cl1)=some false)
  (vn1_8:Cl8≠Cl1)
  (vs1_7:S9 K (.ref Cl7) (.ref Cl1)=some false)
  (vn1_7:Cl7≠Cl1)
  (vs1_4:S9 K (.ref Cl4) (.ref Cl1)=some false)
  (vn1_4:Cl4≠Cl1)
  (vs1_5:S9 K (.ref Cl5) (.ref Cl1)=some false)
  (vn1_5:Cl5≠Cl1)
  (vs1_0:S9 K (.ref Cl0) (.ref Cl1)=some false)
  (vn1_0:Cl0≠Cl1)
  (vs1_2:S9 K (.ref Cl2) (.ref Cl1)=some false)
  (vn1_2:Cl2≠Cl1)
  (vs1_3:S9 K (.ref Cl3) (.ref Cl1)=some false)
  (vn1_3:Cl3≠Cl1)
  (vt9:SE K (.ref Cl9)=some (.type "type"))
  (vi9:S8 K (.ref Cl9) (.type "type")=some true)
  (yy9_9:Te K (.ref Cl9) Cl9=true)
  (vs9_6:S9 K (.ref Cl6) (.ref Cl9)=some false)
  (vn9_6:Cl6≠Cl9)
  (vs9_10:S9 K (.ref Cl10) (.ref Cl9)=some false)
  (vn9_10:Cl10≠Cl9)
  (vt10:SE K (.ref Cl10)=some (.type "type"))
  (vi10:S8 K (.ref Cl10) (.type "type")=some true)
  (yy10_10:Te K (.ref Cl10) Cl10=true)
  (vs10_6:S9 K (.ref Cl6) (.ref Cl10)=some false)
  (vn10_6:Cl6≠Cl10)
  (vs10_9:S9 K (.ref Cl9) (.ref Cl10)=some false)
  (vn10_9:Cl9≠Cl10)
  (xa0:S0 K Uh "NoField"=some (some (.ref Xl0)))
  (xa1:S0 K Uh "NoTable"=some (some (.ref Xl1)))
  (xa2:S0 K Uh "NoForm"=some (some (.ref Xl2)))
  (xa3:S0 K Uh "Nothing"=some (some (.ref Xl3)))
  (xa4:S0 K Uh "NoKind"=some (some (.ref Xl4)))
  (xa5:S0 K Uh "Twice"=some (some (.ref Xl5)))
  (xa6:S0 K Uh "Blind"=some (some (.ref Xl6)))
  (xa7:S0 K Uh "TooMany"=some (some (.ref Xl7)))
  (xa8:S0 K Uh "NoKey"=some (some (.ref Xl8)))
  (xa9:S0 K Uh "NoPane"=some (some (.ref Xl9)))
  (xa10:S0 K Uh "Stale"=some (some (.ref Xl10)))
  (xa11:S0 K Uh "Torn"=some (some (.ref Xl11)))
  (xa12:S0 K Uh "NoText"=some (some (.ref Xl12)))
  (xa13:S0 K Uh "GlassError"=some (some (.ref Xl13)))
  (a42:Su K (.ref Xl11) "__init__"=some (some (.ref f42)))
  (i42:Sx K (.ref f42)=true)
  (l42:Lk K f42 "__init__" "Torn.__init__" (inClass (top 12) 0) oc42 od42 kV42 dc42 pm42 an42 cd42 ct42 sl42)
  (c42:SW K cd42 "Torn.__init__"=true)
  (k42:SN K (.ref f42)=true)
  (xs11:Su K (.ref Xl11) "__setattr__"=some (some (.builtin "object.__setattr__")))
  (xp11:SN K (.ref Xl11)=true)
  (xi11:tI K Xl11 f42=true)
  (xy11:tU K Xl11=true)
  (a43:Su K (.ref Xl6) "__init__"=some (some (.ref f43)))
  (i43:Sx K (.ref f43)=true)
  (l43:Lk K f43 "__init__" "Blind.__init__" (inClass (top 11) 0) oc43 od43 kV43 dc43 pm43 an43 cd43 ct43 sl43)
  (c43:SW K cd43 "Blind.__init__"=true)
  (k43:SN K (.ref f43)=true)
  (xs6:Su K (.ref Xl6) "__setattr__"=some (some (.builtin "object.__setattr__")))
  (xp6:SN K (.ref Xl6)=true)
  (xi6:tI K Xl6 f43=true)
  (xy6:tU K Xl6=true)
  (xd11:Ss K Xl11=true)
  (xna11_0:Su K (.ref Xl11) "view"=some none)
  (xd6:Ss K Xl6=true)
  (xna6_0:Su K (.ref Xl6) "one"=some none)
  (xna6_1:Su K (.ref Xl6) "other"=some none)
  (xna6_2:Su K (.ref Xl6) "change"=some none)
  (xe0:Tf K Xl0 CQ "ValueError.__new__"=true)
  (xe1:Tf K Xl1 CQ "ValueError.__new__"=true)
  (xe4:Tf K Xl4 CQ "ValueError.__new__"=true)
  (xe3:Tf K Xl3 CQ "ValueError.__new__"=true)
  (xe5:Tf K Xl5 CQ "ValueError.__new__"=true)
  (xe7:Tf K Xl7 CQ "ValueError.__new__"=true)
  (xe8:Tf K Xl8 CQ "ValueError.__new__"=true)
  (xsg:Tb K (.builtin "object.__class__") "__get__"=some (some (.builtin "getset_descriptor.__get__")))
  (xtk:Tc K (.builtin "object.__class__")=some true)
  (xg1:Su K (.ref Xl1) "__getattribute__"=some (some (.builtin "BaseException.__getattribute__")))
  (xn1:Su K (.ref Xl1) "__getattr__"=some none)
  (xf1:Su K (.ref Xl1) "__class__"=some (some (.builtin "object.__class__")))
  (xb1:Td K Xl1 (.type "BaseException")=some true)
  (xg0:Su K (.ref Xl0) "__getattribute__"=some (some (.builtin "BaseException.__getattribute__")))
  (xn0:Su K (.ref Xl0) "__getattr__"=some none)
  (xf0:Su K (.ref Xl0) "__class__"=some (some (.builtin "object.__class__")))
  (xb0:Td K Xl0 (.type "BaseException")=some true)
  (xg5:Su K (.ref Xl5) "__getattribute__"=some (some (.builtin "BaseException.__getattribute__")))
  (xn5:Su K (.ref Xl5) "__getattr__"=some none)
  (xf5:Su K (.ref Xl5) "__class__"=some (some (.builtin "object.__class__")))
  (xb5:Td K Xl5 (.type "BaseException")=some true)
  (xg4:Su K (.ref Xl4) "__getattribute__"=some (some (.builtin "BaseException.__getattribute__")))
  (xn4:Su K (.ref Xl4) "__getattr__"=some none)
  (xf4:Su K (.ref Xl4) "__class__"=some (some (.builtin "object.__class__")))
  (xb4:Td K Xl4 (.type "BaseException")=some true)
  (xg3:Su K (.ref Xl3) "__getattribute__"=some (some (.builtin "BaseException.__getattribute__")))
  (xn3:Su K (.ref Xl3) "__getattr__"=some none)
  (xf3:Su K (.ref Xl3) "__class__"=some (some (.builtin "object.__class__")))
  (xb3:Td K Xl3 (.type "BaseException")=some true)
  (xg8:Su K (.ref Xl8) "__getattribute__"=some (some (.builtin "BaseException.__getattribute__")))
  (xn8:Su K (.ref Xl8) "__getattr__"=some none)
  (xf8:Su K (.ref Xl8) "__class__"=some (some (.builtin "object.__class__")))
  (xb8:Td K Xl8 (.type "BaseException")=some true)
  (xg7:Su K (.ref Xl7) "__getattribute__"=some (some (.builtin "BaseException.__getattribute__")))
  (xn7:Su K (.ref Xl7) "__getattr__"=some none)
  (xf7:Su K (.ref Xl7) "__class__"=some (some (.builtin "object.__class__")))
  (xb7:Td K Xl7 (.type "BaseException")=some true)
  (xg6:Su K (.ref Xl6) "__getattribute__"=some (some (.builtin "BaseException.__getattribute__")))
  (xn6:Su K (.ref Xl6) "__getattr__"=some none)
  (xf6:Su K (.ref Xl6) "__class__"=some (some (.builtin "object.__class__")))
  (xb6:Td K Xl6 (.type "BaseException")=some true)
  (xg11:Su K (.ref Xl11) "__getattribute__"=some (some (.builtin "BaseException.__getattribute__")))
  (xn11:Su K (.ref Xl11) "__getattr__"=some none)
  (xf11:Su K (.ref Xl11) "__class__"=some (some (.builtin "object.__class__")))
  (xb11:Td K Xl11 (.type "BaseException")=some true)
  (xo0:Td K Xl0 (.type "object")=some true)
  (xt0:SE K (.ref Xl0)=some (.type "type"))
  (xo1:Td K Xl1 (.type "object")=some true)
  (xt1:SE K (.ref Xl1)=some (.type "type"))
  (xo2:Td K Xl2 (.type "object")=some true)
  (xt2:SE K (.ref Xl2)=some (.type "type"))
  (xo3:Td K Xl3 (.type "object")=some true)
  (xt3:SE K (.ref Xl3)=some (.type "type"))
  (xo4:Td K Xl4 (.type "object")=some true)
  (xt4:SE K (.ref Xl4)=some (.type "type"))
  (xo5:Td K Xl5 (.type "object")=some true)
  (xt5:SE K (.ref Xl5)=some (.type "type"))
  (xo6:Td K Xl6 (.type "object")=some true)
  (xt6:SE K (.ref Xl6)=some (.type "type"))
  (xo7:Td K Xl7 (.type "object")=some true)
  (xt7:SE K (.ref Xl7)=some (.type "type"))
  (xo8:Td K Xl8 (.type "object")=some true)
  (xt8:SE K (.ref Xl8)=some (.type "type"))
  (xo9:Td K Xl9 (.type "object")=some true)
  (xt9:SE K (.ref Xl9)=some (.type "type"))
  (xo10:Td K Xl10 (.type "object")=some true)
  (xt10:SE K (.ref Xl10)=some (.type "type"))
  (xo11:Td K Xl11 (.type "object")=some true)
  (xt11:SE K (.ref Xl11)=some (.type "type"))
  (xo12:Td K Xl12 (.type "object")=some true)
  (xt12:SE K (.ref Xl12)=some (.type "type"))
  (xo13:Td K Xl13 (.type "object")=some true)
  (xt13:SE K (.ref Xl13)=some (.type "type"))
  (xw13:S9 K (.ref Xl13) (.type "BaseException")=some true)
  (xm13_1:S9 K (.ref Xl1) (.ref Xl13)=some true)
  (xm13_0:S9 K (.ref Xl0) (.ref Xl13)=some true)
  (xm13_5:S9 K (.ref Xl5) (.ref Xl13)=some true)
  (xm13_4:S9 K (.ref Xl4) (.ref Xl13)=some true)
  (xm13_3:S9 K (.ref Xl3) (.ref Xl13)=some true)
  (xm13_8:S9 K (.ref Xl8) (.ref Xl13)=some true)
  (xm13_7:S9 K (.ref Xl7) (.ref Xl13)=some true)
  (xm13_6:S9 K (.ref Xl6) (.ref Xl13)=some true)
  (xm13_11:S9 K (.ref Xl11) (.ref Xl13)=some true)
  (xk0_1:S9 K (.ref Xl1) (.ref Xl0)=some false)
  (vnx0_1:Xl1≠Xl0)
  (xk0_0:S9 K (.ref Xl0) (.ref Xl0)=some true)
  (xk0_5:S9 K (.ref Xl5) (.ref Xl0)=some false)
  (vnx0_5:Xl5≠Xl0)
  (xk0_4:S9 K (.ref Xl4) (.ref Xl0)=some false)
  (vnx0_4:Xl4≠Xl0)
  (xk0_3:S9 K (.ref Xl3) (.ref Xl0)=some false)
  (vnx0_3:Xl3≠Xl0)
  (xk0_8:S9 K (.ref Xl8) (.ref Xl0)=some false)
  (vnx0_8:Xl8≠Xl0)
  (xk0_7:S9 K (.ref Xl7) (.ref Xl0)=some false)
  (vnx0_7:Xl7≠Xl0)
  (xk0_6:S9 K (.ref Xl6) (.ref Xl0)=some false)
  (vnx0_6:Xl6≠Xl0)
  (xk0_11:S9 K (.ref Xl11) (.ref Xl0)=some false)
  (vnx0_11:Xl11≠Xl0)
  (xk1_1:S9 K (.ref Xl1) (.ref Xl1)=some true)
  (xk1_0:S9 K (.ref Xl0) (.ref Xl1)=some false)
  (vnx1_0:Xl0≠Xl1)
  (xk1_5:S9 K (.ref Xl5) (.ref Xl1)=some false)
  (vnx1_5:Xl5≠Xl1)
  (xk1_4:S9 K (.ref Xl4) (.ref Xl1)=some false)
  (vnx1_4:Xl4≠Xl1)
  (xk1_3:S9 K (.ref Xl3) (.ref Xl1)=some false)
  (vnx1_3:Xl3≠Xl1)
  (xk1_8:S9 K (.ref Xl8) (.ref Xl1)=some false)
  (vnx1_8:Xl8≠Xl1)
  (xk1_7:S9 K (.ref Xl7) (.ref Xl1)=some false)
  (vnx1_7:Xl7≠Xl1)
  (xk1_6:S9 K (.ref Xl6) (.ref Xl1)=some false)
  (vnx1_6:Xl6≠Xl1)
  (xk1_11:S9 K (.ref Xl11) (.ref Xl1)=some false)
  (vnx1_11:Xl11≠Xl1)
  (xk2_1:S9 K (.ref Xl1) (.ref Xl2)=some false)
  (vnx2_1:Xl1≠Xl2)
  (xk2_0:S9 K (.ref Xl0) (.ref Xl2)=some false)
  (vnx2_0:Xl0≠Xl2)
  (xk2_5:S9 K (.ref Xl5) (.ref Xl2)=some false)
  (vnx2_5:Xl5≠Xl2)
  (xk2_4:S9 K (.ref Xl4) (.ref Xl2)=some false)
  (vnx2_4:Xl4≠Xl2)
  (xk2_3:S9 K (.ref Xl3) (.ref Xl2)=some false)
  (vnx2_3:Xl3≠Xl2)
  (xk2_8:S9 K (.ref Xl8) (.ref Xl2)=some false)
  (vnx2_8:Xl8≠Xl2)
  (xk2_7:S9 K (.ref Xl7) (.ref Xl2)=some false)
  (vnx2_7:Xl7≠Xl2)
  (xk2_6:S9 K (.ref Xl6) (.ref Xl2)=some false)
  (vnx2_6:Xl6≠Xl2)
  (xk2_11:S9 K (.ref Xl11) (.ref Xl2)=some false)
  (vnx2_11:Xl11≠Xl2)
  (xk3_1:S9 K (.ref Xl1) (.ref Xl3)=some false)
  (vnx3_1:Xl1≠Xl3)
  (xk3_0:S9 K (.ref Xl0) (.ref Xl3)=some false)
  (vnx3_0:Xl0≠Xl3)
  (xk3_5:S9 K (.ref Xl5) (.ref Xl3)=some false)
  (vnx3_5:Xl5≠Xl3)
  (xk3_4:S9 K (.ref Xl4) (.ref Xl3)=some false)
  (vnx3_4:Xl4≠Xl3)
  (xk3_3:S9 K (.ref Xl3) (.ref Xl3)=some true)
  (xk3_8:S9 K (.ref Xl8) (.ref Xl3)=some false)
  (vnx3_8:Xl8≠Xl3)
  (xk3_7:S9 K (.ref Xl7) (.ref Xl3)=some false)
  (vnx3_7:Xl7≠Xl3)
  (xk3_6:S9 K (.ref Xl6) (.ref Xl3)=some false)
  (vnx3_6:Xl6≠Xl3)
  (xk3_11:S9 K (.ref Xl11) (.ref Xl3)=some false)
  (vnx3_11:Xl11≠Xl3)
  (xk4_1:S9 K (.ref Xl1) (.ref Xl4)=some false)
  (vnx4_1:Xl1≠Xl4)
  (xk4_0:S9 K (.ref Xl0) (.ref Xl4)=some false)
  (vnx4_0:Xl0≠Xl4)
  (xk4_5:S9 K (.ref Xl5) (.ref Xl4)=some false)
  (vnx4_5:Xl5≠Xl4)
  (xk4_4:S9 K (.ref Xl4) (.ref Xl4)=some true)
  (xk4_3:S9 K (.ref Xl3) (.ref Xl4)=some false)
  (vnx4_3:Xl3≠Xl4)
  (xk4_8:S9 K (.ref Xl8) (.ref Xl4)=some false)
  (vnx4_8:Xl8≠Xl4)
  (xk4_7:S9 K (.ref Xl7) (.ref Xl4)=some false)
  (vnx4_7:Xl7≠Xl4)
  (xk4_6:S9 K (.ref Xl6) (.ref Xl4)=some false)
  (vnx4_6:Xl6≠Xl4)
  (xk4_11:S9 K (.ref Xl11) (.ref Xl4)=some false)
  (vnx4_11:Xl11≠Xl4)
  (xk5_1:S9 K (.ref Xl1) (.ref Xl5)=some false)
  (vnx5_1:Xl1≠Xl5)
  (xk5_0:S9 K (.ref Xl0) (.ref Xl5)=some false)
  (vnx5_0:Xl0≠Xl5)
  (xk5_5:S9 K (.ref Xl5) (.ref Xl5)=some true)
  (xk5_4:S9 K (.ref Xl4) (.ref Xl5)=some false)
  (vnx5_4:Xl4≠Xl5)
  (xk5_3:S9 K (.ref Xl3) (.ref Xl5)=some false)
  (vnx5_3:Xl3≠Xl5)
  (xk5_8:S9 K (.ref Xl8) (.ref Xl5)=some false)
  (vnx5_8:Xl8≠Xl5)
  (xk5_7:S9 K (.ref Xl7) (.ref Xl5)=some false)
  (vnx5_7:Xl7≠Xl5)
  (xk5_6:S9 K (.ref Xl6) (.ref Xl5)=some false)
  (vnx5_6:Xl6≠Xl5)
  (xk5_11:S9 K (.ref Xl11) (.ref Xl5)=some false)
  (vnx5_11:Xl11≠Xl5)
  (xk6_1:S9 K (.ref Xl1) (.ref Xl6)=some false)
  (vnx6_1:Xl1≠Xl6)
  (xk6_0:S9 K (.ref Xl0) (.ref Xl6)=some false)
  (vnx6_0:Xl0≠Xl6)
  (xk6_5:S9 K (.ref Xl5) (.ref Xl6)=some false)
  (vnx6_5:Xl5≠Xl6)
  (xk6_4:S9 K (.ref Xl4) (.ref Xl6)=some false)
  (vnx6_4:Xl4≠Xl6)
  (xk6_3:S9 K (.ref Xl3) (.ref Xl6)=some false)
  (vnx6_3:Xl3≠Xl6)
  (xk6_8:S9 K (.ref Xl8) (.ref Xl6)=some false)
  (vnx6_8:Xl8≠Xl6)
  (xk6_7:S9 K (.ref Xl7) (.ref Xl6)=some false)
  (vnx6_7:Xl7≠Xl6)
  (xk6_6:S9 K (.ref Xl6) (.ref Xl6)=some true)
  (xk6_11:S9 K (.ref Xl11) (.ref Xl6)=some false)
  (vnx6_11:Xl11≠Xl6)
  (xk7_1:S9 K (.ref Xl1) (.ref Xl7)=some false)
  (vnx7_1:Xl1≠Xl7)
  (xk7_0:S9 K (.ref Xl0) (.ref Xl7)=some false)
  (vnx7_0:Xl0≠Xl7)
  (xk7_5:S9 K (.ref Xl5) (.ref Xl7)=some false)
  (vnx7_5:Xl5≠Xl7)
  (xk7_4:S9 K (.ref Xl4) (.ref Xl7)=some false)
  (vnx7_4:Xl4≠Xl7)
  (xk7_3:S9 K (.ref Xl3) (.ref Xl7)=some false)
  (vnx7_3:Xl3≠Xl7)
  (xk7_8:S9 K (.ref Xl8) (.ref Xl7)=some false)
  (vnx7_8:Xl8≠Xl7)
  (xk7_7:S9 K (.ref Xl7) (.ref Xl7)=some true)
  (xk7_6:S9 K (.ref Xl6) (.ref Xl7)=some false)
  (vnx7_6:Xl6≠Xl7)
  (xk7_11:S9 K (.ref Xl11) (.ref Xl7)=some false)
  (vnx7_11:Xl11≠Xl7)
  (xk8_1:S9 K (.ref Xl1) (.ref Xl8)=some false)
  (vnx8_1:Xl1≠Xl8)
  (xk8_0:S9 K (.ref Xl0) (.ref Xl8)=some false)
  (vnx8_0:Xl0≠Xl8)
  (xk8_5:S9 K (.ref Xl5) (.ref Xl8)=some false)
  (vnx8_5:Xl5≠Xl8)
  (xk8_4:S9 K (.ref Xl4) (.ref Xl8)=some false)
  (vnx8_4:Xl4≠Xl8)
  (xk8_3:S9 K (.ref Xl3) (.ref Xl8)=some false)
  (vnx8_3:Xl3≠Xl8)
  (xk8_8:S9 K (.ref Xl8) (.ref Xl8)=some true)
  (xk8_7:S9 K (.ref Xl7) (.ref Xl8)=some false)
  (vnx8_7:Xl7≠Xl8)
  (xk8_6:S9 K (.ref Xl6) (.ref Xl8)=some false)
  (vnx8_6:Xl6≠Xl8)
  (xk8_11:S9 K (.ref Xl11) (.ref Xl8)=some false)
  (vnx8_11:Xl11≠Xl8)
  (xk9_1:S9 K (.ref Xl1) (.ref Xl9)=some false)
  (vnx9_1:Xl1≠Xl9)
  (xk9_0:S9 K (.ref Xl0) (.ref Xl9)=some false)
  (vnx9_0:Xl0≠Xl9)
  (xk9_5:S9 K (.ref Xl5) (.ref Xl9)=some false)
  (vnx9_5:Xl5≠Xl9)
  (xk9_4:S9 K (.ref Xl4) (.ref Xl9)=some false)
  (vnx9_4:Xl4≠Xl9)
  (xk9_3:S9 K (.ref Xl3) (.ref Xl9)=some false)
  (vnx9_3:Xl3≠Xl9)
  (xk9_8:S9 K (.ref Xl8) (.ref Xl9)=some false)
  (vnx9_8:Xl8≠Xl9)
  (xk9_7:S9 K (.ref Xl7) (.ref Xl9)=some false)
  (vnx9_7:Xl7≠Xl9)
  (xk9_6:S9 K (.ref Xl6) (.ref Xl9)=some false)
  (vnx9_6:Xl6≠Xl9)
  (xk9_11:S9 K (.ref Xl11) (.ref Xl9)=some false)
  (vnx9_11:Xl11≠Xl9)
  (xk10_1:S9 K (.ref Xl1) (.ref Xl10)=some false)
  (vnx10_1:Xl1≠Xl10)
  (xk10_0:S9 K (.ref Xl0) (.ref Xl10)=some false)
  (vnx10_0:Xl0≠Xl10)
  (xk10_5:S9 K (.ref Xl5) (.ref Xl10)=some false)
  (vnx10_5:Xl5≠Xl10)
  (xk10_4:S9 K (.ref Xl4) (.ref Xl10)=some false)
  (vnx10_4:Xl4≠Xl10)
  (xk10_3:S9 K (.ref Xl3) (.ref Xl10)=some false)
  (vnx10_3:Xl3≠Xl10)
  (xk10_8:S9 K (.ref Xl8) (.ref Xl10)=some false)
  (vnx10_8:Xl8≠Xl10)
  (xk10_7:S9 K (.ref Xl7) (.ref Xl10)=some false)
  (vnx10_7:Xl7≠Xl10)
  (xk10_6:S9 K (.ref Xl6) (.ref Xl10)=some false)
  (vnx10_6:Xl6≠Xl10)
  (xk10_11:S9 K (.ref Xl11) (.ref Xl10)=some false)
  (vnx10_11:Xl11≠Xl10)
  (xk11_1:S9 K (.ref Xl1) (.ref Xl11)=some false)
  (vnx11_1:Xl1≠Xl11)
  (xk11_0:S9 K (.ref Xl0) (.ref Xl11)=some false)
  (vnx11_0:Xl0≠Xl11)
  (xk11_5:S9 K (.ref Xl5) (.ref Xl11)=some false)
  (vnx11_5:Xl5≠Xl11)
  (xk11_4:S9 K (.ref Xl4) (.ref Xl11)=some false)
  (vnx11_4:Xl4≠Xl11)
  (xk11_3:S9 K (.ref Xl3) (.ref Xl11)=some false)
  (vnx11_3:Xl3≠Xl11)
  (xk11_8:S9 K (.ref Xl8) (.ref Xl11)=some false)
  (vnx11_8:Xl8≠Xl11)
  (xk11_7:S9 K (.ref Xl7) (.ref Xl11)=some false)
  (vnx11_7:Xl7≠Xl11)
  (xk11_6:S9 K (.ref Xl6) (.ref Xl11)=some false)
  (vnx11_6:Xl6≠Xl11)
  (xk11_11:S9 K (.ref Xl11) (.ref Xl11)=some true)
  (xk12_1:S9 K (.ref Xl1) (.ref Xl12)=some false)
  (vnx12_1:Xl1≠Xl12)
  (xk12_0:S9 K (.ref Xl0) (.ref Xl12)=some false)
  (vnx12_0:Xl0≠Xl12)
  (xk12_5:S9 K (.ref Xl5) (.ref Xl12)=some false)
  (vnx12_5:Xl5≠Xl12)
  (xk12_4:S9 K (.ref Xl4) (.ref Xl12)=some false)
  (vnx12_4:Xl4≠Xl12)
  (xk12_3:S9 K (.ref Xl3) (.ref Xl12)=some false)
  (vnx12_3:Xl3≠Xl12)
  (xk12_8:S9 K (.ref Xl8) (.ref Xl12)=some false)
  (vnx12_8:Xl8≠Xl12)
  (xk12_7:S9 K (.ref Xl7) (.ref Xl12)=some false)
  (vnx12_7:Xl7≠Xl12)
  (xk12_6:S9 K (.ref Xl6) (.ref Xl12)=some false)
  (vnx12_6:Xl6≠Xl12)
  (xk12_11:S9 K (.ref Xl11) (.ref Xl12)=some false)
  (vnx12_11:Xl11≠Xl12)
  (xv_ValueError_1:S9 K (.ref Xl1) (.type "ValueError")=some true)
  (xv_ValueError_0:S9 K (.ref Xl0) (.type "ValueError")=some true)
  (xv_ValueError_5:S9 K (.ref Xl5) (.type "ValueError")=some true)
  (xv_ValueError_4:S9 K (.ref Xl4) (.type "ValueError")=some true)
  (xv_ValueError_3:S9 K (.ref Xl3) (.type "ValueError")=some true)
  (xv_ValueError_8:S9 K (.ref Xl8) (.type "ValueError")=some true)
  (xv_ValueError_7:S9 K (.ref Xl7) (.type "ValueError")=some true)
  (xv_ValueError_6:S9 K (.ref Xl6) (.type "ValueError")=some true)
  (xv_ValueError_11:S9 K (.ref Xl11) (.type "ValueError")=some true)
  (dd0:KDs K [("_law_which",top 85),("renamed",top 69),("kind_at",top 43),("names_of",top 28),("place_of",top 29),("both_words",top 22),("both_numbers",top 21),("both",top 20),("kinds_of",top 19),("single",top 23),("is_behind",top 71),("same_parts",top 70),("instead",top 68),("shared_key",top 79),("depth_of",top 30),("is_whole",top 17),("replaced",top 45),("in_key",top 44),("with_fields",top 46),("least",top 24),("least_row",top 41),("named_elsewhere",top 47),("second_value",top 75),("check_key",top 74),("has_parts",top 18),("keys_rise",top 40),("fits",top 37),("keeps",top 38),("is_row",top 39),("written",top 50)])
  (dd1:KDs K [("is_idle",top 67),("laid_over",top 66),("thin",top 65),("thinned",top 64),("_law_refused",top 90),("_law_chain",top 87),("_law_formed",top 91),("_law_pairs",top 89),("_law_steps",top 88),("_law_next",top 82),("_law_cell_at",top 81),("_law_seed",top 83),("_law_name",top 84),("_law_form",top 86)])
  (zz:KZs K ["isinstance","ValueError","tuple","enumerate","max","min","len","all","zip","any","int","bool","range","str"])
  (ke0:S0 K Uh "MOST_FIELDS"=some (some (.int 8 tk0)))
  (ke1:S0 K Uh "MOST_WITHIN"=some (some (.int 3 tk1)))
  (ke2:S0 K Uh "LEAST_BY"=some (some (.int 2 tk2)))
  (ke3:S0 K Uh "MOST_BY"=some (some (.int 1000000000 tk3))):
  ∃fd:UP,(∀(s:Ua)(v:T5),UQ s fd ⟨[v],[]⟩ [("_law_script",v)])/\∀base:Ue,K.In base->base.Ns Uh mg->gS l.prog w K mg base (kX l.prog w) 55 fa fd ["_law_script"] (wa K 1 (ao og 1 15)):=by
 have e:=hfa.symm.trans (Tn X G a31);cases e;have c_MOST_FIELDS:∃t,mg "MOST_FIELDS"=some (.int 8 t):=⟨_,Tn X G ke0⟩
 have c_MOST_WITHIN:∃t,mg "MOST_WITHIN"=some (.int 3 t):=⟨_,Tn X G ke1⟩
 have c_LEAST_BY:∃t,mg "LEAST_BY"=some (.int 2 t):=⟨_,Tn X G ke2⟩
 have c_MOST_BY:∃t,mg "MOST_BY"=some (.int 1000000000 t):=⟨_,Tn X G ke3⟩
 have F0:=aR (st:=(inClass (top 49) 4)) l0 c0 k0;have F1:=aR (st:=(inClass (top 53) 5)) l1 c1 k1;have F2:=aR (st:=(inClass (top 62) 5)) l2 c2 k2;have F3:=aR (st:=(inClass (top 73) 5)) l3 c3 k3;have F4:=aR (st:=(inClass (top 33) 2)) l4 c4 k4;have F5:=aR (st:=(inClass (top 78) 1)) l5 c5 k5;have F6:=aR (st:=(inClass (top 33) 1)) l6 c6 k6;have F7:=aR (st:=(inClass (top 34) 1)) l7 c7 k7;have F8:=aR (st:=(inClass (top 35) 1)) l8 c8 k8;have F9:=aR (st:=(inClass (top 49) 1)) l9 c9 k9;have F10:=aR (st:=(inClass (top 52) 2)) l10 c10 k10;have F11:=aR (st:=(inClass (top 53) 2)) l11 c11 k11;have F12:=aR (st:=(inClass (top 57) 4)) l12 c12 k12;have F13:=aR (st:=(inClass (top 57) 3)) l13 c13 k13;have F14:=aR (st:=(inClass (top 57) 2)) l14 c14 k14;have F15:=aR (st:=(inClass (top 58) 3)) l15 c15 k15;have F16:=aR (st:=(inClass (top 58) 2)) l16 c16 k16;have F17:=aR (st:=(inClass (top 60) 2)) l17 c17 k17;have F18:=aR (st:=(inClass (top 62) 2)) l18 c18 k18;have F19:=aR (st:=(inClass (top 73) 2)) l19 c19 k19;have F20:=aR (st:=(inClass (top 34) 2)) l20 c20 k20;have F21:=aR (st:=(inClass (top 35) 2)) l21 c21 k21;have F22:=aR (st:=(inClass (top 49) 0)) l22 c22 k22;have F23:=aR (st:=(inClass (top 52) 1)) l23 c23 k23;have F24:=aR (st:=(inClass (top 53) 1)) l24 c24 k24;have F25:=aR (st:=(inClass (top 57) 1)) l25 c25 k25;have F26:=aR (st:=(inClass (top 58) 1)) l26 c26 k26;have F27:=aR (st:=(inClass (top 60) 1)) l27 c27 k27;have F28:=aR (st:=(inClass (top 62) 1)) l28 c28 k28;have F29:=aR (st:=(inClass (top 73) 1)) l29 c29 k29;have F30:=aR (st:=(inClass (top 78) 0)) l30 c30 k30;have F31:=aR (st:=(top 92)) l31 c31 k31;have F32:=aR (st:=(inClass (top 60) 0)) l32 c32 k32;have b32:=F32.binds (ps:=["self","old","new"]) λ_ _ _ _ _ _ us hl=>by obtain⟨u0,u1,u2,rfl⟩:=wq hl;rfl
 have F33:=aR (st:=(inClass (top 62) 0)) l33 c33 k33;have b33:=F33.binds (ps:=["self","name","kind"]) λ_ _ _ _ _ _ us hl=>by obtain⟨u0,u1,u2,rfl⟩:=wq hl;rfl
 have F34:=aR (st:=(inClass (top 34) 0)) l34 c34 k34;have b34:=F34.binds (ps:=["self","glass","step"]) λ_ _ _ _ _ _ us hl=>by obtain⟨u0,u1,u2,rfl⟩:=wq hl;rfl
 have F35:=aR (st:=(inClass (top 35) 0)) l35 c35 k35;have b35:=F35.binds (ps:=["self","one","other","pair"]) λ_ _ _ _ _ _ us hl=>by obtain⟨u0,u1,u2,u3,rfl⟩:=Ec hl;rfl
 have F36:=aR (st:=(inClass (top 33) 0)) l36 c36 k36;have b36:=F36.binds (ps:=["self","name"]) λ_ _ _ _ _ _ us hl=>by obtain⟨u0,u1,rfl⟩:=Bc hl;rfl
 have F37:=aR (st:=(inClass (top 52) 0)) l37 c37 k37;have b37:=F37.binds (ps:=["self","many","name"]) λ_ _ _ _ _ _ us hl=>by obtain⟨u0,u1,u2,rfl⟩:=wq hl;rfl
 have F38:=aR (st:=(inClass (top 53) 0)) l38 c38 k38;have b38:=F38.binds (ps:=["self","name"]) λ_ _ _ _ _ _ us hl=>by obtain⟨u0,u1,rfl⟩:=Bc hl;rfl
 have F39:=aR (st:=(inClass (top 57) 0)) l39 c39 k39;have b39:=F39.binds (ps:=["self","name","by","quotient","rest"]) λ_ _ _ _ _ _ us hl=>by obtain⟨u0,u1,u2,u3,u4,rfl⟩:=JX hl;rfl
 have F40:=aR (st:=(inClass (top 58) 0)) l40 c40 k40;have b40:=F40.binds (ps:=["self","quotient","rest","by","name"]) λ_ _ _ _ _ _ us hl=>by obtain⟨u0,u1,u2,u3,u4,rfl⟩:=JX hl;rfl
 have F41:=aR (st:=(inClass (top 73) 0)) l41 c41 k41;have b41:=F41.binds (ps:=["self","name","value"]) λ_ _ _ _ _ _ us hl=>by obtain⟨u0,u1,u2,rfl⟩:=wq hl;rfl
 have F42:=aR (st:=(inClass (top 12) 0)) l42 c42 k42;have b42:=F42.binds (ps:=["self","view"]) λ_ _ _ _ _ _ us hl=>by obtain⟨u0,u1,rfl⟩:=Bc hl;rfl
 have F43:=aR (st:=(inClass (top 11) 0)) l43 c43 k43;have b43:=F43.binds (ps:=["self","one","other","change"]) λ_ _ _ _ _ _ us hl=>by obtain⟨u0,u1,u2,u3,rfl⟩:=Ec hl;rfl
 have cl0:jK K Cl0:=⟨p0,q0,r0,s0⟩
 have cl1:jK K Cl1:=⟨p1,q1,r1,s1⟩
 have cl2:jK K Cl2:=⟨p2,q2,r2,s2⟩
 have cl3:jK K Cl3:=⟨p3,q3,r3,s3⟩
 have cl4:jK K Cl4:=⟨p4,q4,r4,s4⟩
 have cl5:jK K Cl5:=⟨p5,q5,r5,s5⟩
 have cl6:jK K Cl6:=⟨p6,q6,r6,s6⟩
 have cl7:jK K Cl7:=⟨p7,q7,r7,s7⟩
 have cl8:jK K Cl8:=⟨p8,q8,r8,s8⟩
 have cl9:jK K Cl9:=⟨p9,q9,r9,s9⟩
 have cl10:jK K Cl10:=⟨p10,q10,r10,s10⟩
 have cl11:jK K Cl11:=⟨p11,q11,r11,s11⟩
 have o4:bh K "name" ["Unnest"]:=by
  intro c hc C hC;simp only[Rz,RY,or_false]at hc;rcases hc with rfl
  ·cases aj hC ac1;exact⟨cl1,n1_0⟩
 have qK:bh K "name" ["Sieve"]:=by
  intro c hc C hC;simp only[Rz,RY,or_false]at hc;rcases hc with rfl
  ·cases aj hC ac2;exact⟨cl2,n2_0⟩
 have qH:bh K "kind" ["Sieve"]:=by
  intro c hc C hC;simp only[Rz,RY,or_false]at hc;rcases hc with rfl
  ·cases aj hC ac2;exact⟨cl2,n2_1⟩
 have tW:bh K "name" ["Drop"]:=by
  intro c hc C hC;simp only[Rz,RY,or_false]at hc;rcases hc with rfl
  ·cases aj hC ac3;exact⟨cl3,n3_0⟩
 have lN:bh K "rest" ["Part","Fuse"]:=by
  intro c hc C hC;simp only[Rz,RY,or_false]at hc;rcases hc with rfl|rfl
  ·cases aj hC ac4;exact⟨cl4,n4_3⟩
  ·cases aj hC ac5;exact⟨cl5,n5_1⟩
 have jJ:bh K "quotient" ["Part","Fuse"]:=by
  intro c hc C hC;simp only[Rz,RY,or_false]at hc;rcases hc with rfl|rfl
  ·cases aj hC ac4;exact⟨cl4,n4_2⟩
  ·cases aj hC ac5;exact⟨cl5,n5_0⟩
 have oB:bh K "by" ["Part","Fuse"]:=by
  intro c hc C hC;simp only[Rz,RY,or_false]at hc;rcases hc with rfl|rfl
  ·cases aj hC ac4;exact⟨cl4,n4_1⟩
  ·cases aj hC ac5;exact⟨cl5,n5_2⟩
 have qL:bh K "new" ["Rename"]:=by
  intro c hc C hC;simp only[Rz,RY,or_false]at hc;rcases hc with rfl
  ·cases aj hC ac0;exact⟨cl0,n0_1⟩
 have qI:bh K "old" ["Rename"]:=by
  intro c hc C hC;simp only[Rz,RY,or_false]at hc;rcases hc with rfl
  ·cases aj hC ac0;exact⟨cl0,n0_0⟩
 have cN:bh K "name" ["Leaf","Nest","Unnest","Part","Fuse","Sieve","Drop"]:=by
  intro c hc C hC;simp only[Rz,RY,or_false]at hc;rcases hc with rfl|rfl|rfl|rfl|rfl|rfl|rfl
  ·cases aj hC ac6;exact⟨cl6,n6_0⟩
  ·cases aj hC ac7;exact⟨cl7,n7_1⟩
  ·cases aj hC ac1;exact⟨cl1,n1_0⟩
  ·cases aj hC ac4;exact⟨cl4,n4_0⟩
  ·cases aj hC ac5;exact⟨cl5,n5_3⟩
  ·cases aj hC ac2;exact⟨cl2,n2_0⟩
  ·cases aj hC ac3;exact⟨cl3,n3_0⟩
 have tL:bh K "many" ["Nest"]:=by
  intro c hc C hC;simp only[Rz,RY,or_false]at hc;rcases hc with rfl
  ·cases aj hC ac7;exact⟨cl7,n7_0⟩
 have tS:bh K "name" ["Leaf"]:=by
  intro c hc C hC;simp only[Rz,RY,or_false]at hc;rcases hc with rfl
  ·cases aj hC ac6;exact⟨cl6,n6_0⟩
 have qw:bh K "glass" ["Over"]:=by
  intro c hc C hC;simp only[Rz,RY,or_false]at hc;rcases hc with rfl
  ·cases aj hC ac9;exact⟨cl9,n9_0⟩
 have vz:bh K "one" ["Both"]:=by
  intro c hc C hC;simp only[Rz,RY,or_false]at hc;rcases hc with rfl
  ·cases aj hC ac10;exact⟨cl10,n10_0⟩
 have qM:bh K "other" ["Both"]:=by
  intro c hc C hC;simp only[Rz,RY,or_false]at hc;rcases hc with rfl
  ·cases aj hC ac10;exact⟨cl10,n10_1⟩
 have tX:bh K "name" ["Nest"]:=by
  intro c hc C hC;simp only[Rz,RY,or_false]at hc;rcases hc with rfl
  ·cases aj hC ac7;exact⟨cl7,n7_1⟩
 have wy:bh K "by" ["Part"]:=by
  intro c hc C hC;simp only[Rz,RY,or_false]at hc;rcases hc with rfl
  ·cases aj hC ac4;exact⟨cl4,n4_1⟩
 have nu:bh K "quotient" ["Part"]:=by
  intro c hc C hC;simp only[Rz,RY,or_false]at hc;rcases hc with rfl
  ·cases aj hC ac4;exact⟨cl4,n4_2⟩
 have tK:bh K "rest" ["Part"]:=by
  intro c hc C hC;simp only[Rz,RY,or_false]at hc;rcases hc with rfl
  ·cases aj hC ac4;exact⟨cl4,n4_3⟩
 have t6:bh K "name" ["Part"]:=by
  intro c hc C hC;simp only[Rz,RY,or_false]at hc;rcases hc with rfl
  ·cases aj hC ac4;exact⟨cl4,n4_0⟩
 have vH:bh K "by" ["Fuse"]:=by
  intro c hc C hC;simp only[Rz,RY,or_false]at hc;rcases hc with rfl
  ·cases aj hC ac5;exact⟨cl5,n5_2⟩
 have nK:bh K "quotient" ["Fuse"]:=by
  intro c hc C hC;simp only[Rz,RY,or_false]at hc;rcases hc with rfl
  ·cases aj hC ac5;exact⟨cl5,n5_0⟩
 have sR:bh K "rest" ["Fuse"]:=by
  intro c hc C hC;simp only[Rz,RY,or_false]at hc;rcases hc with rfl
  ·cases aj hC ac5;exact⟨cl5,n5_1⟩
 have tR:bh K "name" ["Fuse"]:=by
  intro c hc C hC;simp only[Rz,RY,or_false]at hc;rcases hc with rfl
  ·cases aj hC ac5;exact⟨cl5,n5_3⟩
 have qy:bh K "value" ["Drop"]:=by
  intro c hc C hC;simp only[Rz,RY,or_false]at hc;rcases hc with rfl
  ·cases aj hC ac3;exact⟨cl3,n3_1⟩
 have ud:bh K "step" ["Over"]:=by
  intro c hc C hC;simp only[Rz,RY,or_false]at hc;rcases hc with rfl
  ·cases aj hC ac9;exact⟨cl9,n9_1⟩
 have tY:bh K "pair" ["Both"]:=by
  intro c hc C hC;simp only[Rz,RY,or_false]at hc;rcases hc with rfl
  ·cases aj hC ac10;exact⟨cl10,n10_2⟩
 refine⟨SV "law" "law" (jv (top 92)) (cY (top 92)) (au (top 92)) .none kV31 dc31 pm31 an31 cd31 ct31,λs v=>.of_eq rfl,λbase _ _=>?_⟩;have Y_Rename:fW K mg "Rename" ["Rename"] ["Step","Nest","Unnest","Part","Fuse","Sieve","Drop"]:=by
  refine⟨_,Tn X G ac0,λc hc D hD=>?_,λc hc D hD=>?_⟩<;>simp only[Rz,RY,or_false]at hc
  ·rcases hc with rfl;cases aj hD ac0;exact yy0_0
  ·rcases hc with rfl|rfl|rfl|rfl|rfl|rfl|rfl
   ·cases aj hD ac8;exact⟨cl8,⟨vn0_8,(by obtain⟨cd,hc,_⟩:=SA cl0.hd;rw[hc];rfl),vt0,vi0,vs0_8,vf8,vsg,vtk,vm8⟩⟩
   ·cases aj hD ac7;exact⟨cl7,⟨vn0_7,(by obtain⟨cd,hc,_⟩:=SA cl0.hd;rw[hc];rfl),vt0,vi0,vs0_7,vf7,vsg,vtk,vm7⟩⟩
   ·cases aj hD ac1;exact⟨cl1,⟨vn0_1,(by obtain⟨cd,hc,_⟩:=SA cl0.hd;rw[hc];rfl),vt0,vi0,vs0_1,vf1,vsg,vtk,vm1⟩⟩
   ·cases aj hD ac4;exact⟨cl4,⟨vn0_4,(by obtain⟨cd,hc,_⟩:=SA cl0.hd;rw[hc];rfl),vt0,vi0,vs0_4,vf4,vsg,vtk,vm4⟩⟩
   ·cases aj hD ac5;exact⟨cl5,⟨vn0_5,(by obtain⟨cd,hc,_⟩:=SA cl0.hd;rw[hc];rfl),vt0,vi0,vs0_5,vf5,vsg,vtk,vm5⟩⟩
   ·cases aj hD ac2;exact⟨cl2,⟨vn0_2,(by obtain⟨cd,hc,_⟩:=SA cl0.hd;rw[hc];rfl),vt0,vi0,vs0_2,vf2,vsg,vtk,vm2⟩⟩
   ·cases aj hD ac3;exact⟨cl3,⟨vn0_3,(by obtain⟨cd,hc,_⟩:=SA cl0.hd;rw[hc];rfl),vt0,vi0,vs0_3,vf3,vsg,vtk,vm3⟩⟩
 have Y_Sieve:fW K mg "Sieve" ["Sieve"] ["Step","Nest","Unnest","Part","Fuse","Rename","Drop"]:=by
  refine⟨_,Tn X G ac2,λc hc D hD=>?_,λc hc D hD=>?_⟩<;>simp only[Rz,RY,or_false]at hc
  ·rcases hc with rfl;cases aj hD ac2;exact yy2_2
  ·rcases hc with rfl|rfl|rfl|rfl|rfl|rfl|rfl
   ·cases aj hD ac8;exact⟨cl8,⟨vn2_8,(by obtain⟨cd,hc,_⟩:=SA cl2.hd;rw[hc];rfl),vt2,vi2,vs2_8,vf8,vsg,vtk,vm8⟩⟩
   ·cases aj hD ac7;exact⟨cl7,⟨vn2_7,(by obtain⟨cd,hc,_⟩:=SA cl2.hd;rw[hc];rfl),vt2,vi2,vs2_7,vf7,vsg,vtk,vm7⟩⟩
   ·cases aj hD ac1;exact⟨cl1,⟨vn2_1,(by obtain⟨cd,hc,_⟩:=SA cl2.hd;rw[hc];rfl),vt2,vi2,vs2_1,vf1,vsg,vtk,vm1⟩⟩
   ·cases aj hD ac4;exact⟨cl4,⟨vn2_4,(by obtain⟨cd,hc,_⟩:=SA cl2.hd;rw[hc];rfl),vt2,vi2,vs2_4,vf4,vsg,vtk,vm4⟩⟩
   ·cases aj hD ac5;exact⟨cl5,⟨vn2_5,(by obtain⟨cd,hc,_⟩:=SA cl2.hd;rw[hc];rfl),vt2,vi2,vs2_5,vf5,vsg,vtk,vm5⟩⟩
   ·cases aj hD ac0;exact⟨cl0,⟨vn2_0,(by obtain⟨cd,hc,_⟩:=SA cl2.hd;rw[hc];rfl),vt2,vi2,vs2_0,vf0,vsg,vtk,vm0⟩⟩
   ·cases aj hD ac3;exact⟨cl3,⟨vn2_3,(by obtain⟨cd,hc,_⟩:=SA cl2.hd;rw[hc];rfl),vt2,vi2,vs2_3,vf3,vsg,vtk,vm3⟩⟩
 have Y_Part:fW K mg "Part" ["Part"] ["Step","Nest","Unnest","Fuse","Rename","Sieve","Drop"]:=by
  refine⟨_,Tn X G ac4,λc hc D hD=>?_,λc hc D hD=>?_⟩<;>simp only[Rz,RY,or_false]at hc
  ·rcases hc with rfl;cases aj hD ac4;exact yy4_4
  ·rcases hc with rfl|rfl|rfl|rfl|rfl|rfl|rfl
   ·cases aj hD ac8;exact⟨cl8,⟨vn4_8,(by obtain⟨cd,hc,_⟩:=SA cl4.hd;rw[hc];rfl),vt4,vi4,vs4_8,vf8,vsg,vtk,vm8⟩⟩
   ·cases aj hD ac7;exact⟨cl7,⟨vn4_7,(by obtain⟨cd,hc,_⟩:=SA cl4.hd;rw[hc];rfl),vt4,vi4,vs4_7,vf7,vsg,vtk,vm7⟩⟩
   ·cases aj hD ac1;exact⟨cl1,⟨vn4_1,(by obtain⟨cd,hc,_⟩:=SA cl4.hd;rw[hc];rfl),vt4,vi4,vs4_1,vf1,vsg,vtk,vm1⟩⟩
   ·cases aj hD ac5;exact⟨cl5,⟨vn4_5,(by obtain⟨cd,hc,_⟩:=SA cl4.hd;rw[hc];rfl),vt4,vi4,vs4_5,vf5,vsg,vtk,vm5⟩⟩
   ·cases aj hD ac0;exact⟨cl0,⟨vn4_0,(by obtain⟨cd,hc,_⟩:=SA cl4.hd;rw[hc];rfl),vt4,vi4,vs4_0,vf0,vsg,vtk,vm0⟩⟩
   ·cases aj hD ac2;exact⟨cl2,⟨vn4_2,(by obtain⟨cd,hc,_⟩:=SA cl4.hd;rw[hc];rfl),vt4,vi4,vs4_2,vf2,vsg,vtk,vm2⟩⟩
   ·cases aj hD ac3;exact⟨cl3,⟨vn4_3,(by obtain⟨cd,hc,_⟩:=SA cl4.hd;rw[hc];rfl),vt4,vi4,vs4_3,vf3,vsg,vtk,vm3⟩⟩
 have Y_Fuse:fW K mg "Fuse" ["Fuse"] ["Step","Nest","Unnest","Part","Rename","Sieve","Drop"]:=by
  refine⟨_,Tn X G ac5,λc hc D hD=>?_,λc hc D hD=>?_⟩<;>simp only[Rz,RY,or_false]at hc
  ·rcases hc with rfl;cases aj hD ac5;exact yy5_5
  ·rcases hc with rfl|rfl|rfl|rfl|rfl|rfl|rfl
   ·cases aj hD ac8;exact⟨cl8,⟨vn5_8,(by obtain⟨cd,hc,_⟩:=SA cl5.hd;rw[hc];rfl),vt5,vi5,vs5_8,vf8,vsg,vtk,vm8⟩⟩
   ·cases aj hD ac7;exact⟨cl7,⟨vn5_7,(by obtain⟨cd,hc,_⟩:=SA cl5.hd;rw[hc];rfl),vt5,vi5,vs5_7,vf7,vsg,vtk,vm7⟩⟩
   ·cases aj hD ac1;exact⟨cl1,⟨vn5_1,(by obtain⟨cd,hc,_⟩:=SA cl5.hd;rw[hc];rfl),vt5,vi5,vs5_1,vf1,vsg,vtk,vm1⟩⟩
   ·cases aj hD ac4;exact⟨cl4,⟨vn5_4,(by obtain⟨cd,hc,_⟩:=SA cl5.hd;rw[hc];rfl),vt5,vi5,vs5_4,vf4,vsg,vtk,vm4⟩⟩
   ·cases aj hD ac0;exact⟨cl0,⟨vn5_0,(by obtain⟨cd,hc,_⟩:=SA cl5.hd;rw[hc];rfl),vt5,vi5,vs5_0,vf0,vsg,vtk,vm0⟩⟩
   ·cases aj hD ac2;exact⟨cl2,⟨vn5_2,(by obtain⟨cd,hc,_⟩:=SA cl5.hd;rw[hc];rfl),vt5,vi5,vs5_2,vf2,vsg,vtk,vm2⟩⟩
   ·cases aj hD ac3;exact⟨cl3,⟨vn5_3,(by obtain⟨cd,hc,_⟩:=SA cl5.hd;rw[hc];rfl),vt5,vi5,vs5_3,vf3,vsg,vtk,vm3⟩⟩
 have Y_Nest:fW K mg "Nest" ["Nest"] ["Step","Unnest","Part","Fuse","Rename","Sieve","Drop"]:=by
  refine⟨_,Tn X G ac7,λc hc D hD=>?_,λc hc D hD=>?_⟩<;>simp only[Rz,RY,or_false]at hc
  ·rcases hc with rfl;cases aj hD ac7;exact yy7_7
  ·rcases hc with rfl|rfl|rfl|rfl|rfl|rfl|rfl
   ·cases aj hD ac8;exact⟨cl8,⟨vn7_8,(by obtain⟨cd,hc,_⟩:=SA cl7.hd;rw[hc];rfl),vt7,vi7,vs7_8,vf8,vsg,vtk,vm8⟩⟩
   ·cases aj hD ac1;exact⟨cl1,⟨vn7_1,(by obtain⟨cd,hc,_⟩:=SA cl7.hd;rw[hc];rfl),vt7,vi7,vs7_1,vf1,vsg,vtk,vm1⟩⟩
   ·cases aj hD ac4;exact⟨cl4,⟨vn7_4,(by obtain⟨cd,hc,_⟩:=SA cl7.hd;rw[hc];rfl),vt7,vi7,vs7_4,vf4,vsg,vtk,vm4⟩⟩
   ·cases aj hD ac5;exact⟨cl5,⟨vn7_5,(by obtain⟨cd,hc,_⟩:=SA cl7.hd;rw[hc];rfl),vt7,vi7,vs7_5,vf5,vsg,vtk,vm5⟩⟩
   ·cases aj hD ac0;exact⟨cl0,⟨vn7_0,(by obtain⟨cd,hc,_⟩:=SA cl7.hd;rw[hc];rfl),vt7,vi7,vs7_0,vf0,vsg,vtk,vm0⟩⟩
   ·cases aj hD ac2;exact⟨cl2,⟨vn7_2,(by obtain⟨cd,hc,_⟩:=SA cl7.hd;rw[hc];rfl),vt7,vi7,vs7_2,vf2,vsg,vtk,vm2⟩⟩
   ·cases aj hD ac3;exact⟨cl3,⟨vn7_3,(by obtain⟨cd,hc,_⟩:=SA cl7.hd;rw[hc];rfl),vt7,vi7,vs7_3,vf3,vsg,vtk,vm3⟩⟩
 have Y_Unnest:fW K mg "Unnest" ["Unnest"] ["Step","Nest","Part","Fuse","Rename","Sieve","Drop"]:=by
  refine⟨_,Tn X G ac1,λc hc D hD=>?_,λc hc D hD=>?_⟩<;>simp only[Rz,RY,or_false]at hc
  ·rcases hc with rfl;cases aj hD ac1;exact yy1_1
  ·rcases hc with rfl|rfl|rfl|rfl|rfl|rfl|rfl
   ·cases aj hD ac8;exact⟨cl8,⟨vn1_8,(by obtain⟨cd,hc,_⟩:=SA cl1.hd;rw[hc];rfl),vt1,vi1,vs1_8,vf8,vsg,vtk,vm8⟩⟩
   ·cases aj hD ac7;exact⟨cl7,⟨vn1_7,(by obtain⟨cd,hc,_⟩:=SA cl1.hd;rw[hc];rfl),vt1,vi1,vs1_7,vf7,vsg,vtk,vm7⟩⟩
   ·cases aj hD ac4;exact⟨cl4,⟨vn1_4,(by obtain⟨cd,hc,_⟩:=SA cl1.hd;rw[hc];rfl),vt1,vi1,vs1_4,vf4,vsg,vtk,vm4⟩⟩
   ·cases aj hD ac5;exact⟨cl5,⟨vn1_5,(by obtain⟨cd,hc,_⟩:=SA cl1.hd;rw[hc];rfl),vt1,vi1,vs1_5,vf5,vsg,vtk,vm5⟩⟩
   ·cases aj hD ac0;exact⟨cl0,⟨vn1_0,(by obtain⟨cd,hc,_⟩:=SA cl1.hd;rw[hc];rfl),vt1,vi1,vs1_0,vf0,vsg,vtk,vm0⟩⟩
   ·cases aj hD ac2;exact⟨cl2,⟨vn1_2,(by obtain⟨cd,hc,_⟩:=SA cl1.hd;rw[hc];rfl),vt1,vi1,vs1_2,vf2,vsg,vtk,vm2⟩⟩
   ·cases aj hD ac3;exact⟨cl3,⟨vn1_3,(by obtain⟨cd,hc,_⟩:=SA cl1.hd;rw[hc];rfl),vt1,vi1,vs1_3,vf3,vsg,vtk,vm3⟩⟩
 have Y_Over:fW K mg "Over" ["Over"] ["Leaf","Both"]:=by
  refine⟨_,Tn X G ac9,λc hc D hD=>?_,λc hc D hD=>?_⟩<;>simp only[Rz,RY,or_false]at hc
  ·rcases hc with rfl;cases aj hD ac9;exact yy9_9
  ·rcases hc with rfl|rfl
   ·cases aj hD ac6;exact⟨cl6,⟨vn9_6,(by obtain⟨cd,hc,_⟩:=SA cl9.hd;rw[hc];rfl),vt9,vi9,vs9_6,vf6,vsg,vtk,vm6⟩⟩
   ·cases aj hD ac10;exact⟨cl10,⟨vn9_10,(by obtain⟨cd,hc,_⟩:=SA cl9.hd;rw[hc];rfl),vt9,vi9,vs9_10,vf10,vsg,vtk,vm10⟩⟩
 have Y_Both:fW K mg "Both" ["Both"] ["Leaf","Over"]:=by
  refine⟨_,Tn X G ac10,λc hc D hD=>?_,λc hc D hD=>?_⟩<;>simp only[Rz,RY,or_false]at hc
  ·rcases hc with rfl;cases aj hD ac10;exact yy10_10
  ·rcases hc with rfl|rfl
   ·cases aj hD ac6;exact⟨cl6,⟨vn10_6,(by obtain⟨cd,hc,_⟩:=SA cl10.hd;rw[hc];rfl),vt10,vi10,vs10_6,vf6,vsg,vtk,vm6⟩⟩
   ·cases aj hD ac9;exact⟨cl9,⟨vn10_9,(by obtain⟨cd,hc,_⟩:=SA cl10.hd;rw[hc];rfl),vt10,vi10,vs10_9,vf9,vsg,vtk,vm9⟩⟩
 have E_NoField:ExcAt K mg "NoField":=⟨_,xa0,Tn X G xa0,xe0⟩
 have E_NoTable:ExcAt K mg "NoTable":=⟨_,xa1,Tn X G xa1,xe1⟩
 have E_NoKind:ExcAt K mg "NoKind":=⟨_,xa4,Tn X G xa4,xe4⟩
 have E_Nothing:ExcAt K mg "Nothing":=⟨_,xa3,Tn X G xa3,xe3⟩
 have E_Twice:ExcAt K mg "Twice":=⟨_,xa5,Tn X G xa5,xe5⟩
 have E_TooMany:ExcAt K mg "TooMany":=⟨_,xa7,Tn X G xa7,xe7⟩
 have E_NoKey:ExcAt K mg "NoKey":=⟨_,xa8,Tn X G xa8,xe8⟩
 have xK1:mB K Xl1:=⟨xg1,xn1,xf1,xsg,xtk,xo1,xb1⟩
 have xK0:mB K Xl0:=⟨xg0,xn0,xf0,xsg,xtk,xo0,xb0⟩
 have xK5:mB K Xl5:=⟨xg5,xn5,xf5,xsg,xtk,xo5,xb5⟩
 have xK4:mB K Xl4:=⟨xg4,xn4,xf4,xsg,xtk,xo4,xb4⟩
 have xK3:mB K Xl3:=⟨xg3,xn3,xf3,xsg,xtk,xo3,xb3⟩
 have xK8:mB K Xl8:=⟨xg8,xn8,xf8,xsg,xtk,xo8,xb8⟩
 have xK7:mB K Xl7:=⟨xg7,xn7,xf7,xsg,xtk,xo7,xb7⟩
 have xK6:mB K Xl6:=⟨xg6,xn6,xf6,xsg,xtk,xo6,xb6⟩
 have xK11:mB K Xl11:=⟨xg11,xn11,xf11,xsg,xtk,xo11,xb11⟩
 have RI_Torn:=wc (P:=l.prog) (w:=w) (base:=base) xa11 (By xi11 (beq_iff_eq.mp i42) ⟨xs11,xy11,xd11⟩ xp11) (by intro g hg;simp only[Rz,RY,or_false]at hg;rcases hg with rfl<;>first|exact xna11_0) F42 b42 (Tn X G xa11);have RI_Blind:=vA (P:=l.prog) (w:=w) (base:=base) xa6 (By xi6 (beq_iff_eq.mp i43) ⟨xs6,xy6,xd6⟩ xp6) (by intro g hg;simp only[Rz,RY,or_false]at hg;rcases hg with rfl|rfl|rfl<;>first|exact xna6_0|exact xna6_1|exact xna6_2) F43 b43 (Tn X G xa6);have T_GlassError:vi K mg "GlassError" ["NoTable","NoField","Twice","NoKind","Nothing","NoKey","TooMany","Blind","Torn"]:=AK (Tn X G xa13) (by
  intro c hc;simp only[Rz,RY,or_false]at hc;rcases hc with rfl|rfl|rfl|rfl|rfl|rfl|rfl|rfl|rfl
  ·exact⟨_,xa1,gr xw13 xm13_1 xo13 xt13⟩
  ·exact⟨_,xa0,gr xw13 xm13_0 xo13 xt13⟩
  ·exact⟨_,xa5,gr xw13 xm13_5 xo13 xt13⟩
  ·exact⟨_,xa4,gr xw13 xm13_4 xo13 xt13⟩
  ·exact⟨_,xa3,gr xw13 xm13_3 xo13 xt13⟩
  ·exact⟨_,xa8,gr xw13 xm13_8 xo13 xt13⟩
  ·exact⟨_,xa7,gr xw13 xm13_7 xo13 xt13⟩
  ·exact⟨_,xa6,gr xw13 xm13_6 xo13 xt13⟩
  ·exact⟨_,xa11,gr xw13 xm13_11 xo13 xt13⟩)
 have yj:cR K mg "NoField" [("NoTable",false),("NoField",true),("Twice",false),("NoKind",false),("Nothing",false),("NoKey",false),("TooMany",false),("Blind",false),("Torn",false)]:=⟨_,Tn X G xa0,ai xa1 xK1 (ak xk0_1 xo0 xt0 (.inr vnx0_1)) (ai xa0 xK0 (ak xk0_0 xo0 xt0 (.inl rfl)) (ai xa5 xK5 (ak xk0_5 xo0 xt0 (.inr vnx0_5)) (ai xa4 xK4 (ak xk0_4 xo0 xt0 (.inr vnx0_4)) (ai xa3 xK3 (ak xk0_3 xo0 xt0 (.inr vnx0_3)) (ai xa8 xK8 (ak xk0_8 xo0 xt0 (.inr vnx0_8)) (ai xa7 xK7 (ak xk0_7 xo0 xt0 (.inr vnx0_7)) (ai xa6 xK6 (ak xk0_6 xo0 xt0 (.inr vnx0_6)) (ai xa11 xK11 (ak xk0_11 xo0 xt0 (.inr vnx0_11)) cF))))))))⟩
 have yY:cR K mg "NoTable" [("NoTable",true),("NoField",false),("Twice",false),("NoKind",false),("Nothing",false),("NoKey",false),("TooMany",false),("Blind",false),("Torn",false)]:=⟨_,Tn X G xa1,ai xa1 xK1 (ak xk1_1 xo1 xt1 (.inl rfl)) (ai xa0 xK0 (ak xk1_0 xo1 xt1 (.inr vnx1_0)) (ai xa5 xK5 (ak xk1_5 xo1 xt1 (.inr vnx1_5)) (ai xa4 xK4 (ak xk1_4 xo1 xt1 (.inr vnx1_4)) (ai xa3 xK3 (ak xk1_3 xo1 xt1 (.inr vnx1_3)) (ai xa8 xK8 (ak xk1_8 xo1 xt1 (.inr vnx1_8)) (ai xa7 xK7 (ak xk1_7 xo1 xt1 (.inr vnx1_7)) (ai xa6 xK6 (ak xk1_6 xo1 xt1 (.inr vnx1_6)) (ai xa11 xK11 (ak xk1_11 xo1 xt1 (.inr vnx1_11)) cF))))))))⟩
 have Af:cR K mg "NoForm" [("NoTable",false),("NoField",false),("Twice",false),("NoKind",false),("Nothing",false),("NoKey",false),("TooMany",false),("Blind",false),("Torn",false)]:=⟨_,Tn X G xa2,ai xa1 xK1 (ak xk2_1 xo2 xt2 (.inr vnx2_1)) (ai xa0 xK0 (ak xk2_0 xo2 xt2 (.inr vnx2_0)) (ai xa5 xK5 (ak xk2_5 xo2 xt2 (.inr vnx2_5)) (ai xa4 xK4 (ak xk2_4 xo2 xt2 (.inr vnx2_4)) (ai xa3 xK3 (ak xk2_3 xo2 xt2 (.inr vnx2_3)) (ai xa8 xK8 (ak xk2_8 xo2 xt2 (.inr vnx2_8)) (ai xa7 xK7 (ak xk2_7 xo2 xt2 (.inr vnx2_7)) (ai xa6 xK6 (ak xk2_6 xo2 xt2 (.inr vnx2_6)) (ai xa11 xK11 (ak xk2_11 xo2 xt2 (.inr vnx2_11)) cF))))))))⟩
 have yv:cR K mg "Nothing" [("NoTable",false),("NoField",false),("Twice",false),("NoKind",false),("Nothing",true),("NoKey",false),("TooMany",false),("Blind",false),("Torn",false)]:=⟨_,Tn X G xa3,ai xa1 xK1 (ak xk3_1 xo3 xt3 (.inr vnx3_1)) (ai xa0 xK0 (ak xk3_0 xo3 xt3 (.inr vnx3_0)) (ai xa5 xK5 (ak xk3_5 xo3 xt3 (.inr vnx3_5)) (ai xa4 xK4 (ak xk3_4 xo3 xt3 (.inr vnx3_4)) (ai xa3 xK3 (ak xk3_3 xo3 xt3 (.inl rfl)) (ai xa8 xK8 (ak xk3_8 xo3 xt3 (.inr vnx3_8)) (ai xa7 xK7 (ak xk3_7 xo3 xt3 (.inr vnx3_7)) (ai xa6 xK6 (ak xk3_6 xo3 xt3 (.inr vnx3_6)) (ai xa11 xK11 (ak xk3_11 xo3 xt3 (.inr vnx3_11)) cF))))))))⟩
 have Aj:cR K mg "NoKind" [("NoTable",false),("NoField",false),("Twice",false),("NoKind",true),("Nothing",false),("NoKey",false),("TooMany",false),("Blind",false),("Torn",false)]:=⟨_,Tn X G xa4,ai xa1 xK1 (ak xk4_1 xo4 xt4 (.inr vnx4_1)) (ai xa0 xK0 (ak xk4_0 xo4 xt4 (.inr vnx4_0)) (ai xa5 xK5 (ak xk4_5 xo4 xt4 (.inr vnx4_5)) (ai xa4 xK4 (ak xk4_4 xo4 xt4 (.inl rfl)) (ai xa3 xK3 (ak xk4_3 xo4 xt4 (.inr vnx4_3)) (ai xa8 xK8 (ak xk4_8 xo4 xt4 (.inr vnx4_8)) (ai xa7 xK7 (ak xk4_7 xo4 xt4 (.inr vnx4_7)) (ai xa6 xK6 (ak xk4_6 xo4 xt4 (.inr vnx4_6)) (ai xa11 xK11 (ak xk4_11 xo4 xt4 (.inr vnx4_11)) cF))))))))⟩
 have EG:cR K mg "Twice" [("NoTable",false),("NoField",false),("Twice",true),("NoKind",false),("Nothing",false),("NoKey",false),("TooMany",false),("Blind",false),("Torn",false)]:=⟨_,Tn X G xa5,ai xa1 xK1 (ak xk5_1 xo5 xt5 (.inr vnx5_1)) (ai xa0 xK0 (ak xk5_0 xo5 xt5 (.inr vnx5_0)) (ai xa5 xK5 (ak xk5_5 xo5 xt5 (.inl rfl)) (ai xa4 xK4 (ak xk5_4 xo5 xt5 (.inr vnx5_4)) (ai xa3 xK3 (ak xk5_3 xo5 xt5 (.inr vnx5_3)) (ai xa8 xK8 (ak xk5_8 xo5 xt5 (.inr vnx5_8)) (ai xa7 xK7 (ak xk5_7 xo5 xt5 (.inr vnx5_7)) (ai xa6 xK6 (ak xk5_6 xo5 xt5 (.inr vnx5_6)) (ai xa11 xK11 (ak xk5_11 xo5 xt5 (.inr vnx5_11)) cF))))))))⟩
 have EX:cR K mg "Blind" [("NoTable",false),("NoField",false),("Twice",false),("NoKind",false),("Nothing",false),("NoKey",false),("TooMany",false),("Blind",true),("Torn",false)]:=⟨_,Tn X G xa6,ai xa1 xK1 (ak xk6_1 xo6 xt6 (.inr vnx6_1)) (ai xa0 xK0 (ak xk6_0 xo6 xt6 (.inr vnx6_0)) (ai xa5 xK5 (ak xk6_5 xo6 xt6 (.inr vnx6_5)) (ai xa4 xK4 (ak xk6_4 xo6 xt6 (.inr vnx6_4)) (ai xa3 xK3 (ak xk6_3 xo6 xt6 (.inr vnx6_3)) (ai xa8 xK8 (ak xk6_8 xo6 xt6 (.inr vnx6_8)) (ai xa7 xK7 (ak xk6_7 xo6 xt6 (.inr vnx6_7)) (ai xa6 xK6 (ak xk6_6 xo6 xt6 (.inl rfl)) (ai xa11 xK11 (ak xk6_11 xo6 xt6 (.inr vnx6_11)) cF))))))))⟩
 have zo:cR K mg "TooMany" [("NoTable",false),("NoField",false),("Twice",false),("NoKind",false),("Nothing",false),("NoKey",false),("TooMany",true),("Blind",false),("Torn",false)]:=⟨_,Tn X G xa7,ai xa1 xK1 (ak xk7_1 xo7 xt7 (.inr vnx7_1)) (ai xa0 xK0 (ak xk7_0 xo7 xt7 (.inr vnx7_0)) (ai xa5 xK5 (ak xk7_5 xo7 xt7 (.inr vnx7_5)) (ai xa4 xK4 (ak xk7_4 xo7 xt7 (.inr vnx7_4)) (ai xa3 xK3 (ak xk7_3 xo7 xt7 (.inr vnx7_3)) (ai xa8 xK8 (ak xk7_8 xo7 xt7 (.inr vnx7_8)) (ai xa7 xK7 (ak xk7_7 xo7 xt7 (.inl rfl)) (ai xa6 xK6 (ak xk7_6 xo7 xt7 (.inr vnx7_6)) (ai xa11 xK11 (ak xk7_11 xo7 xt7 (.inr vnx7_11)) cF))))))))⟩
 have DJ:cR K mg "NoKey" [("NoTable",false),("NoField",false),("Twice",false),("NoKind",false),("Nothing",false),("NoKey",true),("TooMany",false),("Blind",false),("Torn",false)]:=⟨_,Tn X G xa8,ai xa1 xK1 (ak xk8_1 xo8 xt8 (.inr vnx8_1)) (ai xa0 xK0 (ak xk8_0 xo8 xt8 (.inr vnx8_0)) (ai xa5 xK5 (ak xk8_5 xo8 xt8 (.inr vnx8_5)) (ai xa4 xK4 (ak xk8_4 xo8 xt8 (.inr vnx8_4)) (ai xa3 xK3 (ak xk8_3 xo8 xt8 (.inr vnx8_3)) (ai xa8 xK8 (ak xk8_8 xo8 xt8 (.inl rfl)) (ai xa7 xK7 (ak xk8_7 xo8 xt8 (.inr vnx8_7)) (ai xa6 xK6 (ak xk8_6 xo8 xt8 (.inr vnx8_6)) (ai xa11 xK11 (ak xk8_11 xo8 xt8 (.inr vnx8_11)) cF))))))))⟩
 have Cr:cR K mg "NoPane" [("NoTable",false),("NoField",false),("Twice",false),("NoKind",false),("Nothing",false),("NoKey",false),("TooMany",false),("Blind",false),("Torn",false)]:=⟨_,Tn X G xa9,ai xa1 xK1 (ak xk9_1 xo9 xt9 (.inr vnx9_1)) (ai xa0 xK0 (ak xk9_0 xo9 xt9 (.inr vnx9_0)) (ai xa5 xK5 (ak xk9_5 xo9 xt9 (.inr vnx9_5)) (ai xa4 xK4 (ak xk9_4 xo9 xt9 (.inr vnx9_4)) (ai xa3 xK3 (ak xk9_3 xo9 xt9 (.inr vnx9_3)) (ai xa8 xK8 (ak xk9_8 xo9 xt9 (.inr vnx9_8)) (ai xa7 xK7 (ak xk9_7 xo9 xt9 (.inr vnx9_7)) (ai xa6 xK6 (ak xk9_6 xo9 xt9 (.inr vnx9_6)) (ai xa11 xK11 (ak xk9_11 xo9 xt9 (.inr vnx9_11)) cF))))))))⟩
 have C5:cR K mg "Stale" [("NoTable",false),("NoField",false),("Twice",false),("NoKind",false),("Nothing",false),("NoKey",false),("TooMany",false),("Blind",false),("Torn",false)]:=⟨_,Tn X G xa10,ai xa1 xK1 (ak xk10_1 xo10 xt10 (.inr vnx10_1)) (ai xa0 xK0 (ak xk10_0 xo10 xt10 (.inr vnx10_0)) (ai xa5 xK5 (ak xk10_5 xo10 xt10 (.inr vnx10_5)) (ai xa4 xK4 (ak xk10_4 xo10 xt10 (.inr vnx10_4)) (ai xa3 xK3 (ak xk10_3 xo10 xt10 (.inr vnx10_3)) (ai xa8 xK8 (ak xk10_8 xo10 xt10 (.inr vnx10_8)) (ai xa7 xK7 (ak xk10_7 xo10 xt10 (.inr vnx10_7)) (ai xa6 xK6 (ak xk10_6 xo10 xt10 (.inr vnx10_6)) (ai xa11 xK11 (ak xk10_11 xo10 xt10 (.inr vnx10_11)) cF))))))))⟩
 have HJ:cR K mg "Torn" [("NoTable",false),("NoField",false),("Twice",false),("NoKind",false),("Nothing",false),("NoKey",false),("TooMany",false),("Blind",false),("Torn",true)]:=⟨_,Tn X G xa11,ai xa1 xK1 (ak xk11_1 xo11 xt11 (.inr vnx11_1)) (ai xa0 xK0 (ak xk11_0 xo11 xt11 (.inr vnx11_0)) (ai xa5 xK5 (ak xk11_5 xo11 xt11 (.inr vnx11_5)) (ai xa4 xK4 (ak xk11_4 xo11 xt11 (.inr vnx11_4)) (ai xa3 xK3 (ak xk11_3 xo11 xt11 (.inr vnx11_3)) (ai xa8 xK8 (ak xk11_8 xo11 xt11 (.inr vnx11_8)) (ai xa7 xK7 (ak xk11_7 xo11 xt11 (.inr vnx11_7)) (ai xa6 xK6 (ak xk11_6 xo11 xt11 (.inr vnx11_6)) (ai xa11 xK11 (ak xk11_11 xo11 xt11 (.inl rfl)) cF))))))))⟩
 have CF:cR K mg "NoText" [("NoTable",false),("NoField",false),("Twice",false),("NoKind",false),("Nothing",false),("NoKey",false),("TooMany",false),("Blind",false),("Torn",false)]:=⟨_,Tn X G xa12,ai xa1 xK1 (ak xk12_1 xo12 xt12 (.inr vnx12_1)) (ai xa0 xK0 (ak xk12_0 xo12 xt12 (.inr vnx12_0)) (ai xa5 xK5 (ak xk12_5 xo12 xt12 (.inr vnx12_5)) (ai xa4 xK4 (ak xk12_4 xo12 xt12 (.inr vnx12_4)) (ai xa3 xK3 (ak xk12_3 xo12 xt12 (.inr vnx12_3)) (ai xa8 xK8 (ak xk12_8 xo12 xt12 (.inr vnx12_8)) (ai xa7 xK7 (ak xk12_7 xo12 xt12 (.inr vnx12_7)) (ai xa6 xK6 (ak xk12_6 xo12 xt12 (.inr vnx12_6)) (ai xa11 xK11 (ak xk12_11 xo12 xt12 (.inr vnx12_11)) cF))))))))⟩
 have V_ValueError:uJ K (.type "ValueError") [("NoTable",true),("NoField",true),("Twice",true),("NoKind",true),("Nothing",true),("NoKey",true),("TooMany",true),("Blind",true),("Torn",true)]:=ai xa1 xK1 (ji xv_ValueError_1) (ai xa0 xK0 (ji xv_ValueError_0) (ai xa5 xK5 (ji xv_ValueError_5) (ai xa4 xK4 (ji xv_ValueError_4) (ai xa3 xK3 (ji xv_ValueError_3) (ai xa8 xK8 (ji xv_ValueError_8) (ai xa7 xK7 (ji xv_ValueError_7) (ai xa6 xK6 (ji xv_ValueError_6) (ai xa11 xK11 (ji xv_ValueError_11) cF))))))));have N_Join:ur K mg "Join":=⟨_,ac11,⟨m11,o11,kp11⟩,Tn X G ac11⟩
 have N_Step:ur K mg "Step":=⟨_,ac8,⟨m8,o8,kp8⟩,Tn X G ac8⟩
 have Ck:=uP (P:=l.prog) (w:=w) (base:=base) ac0 ⟨m0,a32,i32,kp0⟩ cl0 (by intro g hg;simp only[Rz,RY,or_false]at hg;rcases hg with rfl|rfl<;>first|exact n0_0|exact n0_1) F32 b32 (Tn X G ac0);have Dk:=we (P:=l.prog) (w:=w) (base:=base) ac2 ⟨m2,a33,i33,kp2⟩ cl2 (by intro g hg;simp only[Rz,RY,or_false]at hg;rcases hg with rfl|rfl<;>first|exact n2_0|exact n2_1) F33 b33 (Tn X G ac2);have HZ:=yN (P:=l.prog) (w:=w) (base:=base) ac9 ⟨m9,a34,i34,kp9⟩ cl9 (by intro g hg;simp only[Rz,RY,or_false]at hg;rcases hg with rfl|rfl<;>first|exact n9_0|exact n9_1) F34 b34 (Tn X G ac9);have HI:=ym (P:=l.prog) (w:=w) (base:=base) ac10 ⟨m10,a35,i35,kp10⟩ cl10 (by intro g hg;simp only[Rz,RY,or_false]at hg;rcases hg with rfl|rfl|rfl<;>first|exact n10_0|exact n10_1|exact n10_2) F35 b35 (Tn X G ac10);have Ij:=yu (P:=l.prog) (w:=w) (base:=base) ac6 ⟨m6,a36,i36,kp6⟩ cl6 (by intro g hg;simp only[Rz,RY,or_false]at hg;rcases hg with rfl;exact n6_0) F36 b36 (Tn X G ac6);have GA:=zQ (P:=l.prog) (w:=w) (base:=base) ac7 ⟨m7,a37,i37,kp7⟩ cl7 (by intro g hg;simp only[Rz,RY,or_false]at hg;rcases hg with rfl|rfl<;>first|exact n7_0|exact n7_1) F37 b37 (Tn X G ac7);have AX:=uI (P:=l.prog) (w:=w) (base:=base) ac1 ⟨m1,a38,i38,kp1⟩ cl1 (by intro g hg;simp only[Rz,RY,or_false]at hg;rcases hg with rfl;exact n1_0) F38 b38 (Tn X G ac1);have IH:=yg (P:=l.prog) (w:=w) (base:=base) ac4 ⟨m4,a39,i39,kp4⟩ cl4 (by intro g hg;simp only[Rz,RY,or_false]at hg;rcases hg with rfl|rfl|rfl|rfl<;>first|exact n4_0|exact n4_1|exact n4_2|exact n4_3) F39 b39 (Tn X G ac4);have Il:=Ab (P:=l.prog) (w:=w) (base:=base) ac5 ⟨m5,a40,i40,kp5⟩ cl5 (by intro g hg;simp only[Rz,RY,or_false]at hg;rcases hg with rfl|rfl|rfl|rfl<;>first|exact n5_0|exact n5_1|exact n5_2|exact n5_3) F40 b40 (Tn X G ac5);have Ib:=yS (P:=l.prog) (w:=w) (base:=base) ac3 ⟨m3,a41,i41,kp3⟩ cl3 (by intro g hg;simp only[Rz,RY,or_false]at hg;rcases hg with rfl|rfl<;>first|exact n3_0|exact n3_1) F41 b41 (Tn X G ac3)
 let u:U:=⟨l.prog,w,K,mg,base,(0:Nat),(0:Nat)⟩
 have q0:Q0 u:=⟨⟨⟨⟨⟨⟨⟨⟨⟨⟨⟨⟨⟨⟨⟨⟨⟨⟨⟨⟨⟨⟨⟨⟨⟨⟨⟨⟨⟨⟨⟨⟨⟨⟨⟨⟨⟨⟨⟨⟨⟨⟨⟨⟨⟨⟨⟨⟨⟨⟨⟨⟨⟨⟨⟨⟨⟨⟨⟨⟨⟨⟨⟨⟨⟨⟨⟨⟨⟨⟨⟨⟨⟨⟨⟨⟨⟨⟨⟨⟨⟨⟨⟨⟨⟨⟨⟨⟨⟨⟨⟨⟨⟨⟨⟨⟨⟨⟨⟨⟨⟨⟨⟨⟨⟨⟨⟨⟨⟨⟨(KO.of X G (KO.of X G (Zs.of X G zz) dd0) dd1),c_MOST_FIELDS⟩,c_MOST_WITHIN⟩,c_LEAST_BY⟩,c_MOST_BY⟩,o4⟩,qK⟩,qH⟩,tW⟩,lN⟩,jJ⟩,oB⟩,qL⟩,qI⟩,cN⟩,tL⟩,tS⟩,qw⟩,vz⟩,qM⟩,tX⟩,wy⟩,nu⟩,tK⟩,t6⟩,vH⟩,nK⟩,sR⟩,tR⟩,qy⟩,ud⟩,tY⟩,Ck⟩,Dk⟩,HZ⟩,HI⟩,Ij⟩,GA⟩,AX⟩,IH⟩,Il⟩,Ib⟩,N_Join⟩,N_Step⟩,Y_Rename⟩,Y_Sieve⟩,Y_Part⟩,Y_Fuse⟩,Y_Nest⟩,Y_Unnest⟩,Y_Over⟩,Y_Both⟩,RI_Torn⟩,RI_Blind⟩,E_NoField⟩,E_NoTable⟩,E_NoKind⟩,E_Nothing⟩,E_Twice⟩,E_TooMany⟩,E_NoKey⟩,T_GlassError⟩,yj⟩,yY⟩,Af⟩,yv⟩,Aj⟩,EG⟩,EX⟩,zo⟩,DJ⟩,Cr⟩,C5⟩,HJ⟩,CF⟩,V_ValueError⟩,⟨_,_,_,ac0,cl0,⟨a0,i0,k0⟩,F0⟩⟩,⟨_,_,_,ac4,cl4,⟨a0_4,i0,k0⟩,F0⟩⟩,⟨_,_,_,ac5,cl5,⟨a0_5,i0,k0⟩,F0⟩⟩,⟨_,_,_,ac7,cl7,⟨a0_7,i0,k0⟩,F0⟩⟩,⟨_,_,_,ac8,cl8,⟨a0_8,i0,k0⟩,F0⟩⟩,⟨_,_,_,ac1,cl1,⟨a1,i1,k1⟩,F1⟩⟩,⟨_,_,_,ac2,cl2,⟨a2,i2,k2⟩,F2⟩⟩,⟨_,_,_,ac3,cl3,⟨a3,i3,k3⟩,F3⟩⟩,⟨_,_,_,ac6,cl6,⟨a4,i4,k4⟩,F4⟩⟩,⟨_,_,_,ac11,cl11,⟨a5,i5,k5⟩,F5⟩⟩,⟨_,_,_,ac6,cl6,⟨a6,i6,k6⟩,F6⟩⟩,⟨_,_,_,ac9,cl9,⟨a7,i7,k7⟩,F7⟩⟩,⟨_,_,_,ac10,cl10,⟨a8,i8,k8⟩,F8⟩⟩,⟨_,_,_,ac8,cl8,⟨a9,i9,k9⟩,F9⟩⟩,⟨_,_,_,ac7,cl7,⟨a10,i10,k10⟩,F10⟩⟩,⟨_,_,_,ac1,cl1,⟨a11,i11,k11⟩,F11⟩⟩,⟨_,_,_,ac4,cl4,⟨a12,i12,k12⟩,F12⟩⟩,⟨_,_,_,ac4,cl4,⟨a13,i13,k13⟩,F13⟩⟩,⟨_,_,_,ac4,cl4,⟨a14,i14,k14⟩,F14⟩⟩,⟨_,_,_,ac5,cl5,⟨a15,i15,k15⟩,F15⟩⟩,⟨_,_,_,ac5,cl5,⟨a16,i16,k16⟩,F16⟩⟩,⟨_,_,_,ac0,cl0,⟨a17,i17,k17⟩,F17⟩⟩,⟨_,_,_,ac2,cl2,⟨a18,i18,k18⟩,F18⟩⟩,⟨_,_,_,ac3,cl3,⟨a19,i19,k19⟩,F19⟩⟩,⟨_,_,_,ac9,cl9,⟨a20,i20,k20⟩,F20⟩⟩,⟨_,_,_,ac10,cl10,⟨a21,i21,k21⟩,F21⟩⟩,⟨_,_,_,ac8,cl8,⟨a22,i22,k22⟩,F22⟩⟩,⟨_,_,_,ac7,cl7,⟨a23,i23,k23⟩,F23⟩⟩,⟨_,_,_,ac1,cl1,⟨a24,i24,k24⟩,F24⟩⟩,⟨_,_,_,ac4,cl4,⟨a25,i25,k25⟩,F25⟩⟩,⟨_,_,_,ac5,cl5,⟨a26,i26,k26⟩,F26⟩⟩,⟨_,_,_,ac0,cl0,⟨a27,i27,k27⟩,F27⟩⟩,⟨_,_,_,ac2,cl2,⟨a28,i28,k28⟩,F28⟩⟩,⟨_,_,_,ac3,cl3,⟨a29,i29,k29⟩,F29⟩⟩,⟨_,_,_,ac11,cl11,⟨a30,i30,k30⟩,F30⟩⟩
 exact Jj (u:=u) F31 (Qa (P0 (OW (Oj (PB (OU (OL (P5 (OA (PV (OG (Pq (Px (Pn (PY (P4 (Oi (OZ (Oe (Qd (Oc (Pu (Ou (OX (OH (Ol (Oo (Pp (PH (OY (Pa (O5 (PD (OV (Py (P6 (Od (Ox (O0 (PL (OD (O8 (OQ (PN (Pz (Oh (OM (Pb (P9 (PJ (N8 (Oy (Qc (OB (Oz (P8 (O6 (P7 (O9 (M7 (e20 (Pl (OT (Pk (PF (O7 (Om (Pt (PZ (G0 (e10 (e9 (e8 (e7 (e6 (e5 (e4 (e3 (e2 (e1 q0))))))))))))))))))))))))))))))))))))))))))))))))))))))))))))))))))))))))))))))))
theorem walk{l:SZ}{q:Uc}{loose:ax}{XP:(bU)->Ue->Prop}{YP:Ub->Ue->Prop}{d:DefRec}{K:Params->Sn}(hn:l.most=some 63)(hdf:d.params.defaults=[])
  (hY:∀(w:Ub)(h:Ue),YP w h->(K w.params).In h)
  (F:∀ (w:Ub) (mg:bU) (fa:T7) (h:Ue),(K w.params).In h->h.Ns Uh mg->mg d.name=some (.ref fa) ->
   ∃fd:UP,(∀(s:Ua)(u:T5),UQ s fd ⟨[u],[]⟩ [("_law_script",u)])/\∀base:Ue,(K w.params).In base->base.Ns Uh mg->gS l.prog w (K w.params) mg base (kX l.prog w) 55 fa fd ["_law_script"] (wa (K w.params) 1 (ao og 1 15)))
  (math:∀ns:List Int,ns.length<=63->ao og 1 15 [.lst (ns.map .int)]=.ok (.bl true)):PySem.W.WalkO q loose XP YP l.row.toRowW d [] (λf vs=>PySem.call f vs):=
 L2.Kj (n:=63) (k:=55) (x:="_law_script") (CX:=λw=>kX l.prog w) (sp:=λw=>wa (K w.params) 1 (ao og 1 15)) hn (by decide) hdf ⟨rfl,by decide,by decide⟩ hY F
  (λw H a ns hl _ hS=>⟨[],[.lst (ns.map .int)],rfl,⟨trivial,λa h=>nomatch h⟩,by rw[D7];exact aX.mpr ⟨.ref a,[],rfl,b7.mpr ⟨a,_,rfl,hS,rV ns⟩,cj.mpr rfl⟩,by rw[math ns hl];exact λv H' _ d=>ju.mp d⟩) λ_ _ _ _ _ z=>by obtain⟨_,_,_,_,_,_,_,_,_,_,_,_,_,_,z⟩:=z;exact z
end Tk92
namespace Tk92
open PySem PySem.Spec L2 TG TD T4
local macro_rules|`(‹$x›)=>do if x.raw.isOfKind `num then Lean.Macro.throwUnsupported else `(some (S.val $x))
local macro_rules
 |`(tactic| simp! only[$xs,*])=>`(tactic| simp only[eI,rR,se,rm,jx,dY,ge_0,zv,nI,yV,ng,ku,mO,nQ,z8,zb,yB,yC,zL,mX,mQ,sj,iX,kQ,nY,kR,qV,mC,nS,kP,nN,iW,nD,iL,iY,gK,gH,nM,kC,gL,kS,iz,kD,ky,gu,kT,iH,nh,kz,iV,gq,kr,kI,zC,sr,zi,yh,yz,ni,kE,nO,kq,km,z7,yt,R6,R7,Qw,QR,QZ,Ro,K0,env0,List.replicate,RO,QB,RH,Nat.reduceAdd,Nat.reduceSub,Qv,QT,nV,nq,sF,nA,nB,ny,gJ,mP,rB,sA,qS,mD,iI,iD,iF,iT,iO,iP,rH,sM,sd,rL,rW,sL,ja,iC,fD,fA,mW,gI,fJ,fE,fK,mF,lB,fG,fm,iK,iG,kt,ki,dC,kM,nX,mU,kL,kB,gN,if_true,if_false,RV,R8,QY,$xs,*])
theorem gm(j:Int)(h:0<j:=by decide):∀i:Int,cT (.int i) (.int j)=some (.int (i%j)):=λi=>hJ (i:=i) h
theorem gd(j:Int)(h:0<j:=by decide)(h':j<10^200:=by decide):∀i:Int,gR (.int i) (.int j)=some (.int (i/j)):=λi=>ir (i:=i) h h'
theorem oy(a c:Bool):(if a=true then(.ok true:R Bool)else .ok c)=.ok (a||c):=by cases a<;>rfl
theorem eL(c:Str)(f:aO)(k:Ks)(ρ:av):bW c f k ρ=oW (f ρ) k ρ λds=>if small ds.length then k.ex ⟨c,[],[]⟩ ρ else un:=nr rfl
theorem eR(f:FX)(k:Ks)(ρ:av):lx f k ρ=oW (f ρ) k ρ λ_=>k.nx ρ:=nr rfl
theorem pL(c:Str)(fs:ax)(f:aO)(k:Ks)(ρ:av):kj c fs f k ρ=oW (f ρ) k ρ λds=>if small ds.length&&ds.length==fs.length then k.ex ⟨c,fs,ds⟩ ρ else un:=nr rfl
theorem ua(cs:ax)(i:Nat)(F Fh:bw)(k:Ks)(ρ:av):zY cs i F Fh k ρ=F {k with ex:=λx ρ1=>if cs.contains x.c=true then Fh (IP i k) (setV i (.exc x.c x.fs x.vs) ρ1)else un} ρ:=nr rfl
theorem Gc(g:bD)(ds:List D):Bz g ds=zE (g ds):=nr rfl
theorem FU:small (0+1)=true:=by rfl
theorem Mz:(small 1&&((1:Nat)==1))=true:=by rfl
theorem Mo:(small 3&&((3:Nat)==3))=true:=by rfl
theorem jp:(("number":Str)==("number":Str))=true:=by decide +kernel
theorem sQ:(("number":Str)==("rows":Str))=false:=by decide +kernel
theorem IJ:(("rows":Str)==("rows":Str))=true:=by decide +kernel
theorem Jb:(("word":Str)==("number":Str))=false:=by decide +kernel
theorem Gs:(("word":Str)==("rows":Str))=false:=by decide +kernel
noncomputable abbrev num(lo hi:Int):D:=.tup [.str "number",.int lo,.int hi]
noncomputable abbrev frm(kf rf:List D):D:=.tup [.tup kf,.tup rf]
theorem qQ(kf rf:List D)(ps:List (Str×D))(hl:ps.length<=100)(e:kf++rf=ps.map fld)(hn:(ps.map (·.1)).Nodup)(i:Nat)(nm:Str)(k:D)(hi:ps[i]?=some (nm,k)):
  ao bg 2 4 [.tup [.tup kf,.tup rf],.str nm]=.ok (.int i):=by
 have en:=jd kf rf ps hl e;rw[bB];unfold bg;rw[gu,gq];simp! only[en,mH];have di:(gl 0 (ps.map λp=>D.str p.1))[i]?=some (.tup [.int ((i:Nat):Int),.str nm]):=by
  rw[jO,QI,hi,RH];rfl
 refine rd (Q:=λz=>z=.ok (.int i)) (λ_ ρ=>ρ=[‹.tup [.tup kf,.tup rf]›,‹.str nm›,none,none]) _ 0 i _ _ di ?_ rfl ?_
 ·rintro j d ρ k' hj hd rfl;rw[jO,QI]at hd;have hil:=fw hi;have hjl:j<ps.length:=by omega
  rw[Ri hjl]at hd;cases hd;have ne:(ps[j].1==nm)=false:=by
   have h1:=List.pairwise_iff_getElem.mp hn j i (by rw[Qx];exact hjl) (by rw[Qx];exact hil) hj;rw[Se,Se]at h1;have h2:ps[i]=(nm,k):=(by rw[Ri hil]at hi;exact Option.some.inj hi);rw[h2]at h1
   simpa using h1
  refine⟨[‹.tup [.tup kf,.tup rf]›,‹.str nm›,‹.int ((0+j:Nat):Int)›,‹.str ps[j].1›],_,rfl,rfl,?_⟩;simp! only[ne]
 ·rintro ρ k' rfl;refine⟨[‹.tup [.tup kf,.tup rf]›,‹.str nm›,‹.int (i:Int)›,‹.str nm›],rfl,?_⟩;simp! only[BEq.rfl]
theorem vF(kf rf:List D)(ps:List (Str×D))(hl:ps.length<=100)(e:kf++rf=ps.map fld)(nm:Str)(hm:nm∉ps.map (·.1)):
  ao bg 2 4 [.tup [.tup kf,.tup rf],.str nm]=.error (some ⟨"NoField",[],[]⟩):=by
 have en:=jd kf rf ps hl e;rw[bB];unfold bg;rw[gu,gq];simp! only[en,mH];refine lR (Q:=λz=>z=.error (some ⟨"NoField",[],[]⟩)) (λ_ ρ=>ρ=[‹.tup [.tup kf,.tup rf]›,‹.str nm›,none,none]) ?_ rfl ?_
 ·rintro j d ρ k' hd rfl;rw[jO,QI]at hd;have hjl:j<ps.length:=by
   rcases Nat.lt_or_ge j ps.length with z|z
   ·exact z
   ·rw[R0 z]at hd;cases hd
  rw[Ri hjl]at hd;cases hd;have ne:(ps[j].1==nm)=false:=by
   have:ps[j].1≠nm:=λz=>hm (by rw[<-z];exact Sf (List.getElem_mem hjl))
   simpa using this
  refine⟨[‹.tup [.tup kf,.tup rf]›,‹.str nm›,‹.int ((0+j:Nat):Int)›,‹.str ps[j].1›],_,rfl,rfl,?_⟩;simp! only[ne]
 ·rintro ρ rfl;simp! only[eL,FU]
theorem eW(m:Str)(tbl:List (Str×(bD)))(c:Str)(fs:ax)(vs:List D)(g:bD)(fo:FX)(fas:aO)(ρ:av)(h:fo ρ=.ok (.obj c fs vs))(l:tbl.lookup c=some g)(hm:fs.contains m=false):cw m tbl fo fas ρ=(fas ρ).bind λas=>g (.obj c fs vs::as):=by
 unfold cw;rw[h,eI];simp only[l,hm];rfl
noncomputable abbrev oS:D:=.obj "Step" [] []
noncomputable abbrev oN(m:Int)(x:Str):D:=.obj "Nest" ["many","name"] [.int m,.str x]
noncomputable abbrev oU(x:Str):D:=.obj "Unnest" ["name"] [.str x]
noncomputable abbrev oP(a:Str)(b:Int)(q r:Str):D:=.obj "Part" ["name","by","quotient","rest"] [.str a,.int b,.str q,.str r]
noncomputable abbrev oF(q r:Str)(b:Int)(a:Str):D:=.obj "Fuse" ["quotient","rest","by","name"] [.str q,.str r,.int b,.str a]
noncomputable abbrev oR(o n:Str):D:=.obj "Rename" ["old","new"] [.str o,.str n]
noncomputable abbrev oV(a:Str)(k:D):D:=.obj "Sieve" ["name","kind"] [.str a,k]
noncomputable abbrev oD(a:Str)(v:D):D:=.obj "Drop" ["name","value"] [.str a,v]
noncomputable abbrev leaf(t:Str):D:=.obj "Leaf" ["name"] [.str t]
noncomputable abbrev over(g s:D):D:=.obj "Over" ["glass","step"] [g,s]
noncomputable abbrev jS(a b p:D):D:=.obj "Both" ["one","other","pair"] [a,b,p]
noncomputable abbrev Mb:List (Str×(bD)):=[("Step",(ao bO 2 2)),("Nest",(ao bp 2 4)),("Unnest",(ao aW 2 5)),("Part",(ao bM 2 6)),("Fuse",(ao bN 2 6)),("Rename",(ao aV 2 3)),("Sieve",(ao bG 2 5)),("Drop",(ao bP 2 4))]
noncomputable abbrev G1(ro rb:bD):List (Str×(bD)):=[("Leaf",(ao bA 2 2)),("Over",ro),("Both",rb)]
noncomputable def So(s:D)(g:bD):Prop:=∃c fs vs,s=.obj c fs vs/\Mb.lookup c=some g/\fs.contains ("view_form":Str)=false
noncomputable def Go(n:Nat)(s:D)(g:bD):Prop:=∃c fs vs,s=.obj c fs vs/\(G1 (aE n) (aF n)).lookup c=some g/\fs.contains ("form":Str)=false
theorem Hq:So oS (ao bO 2 2):=⟨_,_,_,rfl,by kernel_rfl,by decide +kernel⟩
theorem Hi(m:Int)(x:Str):So (oN m x) (ao bp 2 4):=⟨_,_,_,rfl,by kernel_rfl,by decide +kernel⟩
theorem HB(x:Str):So (oU x) (ao aW 2 5):=⟨_,_,_,rfl,by kernel_rfl,by decide +kernel⟩
theorem IL(a:Str)(b:Int)(q r:Str):So (oP a b q r) (ao bM 2 6):=⟨_,_,_,rfl,by kernel_rfl,by decide +kernel⟩
theorem JA(q r:Str)(b:Int)(a:Str):So (oF q r b a) (ao bN 2 6):=⟨_,_,_,rfl,by kernel_rfl,by decide +kernel⟩
theorem qG(o n:Str):So (oR o n) (ao aV 2 3):=⟨_,_,_,rfl,by kernel_rfl,by decide +kernel⟩
theorem HP(a:Str)(k:D):So (oV a k) (ao bG 2 5):=⟨_,_,_,rfl,by kernel_rfl,by decide +kernel⟩
theorem Mq(a:Str)(v:D):So (oD a v) (ao bP 2 4):=⟨_,_,_,rfl,by kernel_rfl,by decide +kernel⟩
theorem Ji(n:Nat)(t:Str):Go n (leaf t) (ao bA 2 2):=⟨_,_,_,rfl,by kernel_rfl,by decide +kernel⟩
theorem Lc(n:Nat)(g s:D):Go n (over g s) (aE n):=⟨_,_,_,rfl,by kernel_rfl,by decide +kernel⟩
theorem Jx(n:Nat)(a b p:D):Go n (jS a b p) (aF n):=⟨_,_,_,rfl,by kernel_rfl,by decide +kernel⟩
theorem Go.meth{n:Nat}{g:D}{gf:bD}(h:Go n g gf)(fo:FX)(fas:aO)(ρ:av)(e:fo ρ=.ok g):cw "form" (G1 (aE n) (aF n)) fo fas ρ=(fas ρ).bind λas=>gf (g::as):=by
 obtain⟨c,fs,vs,rfl,l,hm⟩:=h;exact eW "form" _ c fs vs gf fo fas ρ e l hm
theorem So.meth{s:D}{g:bD}(h:So s g)(fo:FX)(fas:aO)(ρ:av)(e:fo ρ=.ok s):cw "view_form" Mb fo fas ρ=(fas ρ).bind λas=>g (s::as):=by
 obtain⟨c,fs,vs,rfl,l,hm⟩:=h;exact eW "view_form" _ c fs vs g fo fas ρ e l hm
theorem FD(r:R D)(ρ:av):oW r {nx:=λ_=>.ok D.non} ρ .ok=r:=by
 cases r with
 |ok d=>rfl
 |error x=>cases x<;>rfl
noncomputable def Fm(n:Nat)(g fs:D)(r:R D):Prop:=∃gf,Go n g gf/\gf [g,fs]=r
theorem jU(g s:D):az "glass" ["Over"] (over g s)=some g:=by rfl
theorem sN(g s:D):az "step" ["Over"] (over g s)=some s:=by rfl
theorem wm(a b p:D):az "one" ["Both"] (jS a b p)=some a:=by rfl
theorem uH(a b p:D):az "other" ["Both"] (jS a b p)=some b:=by rfl
section
variable{n:Nat}{g fs s:D}{gv:bD}
theorem wZ{r:R D}(h:Fm n g fs r)(hs:So s gv):Fm (n+1) (over g s) fs (r.bind λf=>gv [s,f]):=by
 obtain⟨gf,hg,e⟩:=h;refine⟨_,Lc _ _ _,?_⟩;have m1:=hs.meth (f1 (az "step" ["Over"]) (af 0)) (aa (cw "form" (G1 (aE n) (aF n)) (f1 (az "glass" ["Over"]) (af 0)) (aa (af 1) ah)) ah) [‹over g s›,‹fs›] (by simp! only[sN]);have m2:=hg.meth (f1 (az "glass" ["Over"]) (af 0)) (aa (af 1) ah) [‹over g s›,‹fs›] (by simp! only[jU]);rw[fF,bB];unfold h7;cases r with
 |ok f=>simp! only[m1,m2,e,FD]
 |error x=>simp! only[m1,m2,e,FD]
theorem kH{f:D}(h:Fm n g fs (.ok f))(hs:So s gv):Fm (n+1) (over g s) fs (gv [s,f]):=wZ h hs
theorem j3{x:Option Ex}(h:Fm n g fs (.error x))(hs:So s gv):Fm (n+1) (over g s) fs (.error x):=wZ h hs
end
structure Nm(n:Nat->Str):Prop where
 inj:∀j k:Nat,j<24->k<24->n j=n k->j=k
theorem Nm.ne{n:Nat->Str}(h:Nm n){j k:Nat}(hj:j<24:=by decide)(hk:k<24:=by decide)(hjk:j≠k:=by decide):n j≠n k:=λe=>hjk (h.inj j k hj hk e)
theorem Nm.bf{n:Nat->Str}(h:Nm n){j k:Nat}(hj:j<24:=by decide)(hk:k<24:=by decide)(hjk:j≠k:=by decide):(n j==n k)=false:=by simpa using h.ne hj hk hjk
theorem AY(b:Int)(hb:0<=b):∃n:Nat->Str,Nm n/\∀k:Nat,k<24->ao aL 2 7 [.int b,.int (k:Int)]=.ok (.str (n k)):=by
 have h:=λk:Nat=>EC b (k:Int) hb ‹0›;refine⟨λk=>(h k).choose,⟨λj k hj hk e=>?_⟩,λk _=>(h k).choose_spec.1⟩;have e:(h j).choose=(h k).choose:=e;have p1:=(h j).choose_spec.2;have p2:=(h k).choose_spec.2;rw[<-e]at p2
 have:=EZ ‹0› ‹0› ‹0› ‹0› p1 p2
 omega
noncomputable def ps(n:Nat->Str)(l h:Int):List (Str×D):=[(n 0,num 0 11),(n 1,num l (l+11)),(n 2,num (-5) h),(n 3,.tup [.str "word",.tup [.str "",.str "ab"]])]
noncomputable def kf(n:Nat->Str)(l:Int):List D:=[fld (n 0,num 0 11),fld (n 1,num l (l+11))]
noncomputable def rf(n:Nat->Str)(h:Int):List D:=[fld (n 2,num (-5) h),fld (n 3,.tup [.str "word",.tup [.str "",.str "ab"]])]
noncomputable abbrev F0(n:Nat->Str)(l h:Int):D:=frm (kf n l) (rf n h)
section
variable{n:Nat->Str}{l h:Int}
theorem Dl:(ps n l h).length<=100:=by show 4<=100;decide
theorem zX:kf n l++rf n h=(ps n l h).map fld:=rfl
theorem Fs(N:Nm n):((ps n l h).map (·.1)).Nodup:=by
 show[n 0,n 1,n 2,n 3].Nodup;have a:=N.ne (j:=0) (k:=1);have b:=N.ne (j:=0) (k:=2);have c:=N.ne (j:=0) (k:=3);have d:=N.ne (j:=1) (k:=2);have e:=N.ne (j:=1) (k:=3);have f:=N.ne (j:=2) (k:=3);simp[a,b,c,d,e,f]
theorem lA(N:Nm n){i:Nat}{x:Str}{k:D}(hi:(ps n l h)[i]?=some (x,k)):ao bg 2 4 [F0 n l h,.str x]=.ok (.int i):=qQ (kf n l) (rf n h) (ps n l h) Dl zX (Fs N) i x k hi
theorem Ei(N:Nm n){j:Nat}(h4:4<=j)(hj:j<24):ao bg 2 4 [F0 n l h,.str (n j)]=.error (some ⟨"NoField",[],[]⟩):=by
 refine vF (kf n l) (rf n h) (ps n l h) Dl zX (n j) λz=>?_;have z:n j∈[n 0,n 1,n 2,n 3]:=z;simp only[Rz,RB,or_false]at z;rcases z with z|z|z|z
 ·exact N.ne hj (by decide) ‹0› z
 ·exact N.ne hj (by decide) ‹0› z
 ·exact N.ne hj (by decide) ‹0› z
 ·exact N.ne hj (by decide) ‹0› z
theorem o9{i:Nat}{x:Str}{k:D}(hi:(ps n l h)[i]?=some (x,k)):ao bJ 2 2 [F0 n l h,.int i]=.ok k:=rC (kf n l) (rf n h) (ps n l h) Dl zX i x k hi
theorem nms:ao cJ 1 1 [F0 n l h]=.ok (.tup [.str (n 0),.str (n 1),.str (n 2),.str (n 3)]):=jd (kf n l) (rf n h) (ps n l h) Dl zX
theorem xt(i:Nat):ao dS 2 2 [F0 n l h,.int i]=.ok (.bl (decide (i<2))):=lC (kf n l) (rf n h) i
theorem Lr(w:Str)(a b c d:Str):t9 (.str w) (.tup [.str a,.str b,.str c,.str d])=some (.bl ([a,b,c,d].contains w)):=by
 have:=tJ w [a,b,c,d]
 exact this
theorem Hw(m:Int)(x:Str):az "many" ["Nest"] (oN m x)=some (.int m):=by rfl
theorem JB(m:Int)(x:Str):az "name" ["Nest"] (oN m x)=some (.str x):=by rfl
theorem HN(x:Str):az "name" ["Unnest"] (oU x)=some (.str x):=by rfl
theorem JG(o x:Str):az "old" ["Rename"] (oR o x)=some (.str o):=by rfl
theorem Nz(o x:Str):az "new" ["Rename"] (oR o x)=some (.str x):=by rfl
theorem Lz(q r:Str)(b:Int)(a:Str):az "quotient" ["Fuse"] (oF q r b a)=some (.str q):=by rfl
theorem Ln(q r:Str)(b:Int)(a:Str):az "rest" ["Fuse"] (oF q r b a)=some (.str r):=by rfl
theorem MC(q r:Str)(b:Int)(a:Str):az "by" ["Fuse"] (oF q r b a)=some (.int b):=by rfl
theorem Hh(a:Str)(b:Int)(q r:Str):az "name" ["Part"] (oP a b q r)=some (.str a):=by rfl
theorem Bu(a:Str)(b:Int)(q r:Str):az "by" ["Part"] (oP a b q r)=some (.int b):=by rfl
theorem Di(a:Str)(b:Int)(q r:Str):az "quotient" ["Part"] (oP a b q r)=some (.str q):=by rfl
theorem DR(a:Str)(b:Int)(q r:Str):az "rest" ["Part"] (oP a b q r)=some (.str r):=by rfl
theorem K2(a:Str)(k:D):az "name" ["Sieve"] (oV a k)=some (.str a):=by rfl
theorem LJ(a:Str)(k:D):az "kind" ["Sieve"] (oV a k)=some k:=by rfl
theorem NK(a:Str)(k:D):az "name" ["Drop"] (oD a k)=some (.str a):=by rfl
theorem MV(a:Str)(k:D):az "value" ["Drop"] (oD a k)=some k:=by rfl
theorem whole(m:Int):ao fO 1 1 [.int m]=.ok (.bl true):=by
 have t1:Ak "int" (.int m)=some (.bl true):=rfl;have t2:Ak "bool" (.int m)=some (.bl false):=rfl;rw[dm];unfold fO;simp! only[t1,t2];rfl
theorem GW(m:Int)(x:Str)(hm:¬(1<=m/\m<2)):ao bp 2 4 [oN m x,F0 n l h]=.error (some ⟨"NoKey",[],[]⟩):=by
 have w:=whole m;have b:(decide (1<=m)&&decide (m<2))=false:=by
  rw[Bool.and_eq_false_iff];rcases Decidable.not_and_iff_or_not.mp hm with z|z
  ·exact .inl (decide_eq_false z)
  ·exact .inr (decide_eq_false z)
 have lk:((kf n l).length:Int)=2:=rfl;rw[bB];unfold bp;simp! only[Hw,w,lk,dC,oy,b,R8,RW,eL,FU]
theorem Jn(N:Nm n):ao aW 2 5 [oU (n 2),F0 n l h]=.error (some ⟨"NoKind",[],[]⟩):=by
 have p:=lA (l:=l) (h:=h) N (i:=2) rfl;have k:=o9 (n:=n) (l:=l) (h:=h) (i:=2) rfl;rw[bB];unfold aW;simp! only[HN,p,k,oy,sQ,R8,Bool.true_or,eL,FU]
theorem CO(N:Nm n)(x:Str):ao aV 2 3 [oR (n 4) x,F0 n l h]=.error (some ⟨"NoField",[],[]⟩):=by
 have p:=Ei (l:=l) (h:=h) N (j:=4) (by decide) (by decide);rw[bB];unfold aV;simp! only[JG,p]
theorem BV(N:Nm n)(j:Nat)(hj:j<2):ao aV 2 3 [oR (n 0) (n j),F0 n l h]=.error (some ⟨"Twice",[],[]⟩):=by
 have p:=lA (l:=l) (h:=h) N (i:=0) rfl;have c:[n 0,n 1,n 2,n 3].contains (n j)=true:=by
  refine List.contains_iff_mem.mpr ?_;rcases(show j=0\/j=1 by omega)with rfl|rfl<;>simp
 rw[bB];unfold aV;simp! only[JG,Nz,p,nms,Lr,c,eL,FU]
end
theorem J2{ps:List (Str×D)}(hn:(ps.map (·.1)).Nodup){i t:Nat}{q:Str}{k:D}{p:Str×D}(hi:ps[i]?=some (q,k))(ht:ps[t]?=some p):(((i:Nat):Int)==((0+t:Nat):Int))=(p.1==q):=by
 have il:=fw hi;have tl:=fw ht;have e1:ps[i]=(q,k):=by rw[Ri il]at hi;exact Option.some.inj hi
 have e2:ps[t]=p:=by rw[Ri tl]at ht;exact Option.some.inj ht
 by_cases z:i=t
 ·subst z;rw[e1]at e2;subst e2;simp
 ·have pw:=List.pairwise_iff_getElem.mp hn;have ne:p.1≠q:=λw=>by
   rcases Nat.lt_or_gt_of_ne z with y|y
   ·exact pw i t (by rw[Qx];exact il) (by rw[Qx];exact tl) y (by rw[Se,Se,e1,e2,w])
   ·exact pw t i (by rw[Qx];exact tl) (by rw[Qx];exact il) y (by rw[Se,Se,e1,e2,w])
  have a:((i:Int)==((0+t:Nat):Int))=false:=by simp;omega
  have b:(p.1==q)=false:=by simpa using ne
  rw[a,b]
noncomputable def oth(nm:Str)(x:Str):Bool:=!(x==nm)
theorem B4{kf rf:List D}{ps:List (Str×D)}(hl:ps.length<=16)(e0:kf++rf=ps.map fld)(hn0:(ps.map (·.1)).Nodup)(nm q:Str){i:Nat}{k:D}(hi:ps[i]?=some (nm,k)):ao bH 3 4 [.tup [.tup kf,.tup rf],.str q,.tup [.int i]]=.ok (.bl (ps.any λp=>(p.1==q)&&oth nm p.1)):=by
 have len:kf.length+rf.length=ps.length:=by have:=congrArg List.length e0;rwa [QK,Qx]at this
 obtain⟨vs,v1,v2,v3⟩:=Bx (ρ:=inB [none,none,some 1,some 2] [‹.tup [.tup kf,.tup rf]›,‹.str q›,‹.tup [.int i]›,‹.tup (ps.map fld)›]) (g:=gT 2 (qt [0,1])) (C:=bX) (Fe:=iR (f2 gk (f2 ap (af 1) (fC (.int 0))) (af 2)) (f2 lG (af 0) (af 3))) (gl 0 (ps.map fld)) (λt v=>∃p,ps[t]?=some p/\v=.bl ((p.1==q)&&oth nm p.1)) (λt d hd=>by
  rw[jO,QI]at hd;cases hp:ps[t]? with
  |none=>rw[hp]at hd;cases hd
  |some p=>
   rw[hp]at hd;cases hd;refine⟨[‹.int ((0+t:Nat):Int)›,‹.tup [.str p.1,p.2]›,‹.str q›,‹.tup [.int i]›],_,rfl,rfl,?_,p,rfl,rfl⟩;have e1:=J2 hn0 hi hp;rw[RH]at e1;simp! only[yT,e1,oth])
 have ev:vs=(ps.map λp=>(p.1==q)&&oth nm p.1).map .bl:=by
  have lv:vs.length=ps.length:=by rw[v1,gB,Qx]
  apply List.ext_getElem
  ·rw[Qx,Qx,lv]
  ·intro t h1 h2;obtain⟨p,hp,e⟩:=v2 t _ (Ri h1);rw[e,Se,Se]
   have:ps[t]'‹0›=p:=(by rw[Ri ‹0›]at hp;exact Option.some.inj hp);rw[this]
 have f0:=fQ (ix:=[none,none,some 1,some 2]) (G:=fu (aa (af 3) ah)) (ρ:=[‹.tup [.tup kf,.tup rf]›,‹.str q›,‹.tup [.int i]›,‹.tup (ps.map fld)›]) (by simp! only[mH]) (by rw[gB,Qx];omega) v3;rw[ev]at f0;have an:(ps.map λp=>(p.1==q)&&oth nm p.1).any id=ps.any λp=>(p.1==q)&&oth nm p.1:=by rw[RP];rfl
 rw[fh];unfold bH;simp! only[gY kf rf ‹0›,e0,f0,E6,an]
section
variable{n:Nat->Str}{l h:Int}
theorem xY(N:Nm n)(j:Nat)(h4:4<=j)(hj:j<24):ao bH 3 4 [F0 n l h,.str (n j),.tup [.int ((0:Nat):Int)]]=.ok (.bl false):=by
 have e:=B4 (kf:=kf n l) (rf:=rf n h) (ps:=ps n l h) (by show 4<=16;decide) zX (Fs N) (n 0) (n j) (i:=0) rfl;have z:((ps n l h).any λp=>(p.1==n j)&&oth (n 0) p.1)=false:=by
  rw[Qt];intro p hp
  have:p.1≠n j:=λz=>by
   have hp':p.1∈[n 0,n 1,n 2,n 3]:=Sf (f:=(·.1)) hp;rw[z]at hp';simp only[Rz,RB,or_false]at hp';rcases hp' with w|w|w|w
   ·exact N.ne hj (by decide) ‹0› w
   ·exact N.ne hj (by decide) ‹0› w
   ·exact N.ne hj (by decide) ‹0› w
   ·exact N.ne hj (by decide) ‹0› w
  have w:(p.1==n j)=false:=by simpa using this
  rw[w];simp
 rw[z]at e;exact e
theorem EJ(a b c d:Int):lg (num a b) (num c d)=some (.bl (!pyEq (num a b) (num c d))):=by
 have e:lg (num a b) (num c d)=if(pl (num a b)&&pl (num c d))&&(cV 8 (num a b)||cV 8 (num c d))then some (.bl (!pyEq (num a b) (num c d)))else none:=rfl
 have p1:pl (num a b)=true:=rfl;have p2:pl (num c d)=true:=rfl;have d1:cV 8 (num a b)=true:=rfl;rw[e,p1,p2,d1];rfl
theorem Eo(a b c d:Int):pyEq (num a b) (num c d)=((a==c)&&(b==d)):=by
 simp only[pyEq,iS,BEq.rfl,Bool.true_and,Rk]
theorem GX(N:Nm n)(hl:0<l)(b:Int)(b1:2<=b)(b2:b<=1000000000)(x:Str):ao bN 2 6 [oF (n 0) (n 1) b x,F0 n l h]=.error (some ⟨"NoKind",[],[]⟩):=by
 have p:=lA (l:=l) (h:=h) N (i:=0) rfl;have q:=lA (l:=l) (h:=h) N (i:=1) rfl;have k0:=o9 (n:=n) (l:=l) (h:=h) (i:=0) rfl;have k1:=o9 (n:=n) (l:=l) (h:=h) (i:=1) rfl;have i0:=xt (n:=n) (l:=l) (h:=h) 0;have i1:=xt (n:=n) (l:=l) (h:=h) 1;have z:(!pyEq (num l (l+11)) (num 0 (b-1)))=true:=by
  have w:(l==0)=false:=by simp;omega
  rw[Eo,w];rfl
 have c1:((((0:Nat):Int))==((1:Nat):Int))=false:=rfl;have c2:(!(decide (0<2)==decide (1<2)))=false:=rfl;have ck:ao bz 4 4 [oF (n 0) (n 1) b x,F0 n l h,.int ((0:Nat):Int),.int ((1:Nat):Int)]=.error (some ⟨"NoKind",[],[]⟩):=by
  rw[HS];unfold bz;simp! only[k0,k1,i0,i1,c1,c2,jp,MC,oy,dC,decide_eq_true b1,decide_eq_true b2,Sg,RV,Sh,Fo,EJ,z,eL,FU]
 have m:=eW "check_kinds" [("Fuse",(ao bz 4 4))] "Fuse" ["quotient","rest","by","name"] [.str (n 0),.str (n 1),.int b,.str x] (ao bz 4 4) (af 0) (aa (af 1) (aa (af 2) (aa (af 3) ah))) [‹oF (n 0) (n 1) b x›,‹F0 n l h›,‹.int ((0:Nat):Int)›,‹.int ((1:Nat):Int)›,none,none] rfl (by kernel_rfl) (by decide +kernel);rw[bB];unfold bN;simp! only[Lz,Ln,p,q,m,ck,eR]
noncomputable def lw:D->D
 |.tup (.str _::.int lo::_)=>.int lo
 |.tup [_,.tup (x::_)]=>x
 |_=>.non
theorem ue(g:Nat)(lo hi:Int):cz (g+1) [num lo hi]=.ok (.int lo):=by
 rw[eU,dm];unfold kg;simp! only[jp]
theorem AB(g:Nat):cz (g+1) [.tup [.str "word",.tup [.str "",.str "ab"]]]=.ok (.str ""):=by
 have w:(("word":Str)==("word":Str))=true:=by decide +kernel
 rw[eU,dm];unfold kg;simp! only[Jb,w]
theorem GB:ao eE 1 1 [F0 n l h]=.ok (.tup [.int 0,.int l,.int (-5),.str ""]):=by
 have ko:ao cI 1 1 [F0 n l h]=.ok (.tup ((ps n l h).map (·.2))):=kinds_ok (kf n l) (rf n h) (ps n l h) (by show 2+2<=100;decide) zX;have rows_num:(("rows":Str)==("number":Str))=false:=by decide +kernel
 have rows_word:(("rows":Str)==("word":Str))=false:=by decide +kernel
 have f0:fU [none] (bV (fR (ao cI 1 1) (aa (f2 ap (af 0) (fC (.int 1))) ah))) (gN 0) bX (fR (cz 11) (aa (af 0) ah)) [‹.tup [.str "rows",F0 n l h,.bl true]›]=.ok (.lst ((ps n l h).map λp=>lw p.2)):=by
  refine fQ (ds:=(ps n l h).map (·.2)) ?_ (by show 4<=100000;decide) ?_
  ·simp! only[ko]
  ·refine ip (λp:Str×D=>p.2) _ (ps n l h) λp hp=>⟨_,rfl,rfl,?_⟩
   have e:cz 11 [p.2]=.ok (lw p.2):=by
    have hp:p∈[(n 0,num 0 11),(n 1,num l (l+11)),(n 2,num (-5) h),(n 3,.tup [.str "word",.tup [.str "",.str "ab"]])]:=hp;simp only[Rz,RB,or_false]at hp;rcases hp with rfl|rfl|rfl|rfl
    ·exact ue 10 _ _
    ·exact ue 10 _ _
    ·exact ue 10 _ _
    ·exact AB 10
   simp! only[e]
 have e1:cz 12 [.tup [.str "rows",F0 n l h,.bl true]]=.ok (.tup [.tup [.int 0,.int l,.int (-5),.str ""]]):=by
  rw[eU,dm];unfold kg;simp! only[rows_num,rows_word,f0,IR];rfl
 rw[dm];unfold eE;simp! only[Fo,e1]
theorem rp(ys:List D)(hy:ys.length<=2):ao cK 3 3 [.tup [.int 0,.int l,.int (-5),.str ""],.int ((0:Nat):Int),.tup ys]=.ok (.tup (ys++[.int l,.int (-5),.str ""])):=by
 have:=mJ [.int 0,.int l,.int (-5),.str ""] ys 0 (by show 4+ys.length<=10000;omega)
 rw[this];rfl
theorem wx(N:Nm n)(b:Int):ao bC 3 3 [oP (n 0) b (n 4) (n 5),F0 n l h,.int ((0:Nat):Int)]=.ok .non:=by
 have e1:=xY (l:=l) (h:=h) N 4 (by decide) (by decide);have e2:=xY (l:=l) (h:=h) N 5 (by decide) (by decide);have q:=N.bf (j:=4) (k:=5);rw[fh];unfold bC;simp! only[Di,DR,q,IR,e1,e2]
theorem Fi(b:Int)(b1:2<=b)(b2:b<=1000)(q r:Str):∃v:List D,ao bI 3 5 [oP (n 0) b q r,F0 n l h,.int ((0:Nat):Int)]=if((12:Int)%b==0)=true then .ok .non else .error (some ⟨"Torn",["view"],v⟩):=by
 have k0:=o9 (n:=n) (l:=l) (h:=h) (i:=0) rfl;have g:=λj=>hJ (i:=j) (show(0:Int)<b by omega);have dv:=λj=>ir (i:=j) (show(0:Int)<b by omega) (show b<10^200 by
  have:(10:Int)^200>1000:=by decide +kernel
  omega)
 have r2:=rp (l:=l) [.int (11/b),.int (b-1)] (by simp);have z0:((0:Int)%b==0)=true:=by rw[Int.zero_emod];rfl
 have t:((11:Int)+1)=12:=rfl;refine⟨[.tup [.tup ([.int (11/b),.int (b-1)]++[.int l,.int (-5),.str ""])]],?_⟩;rw[fh];unfold bI;cases z:((12:Int)%b==0)with
 |true=>simp! only[k0,GB,Bu,g,z0,t,z]
 |false=>simp! only[k0,GB,Bu,g,dv,z0,t,z,xf,r2,IR,pL,Mz]
theorem part_of(N:Nm n)(b:Int)(b1:2<=b)(b2:b<=1000):∃(v:List D)(f:D),ao bM 2 6 [oP (n 0) b (n 4) (n 5),F0 n l h]=if((12:Int)%b==0)=true then .ok f else .error (some ⟨"Torn",["view"],v⟩):=by
 have p:=lA (l:=l) (h:=h) N (i:=0) rfl;have k0:=o9 (n:=n) (l:=l) (h:=h) (i:=0) rfl;have i0:=xt (n:=n) (l:=l) (h:=h) 0;have nf:=wx (l:=l) (h:=h) N b;obtain⟨v,en⟩:=Fi (n:=n) (l:=l) (h:=h) b b1 b2 (n 4) (n 5);have dv:=λj=>ir (i:=j) (show(0:Int)<b by omega) (show b<10^200 by
  have:(10:Int)^200>1000:=by decide +kernel
  omega)
 obtain⟨f,wp⟩:∃f,ao bK 3 3 [F0 n l h,.int ((0:Nat):Int),.tup [.tup [.str (n 4),num (0/b) (11/b)],.tup [.str (n 5),num 0 (b-1)]]]=.ok f:=⟨_,zI (kf n l) (rf n h) [.tup [.str (n 4),num (0/b) (11/b)],.tup [.str (n 5),num 0 (b-1)]] 0 (by show 2+2+2<=10000;decide)⟩
 have m1:=λx3 x4 x5=>eW "check_names" [("Part",(ao bC 3 3))] "Part" ["name","by","quotient","rest"] [.str (n 0),.int b,.str (n 4),.str (n 5)] (ao bC 3 3) (af 0) (aa (af 1) (aa (af 2) ah)) [‹oP (n 0) b (n 4) (n 5)›,‹F0 n l h›,‹.int ((0:Nat):Int)›,x3,x4,x5] rfl (by kernel_rfl) (by decide +kernel);have m2:=λx3 x4 x5=>eW "check_ends" [("Part",(ao bI 3 5))] "Part" ["name","by","quotient","rest"] [.str (n 0),.int b,.str (n 4),.str (n 5)] (ao bI 3 5) (af 0) (aa (af 1) (aa (af 2) ah)) [‹oP (n 0) b (n 4) (n 5)›,‹F0 n l h›,‹.int ((0:Nat):Int)›,x3,x4,x5] rfl (by kernel_rfl) (by decide +kernel);have d2:decide (0<2)=true:=rfl;have lk:fj [.tup (kf n l)]=some (.int 2):=rfl;have ge:decide ((8:Int)<=2)=false:=rfl;have c1:decide ((2:Int)<=b)=true:=decide_eq_true b1;have c2:decide (b<=1000000000)=true:=decide_eq_true ‹0›;rw[bB];unfold bM;cases z:((12:Int)%b==0)with
 |true=>
  rw[z,if_pos rfl]at en;refine⟨v,f,?_⟩;rw[if_pos rfl];simp! only[Hh,Bu,Di,DR,p,k0,jp,dC,oy,c1,c2,Sg,RV,Sh,m1,nf,eR,i0,d2,lk,ge,m2,en,dv,xf,Fo,wp]
 |false=>
  rw[z,if_neg Qu]at en;refine⟨v,.non,?_⟩;rw[if_neg Qu];simp! only[Hh,Bu,Di,DR,p,k0,jp,dC,oy,c1,c2,Sg,RV,Sh,m1,nf,eR,i0,d2,lk,ge,m2,en]
theorem J3(N:Nm n)(y:Int)(hy:y<0):ao bG 2 5 [oV (n 0) (num (-9) y),F0 n l h]=.error (some ⟨"Nothing",[],[]⟩):=by
 have p:=lA (l:=l) (h:=h) N (i:=0) rfl;have k0:=o9 (n:=n) (l:=l) (h:=h) (i:=0) rfl;have a1:oh [.int 0,.int (-9)]=some (.int 0):=rfl;have a2:n6 [.int 11,.int y]=some (.int y):=by
  rw[lB]
  have:y<11:=by omega
  simp[this]
 have d:decide ((0:Int)<=y)=false:=decide_eq_false ‹0›;have bn:ao dB 2 4 [num 0 11,num (-9) y]=.ok .non:=by
  rw[bB];unfold dB;simp! only[a1,a2,d]
 have bo:ao jL 2 2 [num 0 11,num (-9) y]=.ok .non:=by
  rw[bB];unfold jL;simp! only[jp,bn]
 have nn:isNon D.non=true:=rfl;rw[bB];unfold bG;simp! only[K2,LJ,p,k0,jp,bo,nn,eL,FU]
theorem IE(N:Nm n)(v:Int)(h0:0<=v)(h1:v<12):∃vs:List D,ao bP 2 4 [oD (n 0) (.int v),F0 n l h]=.error (some ⟨"Blind",["one","other","change"],vs⟩):=by
 have p:=lA (l:=l) (h:=h) N (i:=0) rfl;have k0:=o9 (n:=n) (l:=l) (h:=h) (i:=0) rfl;have i0:=xt (n:=n) (l:=l) (h:=h) 0;have w:=whole v;have ft:cO 12 [num 0 11,.int v]=.ok (.bl true):=by
  rw[jZ,bB];unfold tE;simp! only[jp,w,decide_eq_true h0,decide_eq_true (show v<=11 by omega)];rfl
 have G0:((0:Int)==11)=false:=rfl;have sg:cx 12 [num 0 11]=.ok (.bl false):=by
  rw[iy,dm];unfold me;simp! only[jp,G0]
 have sv:ao dG 1 1 [num 0 11]=.ok (.int 1):=by
  rw[dm];unfold dG;simp! only[jp];rfl
 have r1:=rp (l:=l) [.int 1] (by simp);have cut:cutD [.int 0,.int l,.int (-5),.str ""] none (some 2)=([.int 0,.int l]:List D):=rfl;have lk:fj [.tup (kf n l)]=some (.int 2):=rfl;have M7:((2:Int)==1)=false:=rfl;have d2:decide (0<2)=true:=rfl;have ck:ao eJ 2 6 [F0 n l h,.int ((0:Nat):Int)]=.error (some ⟨"Blind",["one","other","change"],[.tup [.tup [.int 0,.int l,.int (-5),.str ""],.tup ([.int 1]++[.int l,.int (-5),.str ""])],.tup [.tup [.int 0,.int l,.int (-5),.str ""]],.tup [.tup [.tup [.int 0,.int l],.tup [.int 0,.int l,.int (-5),.str ""],.non]]]⟩):=by
  rw[bB];unfold eJ;simp! only[lk,M7,k0,sg,GB,sv,IR,r1,xf,Fo,cut,pL,Mo]
 obtain⟨vs,ck⟩:∃vs,ao eJ 2 6 [F0 n l h,.int ((0:Nat):Int)]=.error (some ⟨"Blind",["one","other","change"],vs⟩):=⟨_,ck⟩
 refine⟨vs,?_⟩;rw[bB];unfold bP;simp! only[NK,MV,p,k0,oy,sQ,ft,RV,Sh,i0,d2,eR,ck]
noncomputable def al(n:Nat->Str)(l h:Int):List (Key×D):=[(.inr (n 8),F0 n l h),(.inr (n 9),F0 n l h)]
noncomputable abbrev lK(n:Nat->Str)(l h:Int):D:=qD (al n l h)
theorem gg(t:Str):Gg (lK n l h) (.str t)=some (mz (al n l h) (.inr t)):=by
 unfold Gg;show((lL (lr (al n l h)) ((al n l h).map (·.2))).bind λal=>(keyOf (.str t)).map λq=>mz al q)=_;rw[rh];rfl
theorem sS(t:Str):az "name" ["Leaf"] (leaf t)=some (.str t):=by rfl
theorem FJ(N:Nm n)(j:Nat)(hj:j<24):mz (al n l h) (.inr (n j))=if j=8\/j=9 then some (F0 n l h)else none:=by
 unfold mz al;have e:∀a b:Nat,a<24->b<24->decide ((Sum.inr (n a):Key)=Sum.inr (n b))=decide (a=b):=λa b ha hb=>by
  rw[decide_eq_decide];exact⟨λz=>N.inj a b ha hb (Sum.inr.inj z),λz=>by rw[z]⟩
 rw[QS,e 8 j (by decide) hj];by_cases z:j=8
 ·rw[decide_eq_true z.symm,if_pos (.inl z)];rfl
 ·rw[decide_eq_false (Ne.symm z),QS,e 9 j (by decide) hj];by_cases y:j=9
  ·rw[decide_eq_true y.symm,if_pos (.inr y)];rfl
  ·rw[decide_eq_false (Ne.symm y),if_neg ‹0›];rfl
theorem oQ(N:Nm n)(m:Nat)(j:Nat)(hj:j=8\/j=9):Fm m (leaf (n j)) (lK n l h) (.ok (F0 n l h)):=by
 refine⟨_,Ji _ _,?_⟩;have g:=gg (n:=n) (l:=l) (h:=h) (n j);rw[FJ N j ‹0›,if_pos hj]at g;have g1:gC (.str (n j)) (lK n l h)=some (.bl false):=by unfold gC;rw[g];rfl
 have g2:qX (lK n l h) (.str (n j))=some (F0 n l h):=by unfold qX;rw[g];rfl
 rw[bB];unfold bA;generalize lK n l h=fs at *;simp! only[sS,g1,g2]
theorem Dv(N:Nm n)(m:Nat):Fm m (leaf (n 10)) (lK n l h) (.error (some ⟨"NoTable",[],[]⟩)):=by
 refine⟨_,Ji _ _,?_⟩;have g:=gg (n:=n) (l:=l) (h:=h) (n 10);rw[FJ N 10 (by decide),if_neg (by decide)]at g;have g1:gC (.str (n 10)) (lK n l h)=some (.bl true):=by unfold gC;rw[g];rfl
 rw[bB];unfold bA;generalize lK n l h=fs at *;simp! only[sS,g1,eL,FU]
end
theorem uB{m:Nat}{a b p fs:D}{x:Ex}(ha:Fm m a fs (.error (some x))):Fm (m+1) (jS a b p) fs (.error (some x)):=by
 obtain⟨gf,hg,e⟩:=ha;refine⟨_,Jx _ _ _ _,?_⟩;have m1:=hg.meth (f1 (az "one" ["Both"]) (af 0)) (aa (af 1) ah) [‹jS a b p›,‹fs›,none,none,none] (by simp! only[wm]);rw[dH,bB];unfold fT;simp! only[m1,e]
noncomputable abbrev HX:List (Str×(bD)):=[("Leaf",(ao bj 1 1)),("Over",(aC 12)),("Both",(aG 12))]
theorem Dt{m:Nat}{t:Str}{p fs f:D}(ha:Fm m (leaf t) fs (.ok f))(hb:Fm m (over (leaf t) oS) fs (.ok f)):Fm (m+1) (jS (leaf t) (over (leaf t) oS) p) fs (.error (some ⟨"Twice",[],[]⟩)):=by
 obtain⟨gf,hg,e⟩:=ha;obtain⟨gf',hg',e'⟩:=hb;refine⟨_,Jx _ _ _ _,?_⟩;have m1:=λx2 x3=>hg.meth (f1 (az "one" ["Both"]) (af 0)) (aa (af 1) ah) [‹jS (leaf t) (over (leaf t) oS) p›,‹fs›,x2,x3,none] (by simp! only[wm]);have m2:=λx2 x3=>hg'.meth (f1 (az "other" ["Both"]) (af 0)) (aa (af 1) ah) [‹jS (leaf t) (over (leaf t) oS) p›,‹fs›,x2,x3,none] (by simp! only[uH]);have ln:ao bj 1 1 [leaf t]=.ok (.tup [.str t]):=by
  rw[dm];unfold bj;simp! only[sS,IR]
 have lm:=λfo ρ h=>eW "names" [("Leaf",(ao bj 1 1)),("Over",(aC 11)),("Both",(aG 11))] "Leaf" ["name"] [.str t] (ao bj 1 1) fo ah ρ h (by kernel_rfl) (by decide +kernel);have on:aC 12 [over (leaf t) oS]=.ok (.tup [.str t]):=by
  have q:=lm (f1 (az "glass" ["Over"]) (af 0)) [‹over (leaf t) oS›] (by simp! only[jU]);rw[eY,dm];unfold gA;simp! only[q,ln]
 have m3:=λx2 x3 x4=>eW "names" HX "Leaf" ["name"] [.str t] (ao bj 1 1) (f1 (az "one" ["Both"]) (af 0)) ah [‹jS (leaf t) (over (leaf t) oS) p›,‹fs›,x2,x3,x4] (by simp! only[wm]) (by kernel_rfl) (by decide +kernel);have m4:=λx2 x3 x4=>eW "names" HX "Over" ["glass","step"] [leaf t,oS] (aC 12) (f1 (az "other" ["Both"]) (af 0)) ah [‹jS (leaf t) (over (leaf t) oS) p›,‹fs›,x2,x3,x4] (by simp! only[uH]) (by kernel_rfl) (by decide +kernel);have it:t9 (.str t) (.tup [.str t])=some (.bl true):=by
  have:=tJ t [t]
  have c:[t].contains t=true:=List.contains_iff_mem.mpr (List.mem_singleton.mpr rfl);rw[c]at this;exact this
 have f0:fU [none,some 4] (bV (cw "names" HX (f1 (az "other" ["Both"]) (af 0)) ah)) (gN 0) bX (f2 t9 (af 0) (af 1)) [‹jS (leaf t) (over (leaf t) oS) p›,‹fs›,‹f›,‹f›,‹.tup [.str t]›]=.ok (.lst [.bl true]):=by
  refine fQ (ds:=[.str t]) ?_ (by show 1<=100000;decide) ?_
  ·simp! only[m4,on]
  ·exact ip (λx:Str=>D.str x) (λ_=>.bl true) [t] λx hx=>⟨_,rfl,rfl,by
    rw[List.mem_singleton.mp hx];simp! only[it]⟩
 have ga:qp [.lst [.bl true]]=some (.bl true):=rfl;rw[dH,bB];unfold fT;simp! only[m1,e,m2,e',m3,ln,f0,ga,eL,FU]
noncomputable abbrev CS:ax:=["NoTable","NoField","Twice","NoKind","Nothing","NoKey","TooMany","Blind","Torn"]
noncomputable def Du(c w:Str):Prop:=CS.contains c=true/\∀(fs:ax)(vs:List D),ao de 1 3 [.exc c fs vs]=.ok (.str w)
theorem IB:Du "NoKey" "key":=⟨by decide +kernel,λfs vs=>by kernel_rfl⟩
theorem xB:Du "NoKind" "kind":=⟨by decide +kernel,λfs vs=>by kernel_rfl⟩
theorem uS:Du "NoField" "field":=⟨by decide +kernel,λfs vs=>by kernel_rfl⟩
theorem qi:Du "Twice" "twice":=⟨by decide +kernel,λfs vs=>by kernel_rfl⟩
theorem El:Du "Torn" "torn":=⟨by decide +kernel,λfs vs=>by kernel_rfl⟩
theorem DB:Du "Nothing" "nothing":=⟨by decide +kernel,λfs vs=>by kernel_rfl⟩
theorem AG:Du "Blind" "blind":=⟨by decide +kernel,λfs vs=>by kernel_rfl⟩
theorem vx:Du "NoTable" "table":=⟨by decide +kernel,λfs vs=>by kernel_rfl⟩
section
variable{g fs:D}{c w:Str}{fl:ax}{vs:List D}
theorem Cu{x:Ex}(h:Fm 12 g fs (.error (some x))):ao eM 2 2 [fs,g]=.error (some x):=by
 obtain⟨gf,hg,e⟩:=h;have m:=hg.meth (af 1) (aa (af 0) ah) [‹fs›,‹g›] rfl;rw[bB];unfold eM;simp! only[m,e,eR]
theorem vL(h:Fm 12 g fs (.error (some ⟨c,fl,vs⟩)))(d:Du c w):ao aK 2 4 [fs,g]=.ok (.str w):=by
 have t:=Cu h;have e:=d.2 fl vs;have dc:=d.1;rw[bB];unfold aK;simp! only[ua,t,dc,eR,Gc,e,IP]
theorem y9(h:Fm 12 g fs (.error (some ⟨c,fl,vs⟩)))(d:Du c w):ao cM 2 4 [fs,g]=.ok (.str w):=by
 obtain⟨gf,hg,e0⟩:=h;have m:=hg.meth (af 1) (aa (af 0) ah) [‹fs›,‹g›,‹.str "none"›,none] rfl;have e:=d.2 fl vs;have dc:=d.1;rw[bB];unfold cM;simp! only[ua,m,e0,dc,eR,Gc,e,IP]
theorem pK{d:D}(h:ao eM 2 2 [fs,g]=.ok d):ao aK 2 4 [fs,g]=.ok (.str "none"):=by
 rw[bB];unfold aK;simp! only[ua,h,eR]
theorem xI{f d:D}(h:Fm 12 g fs (.ok f))(t:dg 12 [fs,g]=.ok d):ao eM 2 2 [fs,g]=.ok d:=by
 obtain⟨gf,hg,e⟩:=h;have m:=hg.meth (af 1) (aa (af 0) ah) [‹fs›,‹g›] rfl;rw[bB];unfold eM;simp! only[m,e,eR,t]
theorem sC(m:Nat)(t:Str):dg (m+1) [fs,leaf t]=.ok (leaf t):=by
 have j1:eB ["Over"] ["Leaf","Both"] (leaf t)=some (.bl false):=by kernel_rfl
 have j2:eB ["Both"] ["Leaf","Over"] (leaf t)=some (.bl false):=by kernel_rfl
 rw[ig,bB];unfold pB;simp! only[j1,j2]
theorem nU{m:Nat}{s g' d:D}(h:dg m [fs,g]=.ok g')(hl:bq 12 [fs,g',s]=.ok d):dg (m+1) [fs,over g s]=.ok d:=by
 have j1:eB ["Over"] ["Leaf","Both"] (over g s)=some (.bl true):=by kernel_rfl
 rw[ig,bB];unfold pB;simp! only[j1,jU,sN,h,hl]
end
theorem Dj{xs:List D}(h:xs≠[])(p:pl (.tup xs)=true):gk (.tup xs) (.tup [])=some (.bl false):=by
 have e:gk (.tup xs) (.tup [])=if(pl (.tup xs)&&pl (.tup []))&&(cV 8 (.tup xs)||cV 8 (.tup []))then some (.bl (pyEq (.tup xs) (.tup [])))else none:=rfl
 have p2:pl (.tup [])=true:=rfl;have d2:cV 8 (.tup [])=true:=rfl;have q:pyEq (.tup xs) (.tup [])=false:=by
  rw[pyEq];cases xs with
  |nil=>exact absurd rfl h
  |cons _ _=>unfold iS;rfl
 rw[e,p,p2,d2,RW,q];rfl
theorem wr(i:Int)(h:i.natAbs<10^70):∃x:Str,ao cP 1 1 [.int i]=.ok (.str x):=by
 obtain⟨x,ex⟩:=str_int i h;have t:Ak "str" (.int i)=some (.bl false):=rfl;refine⟨x,?_⟩;rw[dm];unfold cP;simp! only[t,ex]
noncomputable abbrev MP:List (Str×(bD)):=[("Step",(ao eN 1 1)),("Nest",(ao df 1 1)),("Unnest",(ao cv 1 1)),("Part",(ao cX 1 1)),("Fuse",(ao eT 1 1)),("Rename",(ao dD 1 1)),("Sieve",(ao dW 1 1)),("Drop",(ao eQ 1 1)),("Join",(ao eX 1 1))]
theorem Pm(a b c d e:D):ql [a,b,c,d,e]=some (.tup [a,b,c,d,e]):=nr rfl
theorem sO{c:Str}{fs:ax}{vs:List D}{gw:bD}(l:MP.lookup c=some gw)(hm:fs.contains ("words":Str)=false){xs:List D}(e:gw [.obj c fs vs]=.ok (.tup xs))(hx:xs≠[])(p:pl (.tup xs)=true)(j:eB ["Sieve"] ["Step","Nest","Unnest","Part","Fuse","Rename","Drop"] (.obj c fs vs)=some (.bl false))(f:D):ao dJ 2 2 [f,.obj c fs vs]=.ok (.bl false):=by
 have m:=eW "words" MP c fs vs gw (af 1) ah [‹f›,‹.obj c fs vs›] rfl l hm;have q:=Dj hx p;rw[bB];unfold dJ;simp! only[m,e,Pj,q,j];rfl
theorem GL(x:Str)(f:D):ao dJ 2 2 [f,oN 1 x]=.ok (.bl false):=by
 obtain⟨y,ey⟩:=wr 1 (by decide +kernel);refine sO (gw:=ao df 1 1) (by kernel_rfl) (by decide +kernel) (xs:=[.str "nest",.str y,.str x]) ?_ (by simp) rfl (by kernel_rfl) f;rw[dm];unfold df;simp! only[Hw,JB,ey,Fo]
theorem Ho(x:Str)(f:D):ao dJ 2 2 [f,oU x]=.ok (.bl false):=by
 refine sO (gw:=ao cv 1 1) (by kernel_rfl) (by decide +kernel) (xs:=[.str "unnest",.str x]) ?_ (by simp) rfl (by kernel_rfl) f;rw[dm];unfold cv;simp! only[HN,xf]
theorem Ha(a q r:Str)(f:D):ao dJ 2 2 [f,oP a 4 q r]=.ok (.bl false):=by
 obtain⟨y,ey⟩:=wr 4 (by decide +kernel);refine sO (gw:=ao cX 1 1) (by kernel_rfl) (by decide +kernel) (xs:=[.str "part",.str a,.str y,.str q,.str r]) ?_ (by simp) rfl (by kernel_rfl) f;rw[dm];unfold cX;simp! only[Hh,Bu,Di,DR,ey,Pm]
section
variable{fs f s:D}{t:Str}
theorem uO(h:Fm 12 (leaf t) fs (.ok f))(hi:ao dJ 2 2 [f,s]=.ok (.bl false)):bq 12 [fs,leaf t,s]=.ok (over (leaf t) s):=by
 obtain⟨gf,hg,e⟩:=h;have m:=hg.meth (af 1) (aa (af 0) ah) [‹fs›,‹leaf t›,‹s›,none] rfl;have j1:eB ["Over"] ["Leaf","Both"] (leaf t)=some (.bl false):=by kernel_rfl
 have nn:isNon D.non=true:=rfl;have nw:∀(fas:aO)(ρ:av),fNew "Over" ["glass","step"] fas ρ=(fas ρ).bind λas=>if as.length=2 then .ok (.obj "Over" ["glass","step"] as)else un:=λ_ _=>rfl
 rw[dL,fh];unfold fV;simp! only[m,e,hi,j1,nn,nw]
theorem Fa(x y:Str)(f:D):ao iM 3 3 [f,oN 1 x,oU y]=.ok (.lst []):=by
 have a1:eB ["Rename"] ["Step","Nest","Unnest","Part","Fuse","Sieve","Drop"] (oN 1 x)=some (.bl false):=by kernel_rfl
 have a2:eB ["Sieve"] ["Step","Nest","Unnest","Part","Fuse","Rename","Drop"] (oN 1 x)=some (.bl false):=by kernel_rfl
 have a3:eB ["Part"] ["Step","Nest","Unnest","Fuse","Rename","Sieve","Drop"] (oN 1 x)=some (.bl false):=by kernel_rfl
 have a4:eB ["Fuse"] ["Step","Nest","Unnest","Part","Rename","Sieve","Drop"] (oN 1 x)=some (.bl false):=by kernel_rfl
 have a5:eB ["Nest"] ["Step","Unnest","Part","Fuse","Rename","Sieve","Drop"] (oN 1 x)=some (.bl true):=by kernel_rfl
 have a6:eB ["Unnest"] ["Step","Nest","Part","Fuse","Rename","Sieve","Drop"] (oU y)=some (.bl true):=by kernel_rfl
 rw[fh];unfold iM;simp! only[a1,a2,a3,a4,a5,a6,Oq]
theorem Fk{x:Str}{f1:D}(h0:Fm 12 (leaf t) fs (.ok f))(h1:Fm 12 (over (leaf t) (oN 1 x)) fs (.ok f1)):bq 12 [fs,over (leaf t) (oN 1 x),oU x]=.ok (leaf t):=by
 obtain⟨gf,hg,e⟩:=h0;obtain⟨gf',hg',e'⟩:=h1;have m:=hg'.meth (af 1) (aa (af 0) ah) [‹fs›,‹over (leaf t) (oN 1 x)›,‹oU x›,none] rfl;have m0:=hg.meth (TG.f1 (az "glass" ["Over"]) (af 1)) (aa (af 0) ah) [‹fs›,‹over (leaf t) (oN 1 x)›,‹oU x›,‹.non›] (by simp! only[jU]);have j1:eB ["Over"] ["Leaf","Both"] (over (leaf t) (oN 1 x))=some (.bl true):=by kernel_rfl
 have nn:isNon (.lst [])=false:=rfl;have hi:=Ho x f1;have hs:=Fa x x f;rw[dL,fh];unfold fV;simp! only[m,e',hi,j1,m0,e,sN,hs,nn,jU,List.isEmpty_nil,RV]
end
section
variable{n:Nat->Str}{l h:Int}
noncomputable abbrev inn(n:Nat->Str)(l h:Int):D:=frm [fld (n 1,num l (l+11))] (rf n h)
noncomputable abbrev F1(n:Nat->Str)(l h:Int):D:=frm [fld (n 0,num 0 11)] [fld (n 4,.tup [.str "rows",inn n l h,.bl true])]
noncomputable def ps1(n:Nat->Str)(l h:Int):List (Str×D):=[(n 0,num 0 11),(n 4,.tup [.str "rows",inn n l h,.bl true])]
noncomputable def IT(n:Nat->Str)(l h:Int):List (Str×D):=[(n 1,num l (l+11)),(n 2,num (-5) h),(n 3,.tup [.str "word",.tup [.str "",.str "ab"]])]
theorem HR:bF 12 [inn n l h]=.ok (.int 0):=by
 have ko:ao cI 1 1 [inn n l h]=.ok (.tup ((IT n l h).map (·.2))):=kinds_ok [fld (n 1,num l (l+11))] (rf n h) (IT n l h) (by show 1+2<=100;decide) rfl;have f0:fU [none] (bV (fR (ao cI 1 1) (aa (af 0) ah))) (gN 0) (fB (f2 gk (f2 ap (af 0) (fC (.int 0))) (fC (.str "rows")))) (f2 bE (fC (.int 1)) (fR (bF 11) (aa (f2 ap (af 0) (fC (.int 1))) ah))) [‹inn n l h›]=.ok (.lst []):=by
  have e:=xN (ρ:=inB [none] [‹inn n l h›]) (g:=gN 0) (C:=fB (f2 gk (f2 ap (af 0) (fC (.int 0))) (fC (.str "rows")))) (Fe:=f2 bE (fC (.int 1)) (fR (bF 11) (aa (f2 ap (af 0) (fC (.int 1))) ah))) (λp:Str×D=>p.2) (λ_=>false) (λ_=>.non) (IT n l h) λp hp=>⟨_,rfl,by
   have hp:p∈[(n 1,num l (l+11)),(n 2,num (-5) h),(n 3,.tup [.str "word",.tup [.str "",.str "ab"]])]:=hp;simp only[Rz,RB,or_false]at hp;rcases hp with rfl|rfl|rfl
   ·simp! only[sQ]
   ·simp! only[sQ]
   ·simp! only[Gs],λz=>by cases z⟩
  have z:(IT n l h).filter (λ_=>false)=[]:=by simp
  rw[z]at e;exact fQ (ds:=(IT n l h).map (·.2)) (by simp! only[ko]) (by show 3<=100000;decide) e
 have gm0:rN 0 (.lst [])=some (.int 0):=rfl;rw[fY,dm];unfold jj;simp! only[f0,gm0]
theorem DQ(N:Nm n):ao bp 2 4 [oN 1 (n 4),F0 n l h]=.ok (F1 n l h):=by
 have w:=whole 1;have lk:((kf n l).length:Int)=2:=rfl;have c1:cutD (kf n l) none (some 1)=[fld (n 0,num 0 11)]:=rfl;have c2:cutD (kf n l) (some 1) none=[fld (n 1,num l (l+11))]:=rfl;have f0:fU [none] (bV (af 2)) (gN 0) bX (f2 ap (af 0) (fC (.int 0))) [‹oN 1 (n 4)›,‹F0 n l h›,‹.tup [fld (n 0,num 0 11)]›,none]=.ok (.lst [.str (n 0)]):=by
  refine fQ (ds:=[fld (n 0,num 0 11)]) (by simp! only[]) (by show 1<=100000;decide) ?_;exact ip (λp:Str×D=>fld p) (λp=>.str p.1) [(n 0,num 0 11)] λp hp=>⟨_,rfl,rfl,by simp! only[]⟩
 have gi:t9 (.str (n 4)) (.lst [.str (n 0)])=some (.bl false):=by
  have e:t9 (.str (n 4)) (.lst [.str (n 0)])=some (.bl (inD (.str (n 4)) [.str (n 0)])):=rfl;rw[e];unfold inD;rw[QU,R9,QO,pyEq,N.bf (j:=0) (k:=4)]
 have d0:=HR (n:=n) (l:=l) (h:=h);have g3:decide ((3:Int)<=0)=false:=rfl;have b1:(decide ((1:Int)<=1)&&decide ((1:Int)<2))=true:=rfl;rw[bB];unfold bp;simp! only[Hw,JB,w,lk,dC,oy,b1,RV,Sh,c1,f0,gi,c2,xf,d0,g3,Fo,IR]
theorem GP(N:Nm n):ao aW 2 5 [oU (n 4),F1 n l h]=.ok (F0 n l h):=by
 have nd:((ps1 n l h).map (·.1)).Nodup:=by
  show[n 0,n 4].Nodup;have a:=N.ne (j:=0) (k:=4);simp[a]
 have p:=qQ [fld (n 0,num 0 11)] [fld (n 4,.tup [.str "rows",inn n l h,.bl true])] (ps1 n l h) (by show 2<=100;decide) rfl nd 1 (n 4) _ rfl;have k:=rC [fld (n 0,num 0 11)] [fld (n 4,.tup [.str "rows",inn n l h,.bl true])] (ps1 n l h) (by show 2<=100;decide) rfl 1 (n 4) _ rfl;have nmi:ao cJ 1 1 [inn n l h]=.ok (.tup [.str (n 1),.str (n 2),.str (n 3)]):=jd [fld (n 1,num l (l+11))] (rf n h) (IT n l h) (by show 3<=100;decide) rfl;have gi:t9 (.str (n 0)) (.tup [.str (n 1),.str (n 2),.str (n 3)])=some (.bl false):=by
  have e:=tJ (n 0) [n 1,n 2,n 3];have c:[n 1,n 2,n 3].contains (n 0)=false:=by
   have a:=N.ne (j:=0) (k:=1);have b:=N.ne (j:=0) (k:=2);have d:=N.ne (j:=0) (k:=3);simp[a,b,d]
  rw[c]at e;exact e
 have f0:fU [none,some 4] (bV (af 3)) (gN 0) bX (f2 t9 (f2 ap (af 0) (fC (.int 0))) (fR (ao cJ 1 1) (aa (af 1) ah))) [‹oU (n 4)›,‹F1 n l h›,‹.tup [.str "rows",inn n l h,.bl true]›,‹.tup [fld (n 0,num 0 11)]›,‹inn n l h›]=.ok (.lst [.bl false]):=by
  refine fQ (ds:=[fld (n 0,num 0 11)]) (by simp! only[]) (by show 1<=100000;decide) ?_;refine ip (λp:Str×D=>fld p) (λ_=>.bl false) [(n 0,num 0 11)] λp hp=>⟨_,rfl,rfl,?_⟩
  rw[List.mem_singleton.mp hp];simp! only[nmi,gi]
 have ga:qp [.lst [.bl false]]=some (.bl false):=rfl;have ad:=gY [fld (n 0,num 0 11)] [fld (n 1,num l (l+11))] (by show 2<=100000;decide);have G0:((1:Int)==1)=true:=rfl;have d8:decide ((8:Int)<1+1)=false:=rfl;rw[bB];unfold aW;simp! only[HN,p,k,IJ,oy,G0,RV,Sh,f0,ga,d8,ad,xf];rfl
theorem good(N:Nm n):ao aK 2 4 [lK n l h,over (over (over (leaf (n 8)) (oN 1 (n 4))) (oU (n 4))) (oP (n 0) 4 (n 4) (n 5))]=.ok (.str "none"):=by
 have h0:=λm=>oQ (l:=l) (h:=h) N m 8 (.inl rfl);have h1:∀m,Fm (m+1) (over (leaf (n 8)) (oN 1 (n 4))) (lK n l h) (.ok (F1 n l h)):=λm=>by
  have:=kH (h0 m) (Hi 1 (n 4))
  rwa [DQ N]at this
 have h2:Fm 11 (over (over (leaf (n 8)) (oN 1 (n 4))) (oU (n 4))) (lK n l h) (.ok (F0 n l h)):=by
  have:=kH (h1 9) (HB (n 4))
  rwa [GP N]at this
 obtain⟨v,f,ep⟩:=part_of (l:=l) (h:=h) N 4 (by decide) (by decide);have z:((12:Int)%4==0)=true:=rfl;rw[z,if_pos rfl]at ep;have h3:Fm 12 (over (over (over (leaf (n 8)) (oN 1 (n 4))) (oU (n 4))) (oP (n 0) 4 (n 4) (n 5))) (lK n l h) (.ok f):=by
  have:=kH h2 (IL (n 0) 4 (n 4) (n 5))
  rwa [ep]at this
 refine pK (xI h3 (nU (nU (nU (sC 8 _) (uO (h0 12) (GL _ _))) (Fk (h0 12) (h1 11))) (uO (h0 12) (Ha _ _ _ _))))
theorem J5(N:Nm n):ao aK 2 4 [lK n l h,leaf (n 9)]=.ok (.str "none"):=pK (xI (oQ (l:=l) (h:=h) N 12 9 (.inr rfl)) (sC 11 _))
end
theorem tx(f:FX)(g:GF)(k:Ks)(ρ:av):uh f g k ρ=oW (f ρ) k ρ λd=>(rO (g d ρ)).bind k.nx:=nr rfl
theorem NT(i j:Nat)(a b:D)(ρ:av):gT 2 (qt [i,j]) (.tup [a,b]) ρ=some (setV j b (setV i a ρ)):=rfl
theorem Oa(a b c d e f:D)(ρ:av):KW 6 (qt [3,4,5,6,7,8]) (.lst [a,b,c,d,e,f]) ρ=some (setV 8 f (setV 7 e (setV 6 d (setV 5 c (setV 4 b (setV 3 a ρ)))))):=rfl
theorem l1(a:D):n8 [a]=some (.lst [a]):=nr rfl
theorem l2(a b:D):n8 [a,b]=some (.lst [a,b]):=nr rfl
theorem l3(a b c:D):n8 [a,b,c]=some (.lst [a,b,c]):=nr rfl
theorem JE(a b c:D):bE (.lst [a,b]) (.lst [c])=some (.lst [a,b,c]):=nr rfl
theorem Jo(a b c d e:D):bE (.lst [a,b,c]) (.lst [d,e])=some (.lst [a,b,c,d,e]):=nr rfl
theorem Jr(a b c d e f:D):bE (.lst [a,b,c,d,e]) (.lst [f])=some (.lst [a,b,c,d,e,f]):=nr rfl
theorem JU(a b c d e f g:D):bE (.lst [a,b,c,d,e,f]) (.lst [g])=some (.lst [a,b,c,d,e,f,g]):=nr rfl
theorem JD(a b c d e f g h i:D):bE (.lst [a,b,c,d,e,f,g]) (.lst [h,i])=some (.lst [a,b,c,d,e,f,g,h,i]):=nr rfl
theorem N1(fas:aO)(ρ:av):fNew "Nest" ["many","name"] fas ρ=(fas ρ).bind λas=>if as.length=2 then .ok (.obj "Nest" ["many","name"] as)else un:=rfl
theorem N2(fas:aO)(ρ:av):fNew "Unnest" ["name"] fas ρ=(fas ρ).bind λas=>if as.length=1 then .ok (.obj "Unnest" ["name"] as)else un:=rfl
theorem JH(fas:aO)(ρ:av):fNew "Rename" ["old","new"] fas ρ=(fas ρ).bind λas=>if as.length=2 then .ok (.obj "Rename" ["old","new"] as)else un:=rfl
theorem NS(fas:aO)(ρ:av):fNew "Part" ["name","by","quotient","rest"] fas ρ=(fas ρ).bind λas=>if as.length=4 then .ok (.obj "Part" ["name","by","quotient","rest"] as)else un:=rfl
theorem O3(fas:aO)(ρ:av):fNew "Fuse" ["quotient","rest","by","name"] fas ρ=(fas ρ).bind λas=>if as.length=4 then .ok (.obj "Fuse" ["quotient","rest","by","name"] as)else un:=rfl
theorem NY(fas:aO)(ρ:av):fNew "Sieve" ["name","kind"] fas ρ=(fas ρ).bind λas=>if as.length=2 then .ok (.obj "Sieve" ["name","kind"] as)else un:=rfl
theorem O2(fas:aO)(ρ:av):fNew "Drop" ["name","value"] fas ρ=(fas ρ).bind λas=>if as.length=2 then .ok (.obj "Drop" ["name","value"] as)else un:=rfl
theorem HD(fas:aO)(ρ:av):fNew "Leaf" ["name"] fas ρ=(fas ρ).bind λas=>if as.length=1 then .ok (.obj "Leaf" ["name"] as)else un:=rfl
theorem IZ(fas:aO)(ρ:av):fNew "Over" ["glass","step"] fas ρ=(fas ρ).bind λas=>if as.length=2 then .ok (.obj "Over" ["glass","step"] as)else un:=rfl
theorem nwB(fas:aO)(ρ:av):fNew "Both" ["one","other","pair"] fas ρ=(fas ρ).bind λas=>if as.length=3 then .ok (.obj "Both" ["one","other","pair"] as)else un:=rfl
noncomputable abbrev NL(n:Nat->Str):D:=.lst [.str (n 0),.str (n 1),.str (n 2),.str (n 3),.str (n 4),.str (n 5)]
noncomputable abbrev TL(n:Nat->Str):D:=.lst [.str (n 8),.str (n 9),.str (n 10)]
noncomputable def L9(n:Nat->Str)(m b c y v:Int):List D:=[.tup [.str "key",.lst [oN m (n 4),oU (n 4)]],.tup [.str "kind",.lst [oU (n 2),oN 2 (n 2)]],.tup [.str "field",.lst [oR (n 4) (n 5),oR (n 5) (n 4)]],.tup [.str "twice",.lst [oR (n 0) (n 1),oR (n 1) (n 0)]],.tup [.str "twice",.lst [oR (n 0) (n 0),oR (n 0) (n 0)]],.tup [.str "kind",.lst [oF (n 0) (n 1) b (n 4),oP (n 4) b (n 0) (n 1)]],.tup [.str "torn",.lst [oP (n 0) c (n 4) (n 5),oF (n 4) (n 5) c (n 0)]],.tup [.str "nothing",.lst [oV (n 0) (num (-9) y),oV (n 0) (num (-9) 99)]],.tup [.str "blind",.lst [oD (n 0) (.int v),oS]]]
theorem Kh(x:Int):∃m:Int,¬(1<=m/\m<2)/\ap (.lst [.int 0,.int 2,.int (-1),.int 9]) (.int (x%4))=some (.int m):=by
 rcases(show x%4=0\/x%4=1\/x%4=2\/x%4=3 by omega)with z|z|z|z<;>rw[z]
 ·exact⟨0,by decide,rfl⟩
 ·exact⟨2,by decide,rfl⟩
 ·exact⟨-1,by decide,rfl⟩
 ·exact⟨9,by decide,rfl⟩
theorem AU(n:Nat->Str)(x:Int):∃m b c y v:Int,¬(1<=m/\m<2)/\(b=12\/b=24)/\(c=5\/c=7\/c=9)/\y<0/\0<=v/\v<12/\∀(w:Int)(e:D),ap (.lst (L9 n m b c y v)) (.int w)=some e->ao cW 3 12 [.int w,NL n,.int x]=.ok e:=by
 obtain⟨m,hm,em⟩:=Kh x;have g2:=gm 2;have g3:=gm 3;have g4:=gm 4;have g8:=gm 8;have g12:=gm 12;have m12:=λj=>js (i:=12) (j:=j) (by decide) (by decide);have m2:=λj=>js (i:=2) (j:=j) (by decide) (by decide);refine⟨m,12+12*(x%2),5+2*(x%3),-1-x%8,x%12,hm,by omega,by omega,by omega,by omega,by omega,λw e h=>?_⟩;unfold L9 at h;rw[fh];unfold cW;simp! only[tx,Oa,OO,g4,em,N1,N2,JH,NS,O3,NY,O2,l1,l2,xf,Fo,JE,Jo,Jr,JU,JD,g2,g3,g8,g12,m12,m2,h]
theorem Ov(n:Nat->Str)(m b c y v:Int)(k:Nat)(e:D)(h:(L9 n m b c y v)[k]?=some e):ap (.lst (L9 n m b c y v)) (.int (k:Int))=some e:=by rw[Nw,Bq,h]
theorem oZ(g:D)(ss:List D)(hl:ss.length<=100):ao cn 2 3 [g,.lst ss]=.ok (ss.foldl over g):=by
 rw[bB];unfold cn;simp! only[];refine lR (Q:=λz=>z=.ok (ss.foldl over g)) (λk ρ=>ρ=[‹(ss.take k).foldl over g›,‹.lst ss›,none]) ?_ rfl ?_
 ·rintro k d ρ k' hd rfl;have hk:=fw hd;rw[Ri hk]at hd;cases hd;refine⟨_,_,rfl,rfl,?_⟩;simp! only[IZ];rw[List.take_succ_eq_append_getElem hk,List.foldl_append];rfl
 ·rintro ρ rfl;rw[Rt];simp! only[]
section
variable{n:Nat->Str}{l h:Int}
noncomputable def Bad(n:Nat->Str)(l h:Int)(j:Nat)(g:D)(w:Str):Prop:=∃(c:Str)(fl:ax)(vs:List D),Du c w/\∀m,Fm (m+3+j) g (lK n l h) (.error (some ⟨c,fl,vs⟩))
theorem gz(N:Nm n){s1 s2:D}{g1 g2:bD}(h1:So s1 g1)(h2:So s2 g2){c w:Str}{fl:ax}{vs:List D}(d:Du c w)(e:g1 [s1,F0 n l h]=.error (some ⟨c,fl,vs⟩)):Bad n l h 0 (over (over (leaf (n 8)) s1) s2) w:=by
 refine⟨c,fl,vs,d,λm=>?_⟩;have a:=kH (oQ (l:=l) (h:=h) N (m+1) 8 (.inl rfl)) h1;rw[e]at a;exact j3 a h2
theorem zg(N:Nm n)(hl:0<l)(k:Nat)(hk:k<9)(x:Int):∃(w:Str)(s1 s2:D),ao cW 3 12 [.int (k:Int),NL n,.int x]=.ok (.tup [.str w,.lst [s1,s2]])/\Bad n l h 0 (over (over (leaf (n 8)) s1) s2) w:=by
 obtain⟨m,b,c,y,v,hm,hb,hc,hy,v0,v1,ev⟩:=AU n x;have fin:=λ(e:D)(z:(L9 n m b c y v)[k]?=some e)=>ev (k:Int) e (Ov n m b c y v k e z);rcases(show k=0\/k=1\/k=2\/k=3\/k=4\/k=5\/k=6\/k=7\/k=8 by omega)with z|z|z|z|z|z|z|z|z
 ·exact⟨_,_,_,fin _ (by rw[z];rfl),gz N (Hi _ _) (HB _) IB (GW m (n 4) hm)⟩
 ·exact⟨_,_,_,fin _ (by rw[z];rfl),gz N (HB _) (Hi _ _) xB (Jn N)⟩
 ·exact⟨_,_,_,fin _ (by rw[z];rfl),gz N (qG _ _) (qG _ _) uS (CO N (n 5))⟩
 ·exact⟨_,_,_,fin _ (by rw[z];rfl),gz N (qG _ _) (qG _ _) qi (BV N 1 (by decide))⟩
 ·exact⟨_,_,_,fin _ (by rw[z];rfl),gz N (qG _ _) (qG _ _) qi (BV N 0 (by decide))⟩
 ·exact⟨_,_,_,fin _ (by rw[z];rfl),gz N (JA _ _ _ _) (IL _ _ _ _) xB (GX N hl b ‹0› ‹0› (n 4))⟩
 ·obtain⟨vs,f,ep⟩:=part_of (l:=l) (h:=h) N c ‹0› ‹0›;have q:((12:Int)%c==0)=false:=by rcases hc with rfl|rfl|rfl<;>rfl
  rw[q,if_neg Qu]at ep;exact⟨_,_,_,fin _ (by rw[z];rfl),gz N (IL _ _ _ _) (JA _ _ _ _) El ep⟩
 ·exact⟨_,_,_,fin _ (by rw[z];rfl),gz N (HP _ _) (HP _ _) DB (J3 N y hy)⟩
 ·obtain⟨vs,ep⟩:=IE (l:=l) (h:=h) N v v0 v1;exact⟨_,_,_,fin _ (by rw[z];rfl),gz N (Mq _ _) Hq AG ep⟩
theorem yd(N:Nm n)(k:Nat)(hk:k<4):∃(w:Str)(g:D),ao cm 3 5 [.int (k:Int),TL n,NL n]=.ok (.tup [.str w,g])/\Bad n l h 0 g w:=by
 have i0:ap (TL n) (.int 0)=some (.str (n 8)):=rfl;have i2:ap (TL n) (.int 2)=some (.str (n 10)):=rfl;have j4:ap (NL n) (.int 4)=some (.str (n 4)):=rfl;have j5:ap (NL n) (.int 5)=some (.str (n 5)):=rfl;have ch:=oZ (leaf (n 10)) [oR (n 4) (n 5),oR (n 5) (n 4)] (by show 2<=100;decide);have no:=λm=>Dv (l:=l) (h:=h) N m;have le:=λm=>oQ (l:=l) (h:=h) N m 8 (.inl rfl);have st:ao bO 2 2 [oS,F0 n l h]=.ok (F0 n l h):=by
  rw[bB];unfold bO;simp! only[]
 rcases(show k=0\/k=1\/k=2\/k=3 by omega)with z|z|z|z<;>subst z
 ·have e0:(((0:Nat):Int)==0)=true:=rfl;refine⟨"table",_,?_,⟨_,_,_,vx,λm=>j3 (j3 (no (m+1)) (qG (n 4) (n 5))) (qG (n 5) (n 4))⟩⟩;rw[fh];unfold cm;simp! only[HD,JH,i0,i2,j4,j5,e0,l2,ch,xf];rfl
 ·have e0:(((1:Nat):Int)==0)=false:=rfl;have e1:(((1:Nat):Int)==1)=true:=rfl;refine⟨"twice",_,?_,⟨_,_,_,qi,λm=>Dt (p:=.obj "Join" [] []) (le (m+2)) (by have:=kH (le (m+1)) Hq;rwa [st]at this)⟩⟩;rw[fh];unfold cm;simp! only[HD,JH,IZ,nwB,i0,i2,j4,j5,e0,e1,xf]
 ·have e0:(((2:Nat):Int)==0)=false:=rfl;have e1:(((2:Nat):Int)==1)=false:=rfl;have e2:(((2:Nat):Int)==2)=true:=rfl;refine⟨"field",_,?_,⟨_,_,_,uS,λm=>uB (b:=leaf (n 10)) (p:=.obj "Join" [] []) (j3 (by have:=kH (le m) (qG (n 4) (n 5));rwa [CO N]at this) (qG (n 5) (n 4)))⟩⟩;rw[fh];unfold cm;simp! only[HD,JH,IZ,nwB,i0,i2,j4,j5,e0,e1,e2,xf]
 ·have e0:(((3:Nat):Int)==0)=false:=rfl;have e1:(((3:Nat):Int)==1)=false:=rfl;have e2:(((3:Nat):Int)==2)=false:=rfl;refine⟨"table",_,?_,⟨_,_,_,vx,λm=>uB (b:=over (leaf (n 8)) (oR (n 4) (n 5))) (p:=.obj "Join" [] []) (no (m+2))⟩⟩;rw[fh];unfold cm;simp! only[HD,JH,IZ,nwB,i0,i2,j4,j5,e0,e1,e2,xf]
theorem Bad.more{j:Nat}{g s:D}{w:Str}{gv:bD}(b:Bad n l h j g w)(hs:So s gv):Bad n l h (j+1) (over g s) w:=by
 obtain⟨c,fl,vs,d,f⟩:=b;exact⟨c,fl,vs,d,λm=>j3 (f m) hs⟩
theorem Bad.end{j:Nat}{g:D}{w:Str}(b:Bad n l h j g w)(hj:j<=9):ao aK 2 4 [lK n l h,g]=.ok (.str w)/\ao cM 2 4 [lK n l h,g]=.ok (.str w):=by
 obtain⟨c,fl,vs,d,f⟩:=b;have q:=f (9-j);rw[show 9-j+3+j=12 by omega]at q;exact⟨vL q d,y9 q d⟩
end
noncomputable def Ky:bw:=aq (aM 12 (fNew "Over" ["glass","step"] (aa (af 12) (aa (f2 ap (dh (aa (fC (.obj "Step" [] [])) (aa (fNew "Sieve" ["name","kind"] (aa (f2 ap (af 4) (fC (.int 0))) (aa (aT (aa (fC (.str "number")) (aa (qN (fC (.int 5))) (aa (fC (.int 20)) ah)))) ah))) ah))) (f2 cT (f2 gR (af 8) (f2 bE (fC (.int 5000)) (af 13))) (fC (.int 2)))) ah)))) (gM [13] bb)
noncomputable def bT:bw:=gM [1,2,3,7,9,11] (aq (o5 (du (aa (f2 cT (f2 gR (af 8) (fC (.int 1000))) (fC (.int 5))) ah)) (gN 13) Ky) (aq (dy (vC (fB (f2 lg (fR (ao aK 2 4) (aa (af 6) (aa (af 12) ah))) (af 10))) (fB (f2 lg (fR (ao cM 2 4) (aa (af 6) (aa (af 12) ah))) (af 10)))) (aJ (fC (.bl false))) bb) (aq (dy (vC (fB (f2 lg (fR (ao aK 2 4) (aa (af 6) (aa (af 12) ah))) (af 10))) (fB (f2 lg (fR (ao aK 2 4) (aa (af 6) (aa (fNew "Leaf" ["name"] (aa (f2 ap (af 5) (fC (.int 1))) ah)) ah))) (fC (.str "none"))))) (aJ (fC (.bl false))) bb) (gM [7,8,9,10,11,12,13] bb))))
noncomputable def D5:bw:=aq (aM 8 (fR (ao cH 2 3) (aa (af 0) (aa (af 7) ah)))) (aq (aM 9 (f2 cT (af 8) (fC (.int 13)))) (aq (dy (fB (f2 lV (af 9) (fC (.int 9)))) (aq (uh (fR (ao cW 3 12) (aa (af 9) (aa (af 4) (aa (f2 gR (af 8) (fC (.int 13))) ah)))) (gT 2 (qt [10,11]))) (aM 12 (fR (ao cn 2 3) (aa (fNew "Leaf" ["name"] (aa (f2 ap (af 5) (fC (.int 0))) ah)) (aa (af 11) ah))))) (uh (fR (ao cm 3 5) (aa (f2 pT (af 9) (fC (.int 9))) (aa (af 5) (aa (af 4) ah)))) (gT 2 (qt [10,12])))) bT))
noncomputable def DG:bw:=aq (aM 14 (fR (ao cn 2 3) (aa (fNew "Leaf" ["name"] (aa (f2 ap (af 5) (fC (.int 0))) ah)) (aa (dh (aa (fNew "Nest" ["many","name"] (aa (fC (.int 1)) (aa (f2 ap (af 4) (fC (.int 4))) ah))) (aa (fNew "Unnest" ["name"] (aa (f2 ap (af 4) (fC (.int 4))) ah)) (aa (fNew "Part" ["name","by","quotient","rest"] (aa (f2 ap (af 4) (fC (.int 0))) (aa (fC (.int 4)) (aa (f2 ap (af 4) (fC (.int 4))) (aa (f2 ap (af 4) (fC (.int 5))) ah))))) ah)))) ah)))) (aJ (f2 gk (fR (ao aK 2 4) (aa (af 6) (aa (af 14) ah))) (fC (.str "none"))))
theorem Dx:og=aq (aM 1 (f2 cT (f2 gE (fR (ao ce 2 2) (aa (af 0) (aa (fC (.int 0)) ah))) (fC (.int 48271))) (fC (.int 2147483647)))) (aq (aM 2 (fR (ao cH 2 3) (aa (af 0) (aa (fC (.int 1)) ah)))) (aq (aM 3 (fR (ao eK 3 5) (aa (af 1) (aa (f2 bE (fC (.int 1)) (f2 cT (af 2) (fC (.int 8)))) (aa (f2 cT (fR (ao ce 2 2) (aa (af 0) (aa (fC (.int 2)) ah))) (f2 yP (fC (.int 10)) (fC (.int 60)))) ah))))) (aq (aM 4 (fU [none,some 1] (du (aa (fC (.int 6)) ah)) (gN 0) bX (fR (ao aL 2 7) (aa (af 1) (aa (af 0) ah))))) (aq (aM 5 (fU [none,some 1] (du (aa (fC (.int 3)) ah)) (gN 0) bX (fR (ao aL 2 7) (aa (af 1) (aa (f2 bE (fC (.int 8)) (af 0)) ah))))) (aq (aM 6 (gW [(f2 ap (af 5) (fC (.int 0)),af 3),(f2 ap (af 5) (fC (.int 1)),af 3)])) (gM [1,2,3] (aq (o5 (ml (aa (fC (.int 3)) (aa (fL n6 (aa (fL oh (aa (fL fj (aa (af 0) ah)) (aa (fC (.int 5)) ah))) (aa (fC (.int 20)) ah))) ah))) (gN 7) D5) DG))))))):=rfl
section
variable{n:Nat->Str}{l h:Int}
noncomputable abbrev En(ns:D)(n:Nat->Str)(fs:D)(x7 x8 x9 x10 x11 x12 x13:Option S):av:=[‹ns›,none,none,none,‹NL n›,‹TL n›,‹fs›,x7,x8,x9,x10,x11,x12,x13,none]
theorem two(y q:Int)(hq:0<q)(hq':q<10^200)(n:Nat->Str):∃(s:D)(gv:bD),So s gv/\ap (.lst [oS,oV (n 0) (num (-5) 20)]) (.int (y/q%2))=some s:=by
 rcases(show y/q%2=0\/y/q%2=1 by omega)with z|z<;>rw[z]
 ·exact⟨_,_,Hq,rfl⟩
 ·exact⟨_,_,HP _ _,rfl⟩
theorem JY(ns:D)(y:Int)(w:Str){j:Nat}(hj:j<5){g:D}(b:Bad n l h j g w):∃g',Bad n l h (j+1) g' w/\∀k':Ks,Ky k' (En ns n (lK n l h) none (‹.int y›) none (‹.str w›) none (‹g›) (‹.int (j:Int)›))=k'.nx (En ns n (lK n l h) none (‹.int y›) none (‹.str w›) none (‹g'›) none):=by
 obtain⟨s,gv,hs,es⟩:=two y (5000+(j:Int)) ‹0› (by
  have:(10:Int)^200>1000000:=by decide +kernel
  omega) n
 have dq:=ir (i:=y) (j:=5000+(j:Int)) ‹0› (by
  have:(10:Int)^200>1000000:=by decide +kernel
  omega)
 have g2:=gm 2;have j0:ap (NL n) (.int 0)=some (.str (n 0)):=rfl;refine⟨over g s,b.more hs,λk'=>?_⟩;unfold Ky En;generalize lK n l h=fs at *;simp! only[NY,IZ,j0,Fo,l2,dq,g2,es]
theorem C7(N:Nm n)(ns:D)(y:Int)(hy:0<=y)(w:Str){g:D}(b:Bad n l h 0 g w)(x7 x9 x11 x13:Option S)(k':Ks):bT k' (En ns n (lK n l h) x7 (‹.int y›) x9 (‹.str w›) x11 (‹g›) none)=k'.nx (En ns n (lK n l h) none none none none none none none):=by
 have g5:=gm 5;have d1:=gd 1000;obtain⟨q,hq⟩:=Si (show 0<=y/1000%5 by omega);have rn:=kA q ‹0›;have lf9:=J5 (l:=l) (h:=h) N;have j1:ap (TL n) (.int 1)=some (.str (n 9)):=rfl;have t2:=λ{j:Nat}(hj:j<5){g:D}(b:Bad n l h j g w)=>JY ns y w hj b;have be:=λ{j:Nat}{g:D}(b:Bad n l h j g w)(hj:j<=9)=>b.end hj;unfold bT En;generalize Ky=LP at *;generalize lK n l h=fs at *;simp! only[d1,g5,hq,rn];refine lR (Q:=λz=>z=k'.nx [‹ns›,none,none,none,‹NL n›,‹TL n›,‹fs›,none,none,none,none,none,none,none,none]) (λj ρ=>∃g,Bad n l h j g w/\ρ=[‹ns›,none,none,none,‹NL n›,‹TL n›,‹fs›,none,‹.int y›,none,‹.str w›,none,‹g›,none,none]) ?_ ?_ ?_
 ·rintro j d ρ k' hd ⟨g,b,rfl⟩;have hj:=fw hd;rw[dZ]at hj;have hdi:d=.int (j:Int):=by
   rw[nH,QI,Rv hj]at hd;cases hd;simp
  subst hdi;obtain⟨g',b',e⟩:=t2 ‹0› b;exact⟨_,_,rfl,⟨g',b',rfl⟩,e k'⟩
 ·exact⟨g,b,rfl⟩
 ·rintro ρ ⟨g,b,rfl⟩;rw[dZ]at b;obtain⟨e1,e2⟩:=be b ‹0›;simp! only[e1,e2,BEq.rfl,HD,j1,lf9]
theorem turn(N:Nm n)(hl:0<l)(ns:List Int)(j:Nat)(hj:j<=100):∀k':Ks,D5 k' (En (.lst (ns.map .int)) n (lK n l h) (‹.int (j:Int)›) none none none none none none)=k'.nx (En (.lst (ns.map .int)) n (lK n l h) none none none none none none none):=λk'=>by
 obtain⟨y,y0,y1,ey⟩:=xS ns j hj;have g13:=gm 13;have d13:=gd 13;have j0:ap (TL n) (.int 0)=some (.str (n 8)):=rfl;have tl:=λ(w:Str){g:D}(b:Bad n l h 0 g w)(x7 x9 x11 x13:Option S)(k':Ks)=>C7 N (.lst (ns.map .int)) y y0 w b x7 x9 x11 x13 k';unfold D5 En;by_cases hw:y%13<9
 ·obtain⟨k,hk⟩:=Si (show 0<=y%13 by omega);obtain⟨w,s1,s2,es,b⟩:=zg (l:=l) (h:=h) N hl k ‹0› (y/13);have ch:=oZ (leaf (n 8)) [s1,s2] (by show 2<=100;decide);have t:=tl w b (‹.int (j:Int)›) (‹.int (k:Int)›) (‹.lst [s1,s2]›) none k';have dw:decide ((k:Int)<9)=true:=decide_eq_true ‹0›;generalize bT=BB at *;generalize lK n l h=fs at *;simp! only[ey,g13,hk,dw,d13,tx,NT,es,HD,j0,ch];exact t
 ·obtain⟨k,hk⟩:=Si (show 0<=y%13-9 by omega);obtain⟨w,g,es,b⟩:=yd (l:=l) (h:=h) N k ‹0›;have t:=tl w b (‹.int (j:Int)›) (‹.int (y%13)›) none none k';have dw:decide (y%13<9)=false:=decide_eq_false hw;generalize bT=BB at *;generalize lK n l h=fs at *;simp! only[ey,g13,dw,hk,tx,NT,es];exact t
theorem Eh(N:Nm n)(ns:D):DG K0 (En ns n (lK n l h) none none none none none none none)=.ok (.bl true):=by
 have j0:ap (TL n) (.int 0)=some (.str (n 8)):=rfl;have k0:ap (NL n) (.int 0)=some (.str (n 0)):=rfl;have k4:ap (NL n) (.int 4)=some (.str (n 4)):=rfl;have k5:ap (NL n) (.int 5)=some (.str (n 5)):=rfl;have ch:=oZ (leaf (n 8)) [oN 1 (n 4),oU (n 4),oP (n 0) 4 (n 4) (n 5)] (by show 3<=100;decide);have gd':=good (l:=l) (h:=h) N;unfold DG En;generalize lK n l h=fs at *;simp! only[HD,N1,N2,NS,j0,k0,k4,k5,l3,ch,RU,Sd,gd',BEq.rfl]
end
theorem DA{n:Nat->Str}(b:Int)(hn:∀k:Nat,k<24->ao aL 2 7 [.int b,.int (k:Int)]=.ok (.str (n k)))(x h:Int)(x0:1<=x)(x8:x<=8):ao eK 3 5 [.int b,.int x,.int h]=.ok (F0 n (12*x) h):=by
 have a0:ao aL 2 7 [.int b,.int 0]=.ok (.str (n 0)):=hn 0 (by decide);have a1:ao aL 2 7 [.int b,.int 1]=.ok (.str (n 1)):=hn 1 (by decide);have a2:ao aL 2 7 [.int b,.int 2]=.ok (.str (n 2)):=hn 2 (by decide);have a3:ao aL 2 7 [.int b,.int 3]=.ok (.str (n 3)):=hn 3 (by decide);have g9:=gm 9;have m12:=λj=>js (i:=12) (j:=j) (by decide) (by decide);have xm:x%9=x:=by omega
 rw[fh];unfold eK;simp! only[a0,a1,a2,a3,g9,xm,m12,xf,Fo];rfl
theorem Jy{t0 t1:Str}(h:t0≠t1)(f:D):oz [(.str t0,f),(.str t1,f)]=some (qD [(.inr t0,f),(.inr t1,f)]):=by
 unfold oz;have e:jV [(.str t0,f),(.str t1,f)]=some [(.inr t0,f),(.inr t1,f)]:=rfl;rw[e];have z:rS [((.inr t0:Key),f),(.inr t1,f)]=[(.inr t0,f),(.inr t1,f)]:=by
  unfold rS;rw[RU,RU,Sd];have p0:tu [] (.inr t0:Key) f=[(.inr t0,f)]:=rfl;rw[p0];unfold tu;have q:([((.inr t0:Key),f)].any λp=>decide (p.1=.inr t1))=false:=by
   have:¬(Sum.inr t0:Key)=Sum.inr t1:=λz=>h (Sum.inr.inj z)
   rw[QU,R9,decide_eq_false this];rfl
  rw[q];rfl
 show(if decide (2<=15)then some (qD (rS [((.inr t0:Key),f),(.inr t1,f)]))else none)=_;rw[z];rfl
theorem Ed(fs:List (FX×FX))(ρ:av):gW fs ρ=(zE (x6 fs ρ)).bind λps=>rO (oz ps):=rfl
theorem DV(ρ:av):x6 [] ρ=.ok []:=rfl
theorem CM(fk fv:FX)(r:List (FX×FX))(ρ:av):x6 ((fk,fv)::r) ρ=(fk ρ).bind λk=>(fv ρ).bind λv=>(x6 r ρ).bind λps=>.ok ((k,v)::ps):=rfl
theorem J7{α:Type}(a:α):zE (.ok a:R α)=.ok a:=rfl
theorem ve{n:Nat->Str}(b:Int)(hn:∀k:Nat,k<24->ao aL 2 7 [.int b,.int (k:Int)]=.ok (.str (n k)))(x0 x2 x3 x4:Option S)(ρ:av):
  fU [none,some 1] (du (aa (fC (.int 6)) ah)) (gN 0) bX (fR (ao aL 2 7) (aa (af 1) (aa (af 0) ah))) (x0::‹.int b›::ρ)=.ok (NL n)/\
  fU [none,some 1] (du (aa (fC (.int 3)) ah)) (gN 0) bX (fR (ao aL 2 7) (aa (af 1) (aa (f2 bE (fC (.int 8)) (af 0)) ah))) (x0::‹.int b›::ρ)=.ok (TL n):=by
 have r6:kK [.int 6]=some (dF 0 6):=kA 6 (by decide);have r3:kK [.int 3]=some (dF 0 3):=kA 3 (by decide);have ib:inB [none,some 1] (x0::‹.int b›::ρ)=[none,‹.int b›]:=rfl;constructor
 ·refine fQ (ds:=dF 0 6) (by simp! only[r6]) (by rw[dZ];decide) ?_;rw[ib];refine(ip (λk:Nat=>D.int (0+(k:Int))) (λk=>.str (n k)) (List.range 6) λk hk=>⟨_,rfl,rfl,?_⟩).trans rfl;have hk:=List.mem_range.mp hk;have e:ao aL 2 7 [.int b,.int (0+(k:Int))]=.ok (.str (n k)):=by rw[Int.zero_add];exact hn k ‹0›
  simp! only[e]
 ·refine fQ (ds:=dF 0 3) (by simp! only[r3]) (by rw[dZ];decide) ?_;rw[ib];refine(ip (λk:Nat=>D.int (0+(k:Int))) (λk=>.str (n (8+k))) (List.range 3) λk hk=>⟨_,rfl,rfl,?_⟩).trans rfl;have hk:=List.mem_range.mp hk;have e:ao aL 2 7 [.int b,.int (8+(0+(k:Int)))]=.ok (.str (n (8+k))):=by
   have:=hn (8+k) ‹0›
   rw[show((8+k:Nat):Int)=8+(0+(k:Int))by omega]at this;exact this
  simp! only[e]
theorem math(ns:List Int)(hl:ns.length<=63):ao og 1 15 [.lst (ns.map .int)]=.ok (.bl true):=by
 obtain⟨c0,e0⟩:=TD.KU ns 0 (by decide);obtain⟨c2,e2⟩:=TD.KU ns 2 (by decide);obtain⟨x,x0,x1,ex⟩:=xS ns 1 (by decide);have ex:ao cH 2 3 [.lst (ns.map .int),.int 1]=.ok (.int x):=ex;have m48:=oO (i:=c0) (j:=48271) (by decide) (by decide);have gb:=gm 2147483647;have g8:=gm 8;obtain⟨zT,hP,eP⟩:∃zT:Int,0<zT/\yP (.int 10) (.int 60)=some (.int zT):=⟨10^60,by decide +kernel,Hz 10 60 (by decide) (by decide)⟩
 have gP:=λi=>hJ (i:=i) hP;obtain⟨b,hb⟩:∃b,b=c0*48271%2147483647:=⟨_,rfl⟩
 have b0:0<=b:=by rw[hb];exact Sa _ (by decide)
 obtain⟨n,N,hn⟩:=AY b b0;have ef:=DA b hn (1+x%8) (c2%zT) ‹0› ‹0›;have nl:=λx0 ρ=>(ve b hn x0 none none none ρ).1;have tl:=λx0 ρ=>(ve b hn x0 none none none ρ).2;have j0:ap (TL n) (.int 0)=some (.str (n 8)):=rfl;have j1:ap (TL n) (.int 1)=some (.str (n 9)):=rfl;have dp:=Jy (N.ne (j:=8) (k:=9)) (F0 n (12*(1+x%8)) (c2%zT));obtain⟨q,hq,h20⟩:∃q:Nat,(if(20:Int)<(if(5:Int)>(ns.length:Int)then 5 else(ns.length:Int))then 20 else(if(5:Int)>(ns.length:Int)then 5 else(ns.length:Int)))=((3+q:Nat):Int)/\q<=17:=by
  by_cases z:(5:Int)>(ns.length:Int)
  ·rw[if_pos z,if_neg (by decide)];exact⟨2,rfl,by decide⟩
  ·rw[if_neg z];by_cases y:(20:Int)<(ns.length:Int)
   ·rw[if_pos y];exact⟨17,rfl,by decide⟩
   ·rw[if_neg y];exact⟨ns.length-3,by omega,by omega⟩
 have r2:lX [.int 3,.int ((3+q:Nat):Int)]=some (dF 3 q):=by
  have e:lX [.int 3,.int ((3+q:Nat):Int)]=if okR 3&&okR ((3+q:Nat):Int)then some (dF 3 ((((3+q:Nat):Int)-3).toNat))else none:=rfl
  have o1:okR 3=true:=rfl;have o2:okR ((3+q:Nat):Int)=true:=by unfold okR;exact decide_eq_true ⟨by omega,by omega⟩
  rw[e,o1,o2,show(((3+q:Nat):Int)-3).toNat=q by omega];rfl
 have tr:=λj hj=>turn (l:=12*(1+x%8)) (h:=c2%zT) N ‹0› ns j hj;have la:=Eh (l:=12*(1+x%8)) (h:=c2%zT) N (.lst (ns.map .int));have fe:qD [((.inr (n 8):Key),F0 n (12*(1+x%8)) (c2%zT)),(.inr (n 9),F0 n (12*(1+x%8)) (c2%zT))]=lK n (12*(1+x%8)) (c2%zT):=rfl;rw[fe]at dp;rw[dm,Dx];generalize D5=LB at *;generalize DG=LT at *;generalize lK n (12*(1+x%8)) (c2%zT)=fs at *;generalize F0 n (12*(1+x%8)) (c2%zT)=ff at *;rw[hb]at ef nl tl;simp! only[e0,m48,gb,ex,g8,e2,eP,gP,ef,nl,tl,Ed,DV,CM,J7,j0,j1,dp,Qx,hq,r2];refine lR (Q:=λz=>z=.ok (.bl true)) (λ_ ρ=>ρ=[‹.lst (ns.map .int)›,none,none,none,‹NL n›,‹TL n›,‹fs›,none,none,none,none,none,none,none,none]) ?_ rfl ?_
 ·rintro j d ρ k' hd rfl;have hj:=fw hd;rw[dZ]at hj;have hdi:d=.int ((3+j:Nat):Int):=by
   rw[nH,QI,Rv hj]at hd;cases hd;rfl
  subst hdi;exact⟨_,_,rfl,rfl,tr (3+j) ‹0› k'⟩
 ·rintro ρ rfl;exact la
end Tk92
open PySem PySem.W PyProof.Rows
set_option maxRecDepth 100000 in
set_option maxHeartbeats 0 in
theorem PySem.Challenge.cw_twoglass_k92_refused_as_it_is_holds : PySem.Challenge.rw_twoglass_k92_refused_as_it_is.Holds := by
  refine hd92 ?_
  k_fill
  refine Tk92.walk (l := PySem.Challenge.rw_twoglass_k92_refused_as_it_is) rfl rfl (fun w h Y => PySem.W.kIn_of Y) ?F Tk92.math
  case F =>
    intro w mg fa h KX G hmg
    refine' Tk92.all_mk KX G hmg ?ac0 ?ac1 ?ac2 ?ac3 ?ac4 ?ac5 ?ac6 ?ac7 ?ac8 ?ac9 ?ac10 ?ac11 ?a0 ?a0_4 ?a0_5 ?a0_7 ?a0_8 ?i0 ?l0 ?c0 ?k0 ?a1 ?i1 ?l1 ?c1 ?k1 ?a2 ?i2 ?l2 ?c2 ?k2 ?a3 ?i3 ?l3 ?c3 ?k3 ?a4 ?i4 ?l4 ?c4 ?k4 ?a5 ?i5 ?l5 ?c5 ?k5 ?a6 ?i6 ?l6 ?c6 ?k6 ?a7 ?i7 ?l7 ?c7 ?k7 ?a8 ?i8 ?l8 ?c8 ?k8 ?a9 ?i9 ?l9 ?c9 ?k9 ?a10 ?i10 ?l10 ?c10 ?k10 ?a11 ?i11 ?l11 ?c11 ?k11 ?a12 ?i12 ?l12 ?c12 ?k12 ?a13 ?i13 ?l13 ?c13 ?k13 ?a14 ?i14 ?l14 ?c14 ?k14 ?a15 ?i15 ?l15 ?c15 ?k15 ?a16 ?i16 ?l16 ?c16 ?k16 ?a17 ?i17 ?l17 ?c17 ?k17 ?a18 ?i18 ?l18 ?c18 ?k18 ?a19 ?i19 ?l19 ?c19 ?k19 ?a20 ?i20 ?l20 ?c20 ?k20 ?a21 ?i21 ?l21 ?c21 ?k21 ?a22 ?i22 ?l22 ?c22 ?k22 ?a23 ?i23 ?l23 ?c23 ?k23 ?a24 ?i24 ?l24 ?c24 ?k24 ?a25 ?i25 ?l25 ?c25 ?k25 ?a26 ?i26 ?l26 ?c26 ?k26 ?a27 ?i27 ?l27 ?c27 ?k27 ?a28 ?i28 ?l28 ?c28 ?k28 ?a29 ?i29 ?l29 ?c29 ?k29 ?a30 ?i30 ?l30 ?c30 ?k30 ?a31 ?l31 ?c31 ?k31 ?a32 ?i32 ?l32 ?c32 ?k32 ?a33 ?i33 ?l33 ?c33 ?k33 ?a34 ?i34 ?l34 ?c34 ?k34 ?a35 ?i35 ?l35 ?c35 ?k35 ?a36 ?i36 ?l36 ?c36 ?k36 ?a37 ?i37 ?l37 ?c37 ?k37 ?a38 ?i38 ?l38 ?c38 ?k38 ?a39 ?i39 ?l39 ?c39 ?k39 ?a40 ?i40 ?l40 ?c40 ?k40 ?a41 ?i41 ?l41 ?c41 ?k41 ?p0 ?q0 ?r0 ?s0 ?n0_0 ?n0_1 ?m0 ?kp0 ?p1 ?q1 ?r1 ?s1 ?n1_0 ?m1 ?kp1 ?p2 ?q2 ?r2 ?s2 ?n2_0 ?n2_1 ?m2 ?kp2 ?p3 ?q3 ?r3 ?s3 ?n3_0 ?n3_1 ?m3 ?kp3 ?p4 ?q4 ?r4 ?s4 ?n4_0 ?n4_1 ?n4_2 ?n4_3 ?m4 ?kp4 ?p5 ?q5 ?r5 ?s5 ?n5_0 ?n5_1 ?n5_2 ?n5_3 ?m5 ?kp5 ?p6 ?q6 ?r6 ?s6 ?n6_0 ?m6 ?kp6 ?p7 ?q7 ?r7 ?s7 ?n7_0 ?n7_1 ?m7 ?kp7 ?p8 ?q8 ?r8 ?s8 ?o8 ?m8 ?kp8 ?p9 ?q9 ?r9 ?s9 ?n9_0 ?n9_1 ?m9 ?kp9 ?p10 ?q10 ?r10 ?s10 ?n10_0 ?n10_1 ?n10_2 ?m10 ?kp10 ?p11 ?q11 ?r11 ?s11 ?o11 ?m11 ?kp11 ?vsg ?vtk ?vf0 ?vm0 ?vf1 ?vm1 ?vf2 ?vm2 ?vf3 ?vm3 ?vf4 ?vm4 ?vf5 ?vm5 ?vf6 ?vm6 ?vf7 ?vm7 ?vf8 ?vm8 ?vf9 ?vm9 ?vf10 ?vm10 ?vt0 ?vi0 ?yy0_0 ?vs0_8 ?vn0_8 ?vs0_7 ?vn0_7 ?vs0_1 ?vn0_1 ?vs0_4 ?vn0_4 ?vs0_5 ?vn0_5 ?vs0_2 ?vn0_2 ?vs0_3 ?vn0_3 ?vt2 ?vi2 ?yy2_2 ?vs2_8 ?vn2_8 ?vs2_7 ?vn2_7 ?vs2_1 ?vn2_1 ?vs2_4 ?vn2_4 ?vs2_5 ?vn2_5 ?vs2_0 ?vn2_0 ?vs2_3 ?vn2_3 ?vt4 ?vi4 ?yy4_4 ?vs4_8 ?vn4_8 ?vs4_7 ?vn4_7 ?vs4_1 ?vn4_1 ?vs4_5 ?vn4_5 ?vs4_0 ?vn4_0 ?vs4_2 ?vn4_2 ?vs4_3 ?vn4_3 ?vt5 ?vi5 ?yy5_5 ?vs5_8 ?vn5_8 ?vs5_7 ?vn5_7 ?vs5_1 ?vn5_1 ?vs5_4 ?vn5_4 ?vs5_0 ?vn5_0 ?vs5_2 ?vn5_2 ?vs5_3 ?vn5_3 ?vt7 ?vi7 ?yy7_7 ?vs7_8 ?vn7_8 ?vs7_1 ?vn7_1 ?vs7_4 ?vn7_4 ?vs7_5 ?vn7_5 ?vs7_0 ?vn7_0 ?vs7_2 ?vn7_2 ?vs7_3 ?vn7_3 ?vt1 ?vi1 ?yy1_1 ?vs1_8 ?vn1_8 ?vs1_7 ?vn1_7 ?vs1_4 ?vn1_4 ?vs1_5 ?vn1_5 ?vs1_0 ?vn1_0 ?vs1_2 ?vn1_2 ?vs1_3 ?vn1_3 ?vt9 ?vi9 ?yy9_9 ?vs9_6 ?vn9_6 ?vs9_10 ?vn9_10 ?vt10 ?vi10 ?yy10_10 ?vs10_6 ?vn10_6 ?vs10_9 ?vn10_9 ?xa0 ?xa1 ?xa2 ?xa3 ?xa4 ?xa5 ?xa6 ?xa7 ?xa8 ?xa9 ?xa10 ?xa11 ?xa12 ?xa13 ?a42 ?i42 ?l42 ?c42 ?k42 ?xs11 ?xp11 ?xi11 ?xy11 ?a43 ?i43 ?l43 ?c43 ?k43 ?xs6 ?xp6 ?xi6 ?xy6 ?xd11 ?xna11_0 ?xd6 ?xna6_0 ?xna6_1 ?xna6_2 ?xe0 ?xe1 ?xe4 ?xe3 ?xe5 ?xe7 ?xe8 ?xsg ?xtk ?xg1 ?xn1 ?xf1 ?xb1 ?xg0 ?xn0 ?xf0 ?xb0 ?xg5 ?xn5 ?xf5 ?xb5 ?xg4 ?xn4 ?xf4 ?xb4 ?xg3 ?xn3 ?xf3 ?xb3 ?xg8 ?xn8 ?xf8 ?xb8 ?xg7 ?xn7 ?xf7 ?xb7 ?xg6 ?xn6 ?xf6 ?xb6 ?xg11 ?xn11 ?xf11 ?xb11 ?xo0 ?xt0 ?xo1 ?xt1 ?xo2 ?xt2 ?xo3 ?xt3 ?xo4 ?xt4 ?xo5 ?xt5 ?xo6 ?xt6 ?xo7 ?xt7 ?xo8 ?xt8 ?xo9 ?xt9 ?xo10 ?xt10 ?xo11 ?xt11 ?xo12 ?xt12 ?xo13 ?xt13 ?xw13 ?xm13_1 ?xm13_0 ?xm13_5 ?xm13_4 ?xm13_3 ?xm13_8 ?xm13_7 ?xm13_6 ?xm13_11 ?xk0_1 ?vnx0_1 ?xk0_0 ?xk0_5 ?vnx0_5 ?xk0_4 ?vnx0_4 ?xk0_3 ?vnx0_3 ?xk0_8 ?vnx0_8 ?xk0_7 ?vnx0_7 ?xk0_6 ?vnx0_6 ?xk0_11 ?vnx0_11 ?xk1_1 ?xk1_0 ?vnx1_0 ?xk1_5 ?vnx1_5 ?xk1_4 ?vnx1_4 ?xk1_3 ?vnx1_3 ?xk1_8 ?vnx1_8 ?xk1_7 ?vnx1_7 ?xk1_6 ?vnx1_6 ?xk1_11 ?vnx1_11 ?xk2_1 ?vnx2_1 ?xk2_0 ?vnx2_0 ?xk2_5 ?vnx2_5 ?xk2_4 ?vnx2_4 ?xk2_3 ?vnx2_3 ?xk2_8 ?vnx2_8 ?xk2_7 ?vnx2_7 ?xk2_6 ?vnx2_6 ?xk2_11 ?vnx2_11 ?xk3_1 ?vnx3_1 ?xk3_0 ?vnx3_0 ?xk3_5 ?vnx3_5 ?xk3_4 ?vnx3_4 ?xk3_3 ?xk3_8 ?vnx3_8 ?xk3_7 ?vnx3_7 ?xk3_6 ?vnx3_6 ?xk3_11 ?vnx3_11 ?xk4_1 ?vnx4_1 ?xk4_0 ?vnx4_0 ?xk4_5 ?vnx4_5 ?xk4_4 ?xk4_3 ?vnx4_3 ?xk4_8 ?vnx4_8 ?xk4_7 ?vnx4_7 ?xk4_6 ?vnx4_6 ?xk4_11 ?vnx4_11 ?xk5_1 ?vnx5_1 ?xk5_0 ?vnx5_0 ?xk5_5 ?xk5_4 ?vnx5_4 ?xk5_3 ?vnx5_3 ?xk5_8 ?vnx5_8 ?xk5_7 ?vnx5_7 ?xk5_6 ?vnx5_6 ?xk5_11 ?vnx5_11 ?xk6_1 ?vnx6_1 ?xk6_0 ?vnx6_0 ?xk6_5 ?vnx6_5 ?xk6_4 ?vnx6_4 ?xk6_3 ?vnx6_3 ?xk6_8 ?vnx6_8 ?xk6_7 ?vnx6_7 ?xk6_6 ?xk6_11 ?vnx6_11 ?xk7_1 ?vnx7_1 ?xk7_0 ?vnx7_0 ?xk7_5 ?vnx7_5 ?xk7_4 ?vnx7_4 ?xk7_3 ?vnx7_3 ?xk7_8 ?vnx7_8 ?xk7_7 ?xk7_6 ?vnx7_6 ?xk7_11 ?vnx7_11 ?xk8_1 ?vnx8_1 ?xk8_0 ?vnx8_0 ?xk8_5 ?vnx8_5 ?xk8_4 ?vnx8_4 ?xk8_3 ?vnx8_3 ?xk8_8 ?xk8_7 ?vnx8_7 ?xk8_6 ?vnx8_6 ?xk8_11 ?vnx8_11 ?xk9_1 ?vnx9_1 ?xk9_0 ?vnx9_0 ?xk9_5 ?vnx9_5 ?xk9_4 ?vnx9_4 ?xk9_3 ?vnx9_3 ?xk9_8 ?vnx9_8 ?xk9_7 ?vnx9_7 ?xk9_6 ?vnx9_6 ?xk9_11 ?vnx9_11 ?xk10_1 ?vnx10_1 ?xk10_0 ?vnx10_0 ?xk10_5 ?vnx10_5 ?xk10_4 ?vnx10_4 ?xk10_3 ?vnx10_3 ?xk10_8 ?vnx10_8 ?xk10_7 ?vnx10_7 ?xk10_6 ?vnx10_6 ?xk10_11 ?vnx10_11 ?xk11_1 ?vnx11_1 ?xk11_0 ?vnx11_0 ?xk11_5 ?vnx11_5 ?xk11_4 ?vnx11_4 ?xk11_3 ?vnx11_3 ?xk11_8 ?vnx11_8 ?xk11_7 ?vnx11_7 ?xk11_6 ?vnx11_6 ?xk11_11 ?xk12_1 ?vnx12_1 ?xk12_0 ?vnx12_0 ?xk12_5 ?vnx12_5 ?xk12_4 ?vnx12_4 ?xk12_3 ?vnx12_3 ?xk12_8 ?vnx12_8 ?xk12_7 ?vnx12_7 ?xk12_6 ?vnx12_6 ?xk12_11 ?vnx12_11 ?xv_ValueError_1 ?xv_ValueError_0 ?xv_ValueError_5 ?xv_ValueError_4 ?xv_ValueError_3 ?xv_ValueError_8 ?xv_ValueError_7 ?xv_ValueError_6 ?xv_ValueError_11 ?dd0 ?dd1 ?zz ?ke0 ?ke1 ?ke2 ?ke3
    (case ac0 => k_is)
    (case ac1 => k_is)
    (case ac2 => k_is)
    (case ac3 => k_is)
    (case ac4 => k_is)
    (case ac5 => k_is)
    (case ac6 => k_is)
    (case ac7 => k_is)
    (case ac8 => k_is)
    (case ac9 => k_is)
    (case ac10 => k_is)
    (case ac11 => k_is)
    (case a0 => k_is)
    (case a0_4 => k_is)
    (case a0_5 => k_is)
    (case a0_7 => k_is)
    (case a0_8 => k_is)
    (case i0 => k_is)
    (case l0 => delta TX.Lk; k_is)
    (case c0 => k_is)
    (case k0 => k_is)
    (case a1 => k_is)
    (case i1 => k_is)
    (case l1 => delta TX.Lk; k_is)
    (case c1 => k_is)
    (case k1 => k_is)
    (case a2 => k_is)
    (case i2 => k_is)
    (case l2 => delta TX.Lk; k_is)
    (case c2 => k_is)
    (case k2 => k_is)
    (case a3 => k_is)
    (case i3 => k_is)
    (case l3 => delta TX.Lk; k_is)
    (case c3 => k_is)
    (case k3 => k_is)
    (case a4 => k_is)
    (case i4 => k_is)
    (case l4 => delta TX.Lk; k_is)
    (case c4 => k_is)
    (case k4 => k_is)
    (case a5 => k_is)
    (case i5 => k_is)
    (case l5 => delta TX.Lk; k_is)
    (case c5 => k_is)
    (case k5 => k_is)
    (case a6 => k_is)
    (case i6 => k_is)
    (case l6 => delta TX.Lk; k_is)
    (case c6 => k_is)
    (case k6 => k_is)
    (case a7 => k_is)
    (case i7 => k_is)
    (case l7 => delta TX.Lk; k_is)
    (case c7 => k_is)
    (case k7 => k_is)
    (case a8 => k_is)
    (case i8 => k_is)
    (case l8 => delta TX.Lk; k_is)
    (case c8 => k_is)
    (case k8 => k_is)
    (case a9 => k_is)
    (case i9 => k_is)
    (case l9 => delta TX.Lk; k_is)
    (case c9 => k_is)
    (case k9 => k_is)
    (case a10 => k_is)
    (case i10 => k_is)
    (case l10 => delta TX.Lk; k_is)
    (case c10 => k_is)
    (case k10 => k_is)
    (case a11 => k_is)
    (case i11 => k_is)
    (case l11 => delta TX.Lk; k_is)
    (case c11 => k_is)
    (case k11 => k_is)
    (case a12 => k_is)
    (case i12 => k_is)
    (case l12 => delta TX.Lk; k_is)
    (case c12 => k_is)
    (case k12 => k_is)
    (case a13 => k_is)
    (case i13 => k_is)
    (case l13 => delta TX.Lk; k_is)
    (case c13 => k_is)
    (case k13 => k_is)
    (case a14 => k_is)
    (case i14 => k_is)
    (case l14 => delta TX.Lk; k_is)
    (case c14 => k_is)
    (case k14 => k_is)
    (case a15 => k_is)
    (case i15 => k_is)
    (case l15 => delta TX.Lk; k_is)
    (case c15 => k_is)
    (case k15 => k_is)
    (case a16 => k_is)
    (case i16 => k_is)
    (case l16 => delta TX.Lk; k_is)
    (case c16 => k_is)
    (case k16 => k_is)
    (case a17 => k_is)
    (case i17 => k_is)
    (case l17 => delta TX.Lk; k_is)
    (case c17 => k_is)
    (case k17 => k_is)
    (case a18 => k_is)
    (case i18 => k_is)
    (case l18 => delta TX.Lk; k_is)
    (case c18 => k_is)
    (case k18 => k_is)
    (case a19 => k_is)
    (case i19 => k_is)
    (case l19 => delta TX.Lk; k_is)
    (case c19 => k_is)
    (case k19 => k_is)
    (case a20 => k_is)
    (case i20 => k_is)
    (case l20 => delta TX.Lk; k_is)
    (case c20 => k_is)
    (case k20 => k_is)
    (case a21 => k_is)
    (case i21 => k_is)
    (case l21 => delta TX.Lk; k_is)
    (case c21 => k_is)
    (case k21 => k_is)
    (case a22 => k_is)
    (case i22 => k_is)
    (case l22 => delta TX.Lk; k_is)
    (case c22 => k_is)
    (case k22 => k_is)
    (case a23 => k_is)
    (case i23 => k_is)
    (case l23 => delta TX.Lk; k_is)
    (case c23 => k_is)
    (case k23 => k_is)
    (case a24 => k_is)
    (case i24 => k_is)
    (case l24 => delta TX.Lk; k_is)
    (case c24 => k_is)
    (case k24 => k_is)
    (case a25 => k_is)
    (case i25 => k_is)
    (case l25 => delta TX.Lk; k_is)
    (case c25 => k_is)
    (case k25 => k_is)
    (case a26 => k_is)
    (case i26 => k_is)
    (case l26 => delta TX.Lk; k_is)
    (case c26 => k_is)
    (case k26 => k_is)
    (case a27 => k_is)
    (case i27 => k_is)
    (case l27 => delta TX.Lk; k_is)
    (case c27 => k_is)
    (case k27 => k_is)
    (case a28 => k_is)
    (case i28 => k_is)
    (case l28 => delta TX.Lk; k_is)
    (case c28 => k_is)
    (case k28 => k_is)
    (case a29 => k_is)
    (case i29 => k_is)
    (case l29 => delta TX.Lk; k_is)
    (case c29 => k_is)
    (case k29 => k_is)
    (case a30 => k_is)
    (case i30 => k_is)
    (case l30 => delta TX.Lk; k_is)
    (case c30 => k_is)
    (case k30 => k_is)
    (case a31 => k_is)
    (case l31 => delta TX.Lk; k_is)
    (case c31 => k_is)
    (case k31 => k_is)
    (case a32 => k_is)
    (case i32 => k_is)
    (case l32 => delta TX.Lk; k_is)
    (case c32 => k_is)
    (case k32 => k_is)
    (case a33 => k_is)
    (case i33 => k_is)
    (case l33 => delta TX.Lk; k_is)
    (case c33 => k_is)
    (case k33 => k_is)
    (case a34 => k_is)
    (case i34 => k_is)
    (case l34 => delta TX.Lk; k_is)
    (case c34 => k_is)
    (case k34 => k_is)
    (case a35 => k_is)
    (case i35 => k_is)
    (case l35 => delta TX.Lk; k_is)
    (case c35 => k_is)
    (case k35 => k_is)
    (case a36 => k_is)
    (case i36 => k_is)
    (case l36 => delta TX.Lk; k_is)
    (case c36 => k_is)
    (case k36 => k_is)
    (case a37 => k_is)
    (case i37 => k_is)
    (case l37 => delta TX.Lk; k_is)
    (case c37 => k_is)
    (case k37 => k_is)
    (case a38 => k_is)
    (case i38 => k_is)
    (case l38 => delta TX.Lk; k_is)
    (case c38 => k_is)
    (case k38 => k_is)
    (case a39 => k_is)
    (case i39 => k_is)
    (case l39 => delta TX.Lk; k_is)
    (case c39 => k_is)
    (case k39 => k_is)
    (case a40 => k_is)
    (case i40 => k_is)
    (case l40 => delta TX.Lk; k_is)
    (case c40 => k_is)
    (case k40 => k_is)
    (case a41 => k_is)
    (case i41 => k_is)
    (case l41 => delta TX.Lk; k_is)
    (case c41 => k_is)
    (case k41 => k_is)
    (case p0 => k_is)
    (case q0 => k_is)
    (case r0 => k_is)
    (case s0 => k_is)
    (case n0_0 => k_is)
    (case n0_1 => k_is)
    (case m0 => k_is)
    (case kp0 => k_is)
    (case p1 => k_is)
    (case q1 => k_is)
    (case r1 => k_is)
    (case s1 => k_is)
    (case n1_0 => k_is)
    (case m1 => k_is)
    (case kp1 => k_is)
    (case p2 => k_is)
    (case q2 => k_is)
    (case r2 => k_is)
    (case s2 => k_is)
    (case n2_0 => k_is)
    (case n2_1 => k_is)
    (case m2 => k_is)
    (case kp2 => k_is)
    (case p3 => k_is)
    (case q3 => k_is)
    (case r3 => k_is)
    (case s3 => k_is)
    (case n3_0 => k_is)
    (case n3_1 => k_is)
    (case m3 => k_is)
    (case kp3 => k_is)
    (case p4 => k_is)
    (case q4 => k_is)
    (case r4 => k_is)
    (case s4 => k_is)
    (case n4_0 => k_is)
    (case n4_1 => k_is)
    (case n4_2 => k_is)
    (case n4_3 => k_is)
    (case m4 => k_is)
    (case kp4 => k_is)
    (case p5 => k_is)
    (case q5 => k_is)
    (case r5 => k_is)
    (case s5 => k_is)
    (case n5_0 => k_is)
    (case n5_1 => k_is)
    (case n5_2 => k_is)
    (case n5_3 => k_is)
    (case m5 => k_is)
    (case kp5 => k_is)
    (case p6 => k_is)
    (case q6 => k_is)
    (case r6 => k_is)
    (case s6 => k_is)
    (case n6_0 => k_is)
    (case m6 => k_is)
    (case kp6 => k_is)
    (case p7 => k_is)
    (case q7 => k_is)
    (case r7 => k_is)
    (case s7 => k_is)
    (case n7_0 => k_is)
    (case n7_1 => k_is)
    (case m7 => k_is)
    (case kp7 => k_is)
    (case p8 => k_is)
    (case q8 => k_is)
    (case r8 => k_is)
    (case s8 => k_is)
    (case o8 => k_is)
    (case m8 => k_is)
    (case kp8 => k_is)
    (case p9 => k_is)
    (case q9 => k_is)
    (case r9 => k_is)
    (case s9 => k_is)
    (case n9_0 => k_is)
    (case n9_1 => k_is)
    (case m9 => k_is)
    (case kp9 => k_is)
    (case p10 => k_is)
    (case q10 => k_is)
    (case r10 => k_is)
    (case s10 => k_is)
    (case n10_0 => k_is)
    (case n10_1 => k_is)
    (case n10_2 => k_is)
    (case m10 => k_is)
    (case kp10 => k_is)
    (case p11 => k_is)
    (case q11 => k_is)
    (case r11 => k_is)
    (case s11 => k_is)
    (case o11 => k_is)
    (case m11 => k_is)
    (case kp11 => k_is)
    (case vsg => k_is)
    (case vtk => k_is)
    (case vf0 => k_is)
    (case vm0 => k_is)
    (case vf1 => k_is)
    (case vm1 => k_is)
    (case vf2 => k_is)
    (case vm2 => k_is)
    (case vf3 => k_is)
    (case vm3 => k_is)
    (case vf4 => k_is)
    (case vm4 => k_is)
    (case vf5 => k_is)
    (case vm5 => k_is)
    (case vf6 => k_is)
    (case vm6 => k_is)
    (case vf7 => k_is)
    (case vm7 => k_is)
    (case vf8 => k_is)
    (case vm8 => k_is)
    (case vf9 => k_is)
    (case vm9 => k_is)
    (case vf10 => k_is)
    (case vm10 => k_is)
    (case vt0 => k_is)
    (case vi0 => k_is)
    (case yy0_0 => k_is)
    (case vs0_8 => k_is)
    (case vn0_8 => decide)
    (case vs0_7 => k_is)
    (case vn0_7 => decide)
    (case vs0_1 => k_is)
    (case vn0_1 => decide)
    (case vs0_4 => k_is)
    (case vn0_4 => decide)
    (case vs0_5 => k_is)
    (case vn0_5 => decide)
    (case vs0_2 => k_is)
    (case vn0_2 => decide)
    (case vs0_3 => k_is)
    (case vn0_3 => decide)
    (case vt2 => k_is)
    (case vi2 => k_is)
    (case yy2_2 => k_is)
    (case vs2_8 => k_is)
    (case vn2_8 => decide)
    (case vs2_7 => k_is)
    (case vn2_7 => decide)
    (case vs2_1 => k_is)
    (case vn2_1 => decide)
    (case vs2_4 => k_is)
    (case vn2_4 => decide)
    (case vs2_5 => k_is)
    (case vn2_5 => decide)
    (case vs2_0 => k_is)
    (case vn2_0 => decide)
    (case vs2_3 => k_is)
    (case vn2_3 => decide)
    (case vt4 => k_is)
    (case vi4 => k_is)
    (case yy4_4 => k_is)
    (case vs4_8 => k_is)
    (case vn4_8 => decide)
    (case vs4_7 => k_is)
    (case vn4_7 => decide)
    (case vs4_1 => k_is)
    (case vn4_1 => decide)
    (case vs4_5 => k_is)
    (case vn4_5 => decide)
    (case vs4_0 => k_is)
    (case vn4_0 => decide)
    (case vs4_2 => k_is)
    (case vn4_2 => decide)
    (case vs4_3 => k_is)
    (case vn4_3 => decide)
    (case vt5 => k_is)
    (case vi5 => k_is)
    (case yy5_5 => k_is)
    (case vs5_8 => k_is)
    (case vn5_8 => decide)
    (case vs5_7 => k_is)
    (case vn5_7 => decide)
    (case vs5_1 => k_is)
    (case vn5_1 => decide)
    (case vs5_4 => k_is)
    (case vn5_4 => decide)
    (case vs5_0 => k_is)
    (case vn5_0 => decide)
    (case vs5_2 => k_is)
    (case vn5_2 => decide)
    (case vs5_3 => k_is)
    (case vn5_3 => decide)
    (case vt7 => k_is)
    (case vi7 => k_is)
    (case yy7_7 => k_is)
    (case vs7_8 => k_is)
    (case vn7_8 => decide)
    (case vs7_1 => k_is)
    (case vn7_1 => decide)
    (case vs7_4 => k_is)
    (case vn7_4 => decide)
    (case vs7_5 => k_is)
    (case vn7_5 => decide)
    (case vs7_0 => k_is)
    (case vn7_0 => decide)
    (case vs7_2 => k_is)
    (case vn7_2 => decide)
    (case vs7_3 => k_is)
    (case vn7_3 => decide)
    (case vt1 => k_is)
    (case vi1 => k_is)
    (case yy1_1 => k_is)
    (case vs1_8 => k_is)
    (case vn1_8 => decide)
    (case vs1_7 => k_is)
    (case vn1_7 => decide)
    (case vs1_4 => k_is)
    (case vn1_4 => decide)
    (case vs1_5 => k_is)
    (case vn1_5 => decide)
    (case vs1_0 => k_is)
    (case vn1_0 => decide)
    (case vs1_2 => k_is)
    (case vn1_2 => decide)
    (case vs1_3 => k_is)
    (case vn1_3 => decide)
    (case vt9 => k_is)
    (case vi9 => k_is)
    (case yy9_9 => k_is)
    (case vs9_6 => k_is)
    (case vn9_6 => decide)
    (case vs9_10 => k_is)
    (case vn9_10 => decide)
    (case vt10 => k_is)
    (case vi10 => k_is)
    (case yy10_10 => k_is)
    (case vs10_6 => k_is)
    (case vn10_6 => decide)
    (case vs10_9 => k_is)
    (case vn10_9 => decide)
    (case xa0 => k_is)
    (case xa1 => k_is)
    (case xa2 => k_is)
    (case xa3 => k_is)
    (case xa4 => k_is)
    (case xa5 => k_is)
    (case xa6 => k_is)
    (case xa7 => k_is)
    (case xa8 => k_is)
    (case xa9 => k_is)
    (case xa10 => k_is)
    (case xa11 => k_is)
    (case xa12 => k_is)
    (case xa13 => k_is)
    (case a42 => k_is)
    (case i42 => k_is)
    (case l42 => delta TX.Lk; k_is)
    (case c42 => k_is)
    (case k42 => k_is)
    (case xs11 => k_is)
    (case xp11 => k_is)
    (case xi11 => kernel_rfl)
    (case xy11 => kernel_rfl)
    (case a43 => k_is)
    (case i43 => k_is)
    (case l43 => delta TX.Lk; k_is)
    (case c43 => k_is)
    (case k43 => k_is)
    (case xs6 => k_is)
    (case xp6 => k_is)
    (case xi6 => kernel_rfl)
    (case xy6 => kernel_rfl)
    (case xd11 => k_is)
    (case xna11_0 => k_is)
    (case xd6 => k_is)
    (case xna6_0 => k_is)
    (case xna6_1 => k_is)
    (case xna6_2 => k_is)
    (case xe0 => k_exc)
    (case xe1 => k_exc)
    (case xe4 => k_exc)
    (case xe3 => k_exc)
    (case xe5 => k_exc)
    (case xe7 => k_exc)
    (case xe8 => k_exc)
    (case xsg => k_is)
    (case xtk => k_is)
    (case xg1 => k_is)
    (case xn1 => k_is)
    (case xf1 => k_is)
    (case xb1 => k_is)
    (case xg0 => k_is)
    (case xn0 => k_is)
    (case xf0 => k_is)
    (case xb0 => k_is)
    (case xg5 => k_is)
    (case xn5 => k_is)
    (case xf5 => k_is)
    (case xb5 => k_is)
    (case xg4 => k_is)
    (case xn4 => k_is)
    (case xf4 => k_is)
    (case xb4 => k_is)
    (case xg3 => k_is)
    (case xn3 => k_is)
    (case xf3 => k_is)
    (case xb3 => k_is)
    (case xg8 => k_is)
    (case xn8 => k_is)
    (case xf8 => k_is)
    (case xb8 => k_is)
    (case xg7 => k_is)
    (case xn7 => k_is)
    (case xf7 => k_is)
    (case xb7 => k_is)
    (case xg6 => k_is)
    (case xn6 => k_is)
    (case xf6 => k_is)
    (case xb6 => k_is)
    (case xg11 => k_is)
    (case xn11 => k_is)
    (case xf11 => k_is)
    (case xb11 => k_is)
    (case xo0 => k_is)
    (case xt0 => k_is)
    (case xo1 => k_is)
    (case xt1 => k_is)
    (case xo2 => k_is)
    (case xt2 => k_is)
    (case xo3 => k_is)
    (case xt3 => k_is)
    (case xo4 => k_is)
    (case xt4 => k_is)
    (case xo5 => k_is)
    (case xt5 => k_is)
    (case xo6 => k_is)
    (case xt6 => k_is)
    (case xo7 => k_is)
    (case xt7 => k_is)
    (case xo8 => k_is)
    (case xt8 => k_is)
    (case xo9 => k_is)
    (case xt9 => k_is)
    (case xo10 => k_is)
    (case xt10 => k_is)
    (case xo11 => k_is)
    (case xt11 => k_is)
    (case xo12 => k_is)
    (case xt12 => k_is)
    (case xo13 => k_is)
    (case xt13 => k_is)
    (case xw13 => k_is)
    (case xm13_1 => k_is)
    (case xm13_0 => k_is)
    (case xm13_5 => k_is)
    (case xm13_4 => k_is)
    (case xm13_3 => k_is)
    (case xm13_8 => k_is)
    (case xm13_7 => k_is)
    (case xm13_6 => k_is)
    (case xm13_11 => k_is)
    (case xk0_1 => k_is)
    (case vnx0_1 => decide)
    (case xk0_0 => k_is)
    (case xk0_5 => k_is)
    (case vnx0_5 => decide)
    (case xk0_4 => k_is)
    (case vnx0_4 => decide)
    (case xk0_3 => k_is)
    (case vnx0_3 => decide)
    (case xk0_8 => k_is)
    (case vnx0_8 => decide)
    (case xk0_7 => k_is)
    (case vnx0_7 => decide)
    (case xk0_6 => k_is)
    (case vnx0_6 => decide)
    (case xk0_11 => k_is)
    (case vnx0_11 => decide)
    (case xk1_1 => k_is)
    (case xk1_0 => k_is)
    (case vnx1_0 => decide)
    (case xk1_5 => k_is)
    (case vnx1_5 => decide)
    (case xk1_4 => k_is)
    (case vnx1_4 => decide)
    (case xk1_3 => k_is)
    (case vnx1_3 => decide)
    (case xk1_8 => k_is)
    (case vnx1_8 => decide)
    (case xk1_7 => k_is)
    (case vnx1_7 => decide)
    (case xk1_6 => k_is)
    (case vnx1_6 => decide)
    (case xk1_11 => k_is)
    (case vnx1_11 => decide)
    (case xk2_1 => k_is)
    (case vnx2_1 => decide)
    (case xk2_0 => k_is)
    (case vnx2_0 => decide)
    (case xk2_5 => k_is)
    (case vnx2_5 => decide)
    (case xk2_4 => k_is)
    (case vnx2_4 => decide)
    (case xk2_3 => k_is)
    (case vnx2_3 => decide)
    (case xk2_8 => k_is)
    (case vnx2_8 => decide)
    (case xk2_7 => k_is)
    (case vnx2_7 => decide)
    (case xk2_6 => k_is)
    (case vnx2_6 => decide)
    (case xk2_11 => k_is)
    (case vnx2_11 => decide)
    (case xk3_1 => k_is)
    (case vnx3_1 => decide)
    (case xk3_0 => k_is)
    (case vnx3_0 => decide)
    (case xk3_5 => k_is)
    (case vnx3_5 => decide)
    (case xk3_4 => k_is)
    (case vnx3_4 => decide)
    (case xk3_3 => k_is)
    (case xk3_8 => k_is)
    (case vnx3_8 => decide)
    (case xk3_7 => k_is)
    (case vnx3_7 => decide)
    (case xk3_6 => k_is)
    (case vnx3_6 => decide)
    (case xk3_11 => k_is)
    (case vnx3_11 => decide)
    (case xk4_1 => k_is)
    (case vnx4_1 => decide)
    (case xk4_0 => k_is)
    (case vnx4_0 => decide)
    (case xk4_5 => k_is)
    (case vnx4_5 => decide)
    (case xk4_4 => k_is)
    (case xk4_3 => k_is)
    (case vnx4_3 => decide)
    (case xk4_8 => k_is)
    (case vnx4_8 => decide)
    (case xk4_7 => k_is)
    (case vnx4_7 => decide)
    (case xk4_6 => k_is)
    (case vnx4_6 => decide)
    (case xk4_11 => k_is)
    (case vnx4_11 => decide)
    (case xk5_1 => k_is)
    (case vnx5_1 => decide)
    (case xk5_0 => k_is)
    (case vnx5_0 => decide)
    (case xk5_5 => k_is)
    (case xk5_4 => k_is)
    (case vnx5_4 => decide)
    (case xk5_3 => k_is)
    (case vnx5_3 => decide)
    (case xk5_8 => k_is)
    (case vnx5_8 => decide)
    (case xk5_7 => k_is)
    (case vnx5_7 => decide)
    (case xk5_6 => k_is)
    (case vnx5_6 => decide)
    (case xk5_11 => k_is)
    (case vnx5_11 => decide)
    (case xk6_1 => k_is)
    (case vnx6_1 => decide)
    (case xk6_0 => k_is)
    (case vnx6_0 => decide)
    (case xk6_5 => k_is)
    (case vnx6_5 => decide)
    (case xk6_4 => k_is)
    (case vnx6_4 => decide)
    (case xk6_3 => k_is)
    (case vnx6_3 => decide)
    (case xk6_8 => k_is)
    (case vnx6_8 => decide)
    (case xk6_7 => k_is)
    (case vnx6_7 => decide)
    (case xk6_6 => k_is)
    (case xk6_11 => k_is)
    (case vnx6_11 => decide)
    (case xk7_1 => k_is)
    (case vnx7_1 => decide)
    (case xk7_0 => k_is)
    (case vnx7_0 => decide)
    (case xk7_5 => k_is)
    (case vnx7_5 => decide)
    (case xk7_4 => k_is)
    (case vnx7_4 => decide)
    (case xk7_3 => k_is)
    (case vnx7_3 => decide)
    (case xk7_8 => k_is)
    (case vnx7_8 => decide)
    (case xk7_7 => k_is)
    (case xk7_6 => k_is)
    (case vnx7_6 => decide)
    (case xk7_11 => k_is)
    (case vnx7_11 => decide)
    (case xk8_1 => k_is)
    (case vnx8_1 => decide)
    (case xk8_0 => k_is)
    (case vnx8_0 => decide)
    (case xk8_5 => k_is)
    (case vnx8_5 => decide)
    (case xk8_4 => k_is)
    (case vnx8_4 => decide)
    (case xk8_3 => k_is)
    (case vnx8_3 => decide)
    (case xk8_8 => k_is)
    (case xk8_7 => k_is)
    (case vnx8_7 => decide)
    (case xk8_6 => k_is)
    (case vnx8_6 => decide)
    (case xk8_11 => k_is)
    (case vnx8_11 => decide)
    (case xk9_1 => k_is)
    (case vnx9_1 => decide)
    (case xk9_0 => k_is)
    (case vnx9_0 => decide)
    (case xk9_5 => k_is)
    (case vnx9_5 => decide)
    (case xk9_4 => k_is)
    (case vnx9_4 => decide)
    (case xk9_3 => k_is)
    (case vnx9_3 => decide)
    (case xk9_8 => k_is)
    (case vnx9_8 => decide)
    (case xk9_7 => k_is)
    (case vnx9_7 => decide)
    (case xk9_6 => k_is)
    (case vnx9_6 => decide)
    (case xk9_11 => k_is)
    (case vnx9_11 => decide)
    (case xk10_1 => k_is)
    (case vnx10_1 => decide)
    (case xk10_0 => k_is)
    (case vnx10_0 => decide)
    (case xk10_5 => k_is)
    (case vnx10_5 => decide)
    (case xk10_4 => k_is)
    (case vnx10_4 => decide)
    (case xk10_3 => k_is)
    (case vnx10_3 => decide)
    (case xk10_8 => k_is)
    (case vnx10_8 => decide)
    (case xk10_7 => k_is)
    (case vnx10_7 => decide)
    (case xk10_6 => k_is)
    (case vnx10_6 => decide)
    (case xk10_11 => k_is)
    (case vnx10_11 => decide)
    (case xk11_1 => k_is)
    (case vnx11_1 => decide)
    (case xk11_0 => k_is)
    (case vnx11_0 => decide)
    (case xk11_5 => k_is)
    (case vnx11_5 => decide)
    (case xk11_4 => k_is)
    (case vnx11_4 => decide)
    (case xk11_3 => k_is)
    (case vnx11_3 => decide)
    (case xk11_8 => k_is)
    (case vnx11_8 => decide)
    (case xk11_7 => k_is)
    (case vnx11_7 => decide)
    (case xk11_6 => k_is)
    (case vnx11_6 => decide)
    (case xk11_11 => k_is)
    (case xk12_1 => k_is)
    (case vnx12_1 => decide)
    (case xk12_0 => k_is)
    (case vnx12_0 => decide)
    (case xk12_5 => k_is)
    (case vnx12_5 => decide)
    (case xk12_4 => k_is)
    (case vnx12_4 => decide)
    (case xk12_3 => k_is)
    (case vnx12_3 => decide)
    (case xk12_8 => k_is)
    (case vnx12_8 => decide)
    (case xk12_7 => k_is)
    (case vnx12_7 => decide)
    (case xk12_6 => k_is)
    (case vnx12_6 => decide)
    (case xk12_11 => k_is)
    (case vnx12_11 => decide)
    (case xv_ValueError_1 => k_is)
    (case xv_ValueError_0 => k_is)
    (case xv_ValueError_5 => k_is)
    (case xv_ValueError_4 => k_is)
    (case xv_ValueError_3 => k_is)
    (case xv_ValueError_8 => k_is)
    (case xv_ValueError_7 => k_is)
    (case xv_ValueError_6 => k_is)
    (case xv_ValueError_11 => k_is)
    (case ke0 => k_is)
    (case ke1 => k_is)
    (case ke2 => k_is)
    (case ke3 => k_is)
    case dd0|dd1 => (repeat (refine' TX.KDs.mk (TX.KD.mk ?a ?l ?c ?k) ?_;(case a|l|c|k => first|delta TX.Lk;k_is|k_is)));trivial
    case zz => (repeat (refine TX.KZs.mk (by k_is) ?_));trivial

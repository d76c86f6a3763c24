import PyProof.Rows.All
import Wide.All
import OpenK.AllK
import Wide.FinOn
import Lean
import PyProof.EqAt
import PyProof.EqKinds
import PyProof.TupleCall
import PySem.Challenge.RW_gainstream_k75_whole_desk_walked
set_option Elab.async false
namespace PySem.W
open PySem PySem.Spec PySem.Calls PyProof.Rows
def livO : Option Obj → Option Obj
  | some ⟨_, _, .freed, _⟩ => none
  | o => o
noncomputable def pkL (l : List Obj) : List Addr → Nat → List (Option Obj) :=
  @List.rec Obj (fun _ => List Addr → Nat → List (Option Obj)) (fun _ _ => []) (fun o _ r as i =>
    @List.rec Addr (fun _ => List (Option Obj)) [] (fun a as' _ => @Bool.rec (fun _ => List (Option Obj)) (r as (Nat.succ i)) (livO (some o) :: r as' (Nat.succ i)) (Nat.beq a i)) as) l
theorem pkL_nil (as : List Addr) (i : Nat) : pkL [] as i = [] := rfl
theorem pkL_none (o : Obj) (l : List Obj) (i : Nat) : pkL (o :: l) [] i = [] := rfl
theorem pkL_cons (o : Obj) (l : List Obj) (a : Addr) (as : List Addr) (i : Nat) : pkL (o :: l) (a :: as) i = @Bool.rec (fun _ => List (Option Obj)) (pkL l (a :: as) (i + 1)) (livO (some o) :: pkL l as (i + 1)) (Nat.beq a i) := rfl
theorem pkL_at : ∀ (l : List Obj) (as : List Addr) (i : Nat), (pkL l as i).length = as.length → (∀ a ∈ as, i ≤ a) ∧ as.map (fun a => livO l[a - i]?) = pkL l as i
  | [], as, i, h => by
    cases as with
    | nil => exact ⟨fun _ z => (nomatch z), rfl⟩
    | cons a as => rw [pkL_nil] at h; cases h
  | o :: l, [], i, _ => ⟨fun _ z => (nomatch z), rfl⟩
  | o :: l, a :: as, i, h => by
    have up : ∀ bs : List Addr, (∀ b ∈ bs, i + 1 ≤ b) → bs.map (fun b => livO (o :: l)[b - i]?) = bs.map (fun b => livO l[b - (i + 1)]?) := fun bs hb => by
      refine List.map_congr_left fun b z => ?_
      have := hb b z
      show livO (o :: l)[b - i]? = livO l[b - (i + 1)]?
      rw [show b - i = (b - (i + 1)) + 1 by omega]
      rfl
    rw [pkL_cons] at h ⊢
    cases e : Nat.beq a i with
    | true =>
      have ea := Nat.eq_of_beq_eq_true e
      subst ea
      rw [e] at h
      obtain ⟨h1, h2⟩ := pkL_at l as (a + 1) (Nat.succ.inj h)
      refine ⟨fun b z => ?_, ?_⟩
      · rcases List.mem_cons.mp z with rfl | z
        · exact Nat.le_refl _
        · exact Nat.le_of_succ_le (h1 b z)
      · show livO (o :: l)[a - a]? :: as.map _ = livO (some o) :: _
        rw [Nat.sub_self, up as h1, h2]
        rfl
    | false =>
      rw [e] at h
      obtain ⟨h1, h2⟩ := pkL_at l (a :: as) (i + 1) h
      exact ⟨fun b z => Nat.le_of_succ_le (h1 b z), (up _ h1).trans h2⟩
theorem pk_in {K : Frag} {h : Heap} {as : List Addr} (e : as = K.map (·.1)) (x : pkL h.objs.toList as 0 = K.map fun p => some p.2) : K.In h := by
  refine Frag.in_of e ?_
  have z := (pkL_at h.objs.toList as 0 (by rw [x, e, List.length_map, List.length_map])).2
  rw [x] at z
  refine Eq.trans (List.map_congr_left fun a _ => ?_) z
  show livO h.objs[a]? = livO h.objs.toList[a - 0]?
  rw [Nat.sub_zero, Array.getElem?_toList]
noncomputable def pkHook (K : Params → Frag) (as : List Addr) (e : ∀ P, as = (K P).map (·.1)) (us : List Addr) : Hook where
  α := List (Option Obj) × List (Option Obj)
  obs := fun z => (pkL z.heap.objs.toList as 0, us.map z.heap.get?)
  val := fun v => ((K v.params).map fun y => some y.2, us.map fun _ => some (tabObj #[]))
  says := fun v H => (K v.params).In H ∧ ∀ q ∈ us, H.get? q = some (tabObj #[])
  of := fun _ _ y => ⟨pk_in (e _) (Prod.mk.inj y).1, List.map_inj_left.mp (Prod.mk.inj y).2⟩
  keeps := fun v H H' y s => ⟨InK.keeps v H H' y.1 s, fun q hq => s _ _ (y.2 q hq)⟩
theorem pk_in_of {K : Params → Frag} {as us : List Addr} {e : ∀ P, as = (K P).map (·.1)} {v : World} {H : Heap} (Y : (pkHook K as e us).says v H) : (K v.params).In H := Y.1
end PySem.W
open Lean in
local macro_rules | `(tactic| o_head $H) => do
  let s := if H.raw.isOfKind ``Lean.Parser.Term.paren then H.raw[1] else H.raw
  if s.isOfKind ``Lean.Parser.Term.app && s[0].getId.eraseMacroScopes == `kmHook then
    let n : TSyntax `term := ⟨s.setArg 0 (mkIdent `PySem.W.pkHook)⟩
    `(tactic| o_head ($n))
  else Macro.throwUnsupported
namespace PySem.W.Fast
def tw10001599925536743787:=()
def tw10063080538452421445:=()
def tw10124783113009865195:=()
def tw10171301707856483918:=()
def tw10174282850300124370:=()
def tw10186990301029226698:=()
def tw10231919928550533995:=()
def tw10311008349629089340:=()
def tw10336929873517110231:=()
def tw10408963818173230718:=()
def tw10437541450340645729:=()
def tw10448530011840931214:=()
def tw10493383370394065395:=()
def tw10598068902122096834:=()
def tw10640358088118410747:=()
def tw10706236782417414954:=()
def tw10710664186232365825:=()
def tw10739778387686224638:=()
def tw10802284776181970408:=()
def tw10842603212173501409:=()
def tw1100264866392202758:=()
def tw11080567109837851990:=()
def tw11142088919677592301:=()
def tw11142872322386626375:=()
def tw1115482605672787059:=()
def tw11163934369486127531:=()
def tw11199189222524489135:=()
def tw11247209231731146421:=()
def tw1125128655402616657:=()
def tw11284365098998939195:=()
def tw1128763723246466600:=()
def tw11324498282525944850:=()
def tw11357009222821302309:=()
def tw11384759710458238046:=()
def tw11387105893691649387:=()
def tw11389111540713089492:=()
def tw1141826273690168668:=()
def tw11469572298411311077:=()
def tw11525220404784764198:=()
def tw1154275842143799358:=()
def tw11557138644184779353:=()
def tw11579611761227364989:=()
def tw1165874757677918441:=()
def tw11726947874698547929:=()
def tw11731286599272985827:=()
def tw11817188048601616104:=()
def tw11819270173342961278:=()
def tw11831018059122766047:=()
def tw11843444627411824645:=()
def tw11861064608521052753:=()
def tw11866226396161730441:=()
def tw11895090681173384384:=()
def tw11940855566187594801:=()
def tw11980553734288585976:=()
def tw11998429016743264564:=()
def tw12053606384052271031:=()
def tw12058043321005920435:=()
def tw12058238788954319895:=()
def tw12058879265236452565:=()
def tw12079177485435908434:=()
def tw12082626417450425112:=()
def tw1213409275278851428:=()
def tw12182199768062989755:=()
def tw12227429576557110388:=()
def tw12245321764096818013:=()
def tw12252107293761743911:=()
def tw12353354848378219295:=()
def tw12371722373875254406:=()
def tw12389255857292454633:=()
def tw12430349775418570153:=()
def tw12581660540000975816:=()
def tw126032129076896453:=()
def tw12605933581888058473:=()
def tw12609380183324370025:=()
def tw1263113679518504037:=()
def tw1270599694631897633:=()
def tw12729705423447317405:=()
def tw12741905030472987318:=()
def tw12745732504979619303:=()
def tw1284829141610254756:=()
def tw12859890704329084961:=()
def tw12864583720418039956:=()
def tw12915849486367144916:=()
def tw12923911232944954327:=()
def tw13028587095679324092:=()
def tw13066512891883237444:=()
def tw13131610497909666131:=()
def tw13221611838580658575:=()
def tw13247238733201065519:=()
def tw13316109300592219552:=()
def tw13338585296794435064:=()
def tw13473285549934806432:=()
def tw13530375795172791420:=()
def tw13609368820701747974:=()
def tw13723002815243631367:=()
def tw13730510789402906082:=()
def tw13754654753394728354:=()
def tw1375913236875571329:=()
def tw13790398550915709542:=()
def tw13814603873319802283:=()
def tw13916752145586713650:=()
def tw13928261717319751199:=()
def tw13932303652567148796:=()
def tw13940227824993143880:=()
def tw14001171477616502871:=()
def tw14148221017373936994:=()
def tw14157451425674068130:=()
def tw14184663332014317881:=()
def tw14195446133181831025:=()
def tw14218124163701206444:=()
def tw14258220599433716536:=()
def tw14287887356783426923:=()
def tw14436299848762407855:=()
def tw14469387184217860334:=()
def tw14477479665970267301:=()
def tw14587297919574432784:=()
def tw14635952509932993372:=()
def tw14644083896099711240:=()
def tw14666771964031787473:=()
def tw14677441193863660609:=()
def tw14683815844569525536:=()
def tw14742197555025631296:=()
def tw14759855111629915123:=()
def tw14770449040833089865:=()
def tw14815078547127350243:=()
def tw14815643243459101351:=()
def tw14832806244637359110:=()
def tw14931227582545154557:=()
def tw14963868002393130711:=()
def tw14981617292444131910:=()
def tw14984434921191172439:=()
def tw15104299933180925537:=()
def tw15167584514615689458:=()
def tw15173572325346046930:=()
def tw15196355860195280149:=()
def tw1521449949918018512:=()
def tw15255572937727510905:=()
def tw15267019613494522826:=()
def tw15305481909342443083:=()
def tw15311478080610766575:=()
def tw15363042834611571587:=()
def tw15402280762906789922:=()
def tw15439532543476399113:=()
def tw15478141639598738549:=()
def tw15526730739653568825:=()
def tw15550572871397917706:=()
def tw15559387724722210256:=()
def tw15561802426236546311:=()
def tw15689612905044579812:=()
def tw15703554296239111897:=()
def tw15763794919129901490:=()
def tw1584977520323289733:=()
def tw15887360392172141653:=()
def tw15900968419319006646:=()
def tw159036925299784044:=()
def tw15919471389366505089:=()
def tw15919733024849473653:=()
def tw15938967814110309109:=()
def tw15981340755745038454:=()
def tw1598437765125468369:=()
def tw16135123206265457401:=()
def tw16209630561400537217:=()
def tw16250764288265633662:=()
def tw16257519341719221517:=()
def tw16358617888563859238:=()
def tw16378742332602850715:=()
def tw1639429222640979147:=()
def tw16401862833177211381:=()
def tw16511513162627250291:=()
def tw16516300953565812403:=()
def tw16541366957273424069:=()
def tw16553988053547436191:=()
def tw165601724125474021:=()
def tw16636620491964159693:=()
def tw1667636865147950940:=()
def tw16772551527865108752:=()
def tw16820447758008708178:=()
def tw16881355407930284690:=()
def tw16956584443185119464:=()
def tw16967601021962438910:=()
def tw16979437804620951019:=()
def tw16992954168280294456:=()
def tw17035963875820361429:=()
def tw17053774666331303023:=()
def tw1707573569024743167:=()
def tw17090362178382943902:=()
def tw17137739110055934239:=()
def tw17150331073859812624:=()
def tw17167447363161931405:=()
def tw17188930902517856790:=()
def tw17322290501275678640:=()
def tw17416933286593656137:=()
def tw17442726276198044442:=()
def tw17444375140193888141:=()
def tw17486368923959796310:=()
def tw17491997574606999231:=()
def tw17492228150045615474:=()
def tw17496959083732118472:=()
def tw17551556617933323777:=()
def tw17600585949562401402:=()
def tw17618975425031330542:=()
def tw17668589253953506682:=()
def tw17697234171233248715:=()
def tw17784589082340353291:=()
def tw17850607671802505349:=()
def tw17909778495972084892:=()
def tw17957643435516714383:=()
def tw18069370377941167828:=()
def tw18078346024720200932:=()
def tw18230234206594961732:=()
def tw18231444249402453582:=()
def tw18233764042037935109:=()
def tw18252080404199057576:=()
def tw18256550912857966747:=()
def tw18275867098329817546:=()
def tw18278510447257195539:=()
def tw18369505814405474115:=()
def tw18416304584437035648:=()
def tw1879357011484184697:=()
def tw1882045982292579753:=()
def tw1883997387048411623:=()
def tw1945000756064870889:=()
def tw1956322373829076878:=()
def tw1961816991367988595:=()
def tw1988653973682947547:=()
def tw1999630082056633124:=()
def tw2015455684643930121:=()
def tw2063817219039765103:=()
def tw2081494388869780373:=()
def tw2134581763953871320:=()
def tw216258690301056659:=()
def tw2185430627756361468:=()
def tw2207698360689848885:=()
def tw2333606240240852990:=()
def tw2339456326448893766:=()
def tw2368906714970145963:=()
def tw2413757135270454300:=()
def tw245034454472849581:=()
def tw246264110166843022:=()
def tw2582376028443289381:=()
def tw2641633914142327237:=()
def tw2668822265759886582:=()
def tw2720531067245888176:=()
def tw2733464981478117910:=()
def tw2854796589905427463:=()
def tw2889788091015824467:=()
def tw2894814127240415445:=()
def tw2920532945764327775:=()
def tw2951800020478103473:=()
def tw2954955687358694013:=()
def tw2969581379739438897:=()
def tw2970233863129662966:=()
def tw2976315176510249909:=()
def tw2986747803952116918:=()
def tw3049789259941268485:=()
def tw3050234708457144039:=()
def tw3100603973429913709:=()
def tw3122758340961134301:=()
def tw3159491508867999543:=()
def tw3161554105796163442:=()
def tw3219585812626274460:=()
def tw3234829565967288749:=()
def tw3246341663747752301:=()
def tw3276489194094149151:=()
def tw3340301464093160806:=()
def tw3343454608536107648:=()
def tw3351198486296105889:=()
def tw3358583335455154654:=()
def tw3410632510255043735:=()
def tw3423903882810411175:=()
def tw343650973600568568:=()
def tw3452530192054247562:=()
def tw3655847244892086088:=()
def tw3732503374807287426:=()
def tw3797358415139136714:=()
def tw3797926804222660665:=()
def tw3899364513025288222:=()
def tw391282515800501428:=()
def tw3942245766350734344:=()
def tw4036301528064499401:=()
def tw4087262488825153393:=()
def tw4172957651910745530:=()
def tw4178295516617934201:=()
def tw4261926725521943872:=()
def tw4290866341740652078:=()
def tw431185831895760375:=()
def tw4371852151987023470:=()
def tw4379019338151551033:=()
def tw4415871209030442997:=()
def tw4471269260199801873:=()
def tw4502809972910278766:=()
def tw4516760680326350728:=()
def tw4561594744405879159:=()
def tw4566640716992871234:=()
def tw4628621132063933010:=()
def tw4671520947681014384:=()
def tw4692449454566626369:=()
def tw4695730519265469792:=()
def tw4855379611568484910:=()
def tw4873837567073216732:=()
def tw4881406117017710391:=()
def tw4937305034242106071:=()
def tw4940836922075825116:=()
def tw4952818950134406241:=()
def tw4993594508888886710:=()
def tw502800010568403900:=()
def tw5071724831225453419:=()
def tw5077404227210303394:=()
def tw5130960894391587645:=()
def tw5137095308540679634:=()
def tw5138617524115809178:=()
def tw5149988744836806041:=()
def tw5154156275397676397:=()
def tw5155748295973080209:=()
def tw5161477869443693119:=()
def tw5168047392335514768:=()
def tw5239771157541794872:=()
def tw5258585762065108070:=()
def tw5277248358128665758:=()
def tw5293237497276840214:=()
def tw529413887717812436:=()
def tw5300267352289430192:=()
def tw5327420899362178591:=()
def tw5376404740322499604:=()
def tw5389996732164270009:=()
def tw5427499289538107057:=()
def tw5434564023404335577:=()
def tw5500872258735481797:=()
def tw5502566648773467205:=()
def tw5662328159683593198:=()
def tw5748649488012030802:=()
def tw5750376253644912220:=()
def tw5775096212242826473:=()
def tw5857435390298003256:=()
def tw5864031140859098533:=()
def tw5866047378234375765:=()
def tw5873410823223095543:=()
def tw590373843144950857:=()
def tw6033140111988243506:=()
def tw6055454635220823423:=()
def tw611116598982560619:=()
def tw6150752745936465829:=()
def tw6178319795791006806:=()
def tw6196145131114114226:=()
def tw6221996461101830138:=()
def tw6284955062726068004:=()
def tw63255896006592291:=()
def tw6414278736457278939:=()
def tw6464617899245831815:=()
def tw6468896410185585583:=()
def tw6594359183503208898:=()
def tw6612545557364161652:=()
def tw6616317900137629810:=()
def tw6734299263299949064:=()
def tw683812987768774782:=()
def tw6849317195592782671:=()
def tw6896068929649656118:=()
def tw6904372740338024708:=()
def tw69359722327196422:=()
def tw69735961458385628:=()
def tw6986879791503896476:=()
def tw7030400986653462795:=()
def tw7037790148568321966:=()
def tw7060990416607127153:=()
def tw7075935443375292949:=()
def tw719107346825859617:=()
def tw7211655141110122890:=()
def tw7240141703956344023:=()
def tw7256087751005561060:=()
def tw7321016573773663905:=()
def tw7405365096687195048:=()
def tw7429877580882586573:=()
def tw744185574966202204:=()
def tw7468283302110261386:=()
def tw7564764456337730534:=()
def tw7629929293433353174:=()
def tw7638591341722919652:=()
def tw7661780497598627980:=()
def tw7777406219944116614:=()
def tw7793849282578808430:=()
def tw7864935524477330810:=()
def tw7870834222479829477:=()
def tw7886686098274644275:=()
def tw7913748874754896498:=()
def tw7933265033283811232:=()
def tw7997854324989150396:=()
def tw8060704543834999838:=()
def tw8076824546444860073:=()
def tw8193396112104698370:=()
def tw8215694101239164903:=()
def tw8284453317621995467:=()
def tw8319560350825769645:=()
def tw8389900637957856573:=()
def tw8408524554864835845:=()
def tw842511471560814955:=()
def tw8439025596743224723:=()
def tw8449062479476271150:=()
def tw8503626324007585986:=()
def tw8511464640805737188:=()
def tw8516428221649084677:=()
def tw8564688777946541986:=()
def tw8585026355865740676:=()
def tw8591949900802986809:=()
def tw8698949722718124436:=()
def tw8709425725641823046:=()
def tw8785323014863069050:=()
def tw8885112389964243561:=()
def tw8897363159836663866:=()
def tw8933155272825954625:=()
def tw8936030312536070138:=()
def tw8947811983712277472:=()
def tw8961952484411821369:=()
def tw9020871543740165318:=()
def tw9037621627674106801:=()
def tw9072915140477364333:=()
def tw9205931799355196603:=()
def tw9212393024004108062:=()
def tw922005238926573763:=()
def tw9233414973775849863:=()
def tw9240825660459203853:=()
def tw9250331327911154666:=()
def tw9258233521568826624:=()
def tw9272308970376806951:=()
def tw9304865795832922121:=()
def tw9411846402933876601:=()
def tw9415476968378506385:=()
def tw9462944986081753327:=()
def tw9467869688498908950:=()
def tw9501062669236202840:=()
def tw9520971737032705153:=()
def tw9563963621046462086:=()
def tw959934065030577542:=()
def tw9623639059969315674:=()
def tw9646207563609899691:=()
def tw9804879317581822792:=()
def tw9851896704261983220:=()
def tw9889983711060806806:=()
def tw9897462747769585079:=()
def tw9907813941208598389:=()
def tw9946235309235700568:=()
end PySem.W.Fast
section
open PySem PySem.W PyProof.Rows
set_option maxRecDepth 100000
set_option maxHeartbeats 0
open_top PySem.Challenge.hdk75 for PySem.Challenge.rw_gainstream_k75_whole_desk_walked
end
set_option compiler.extract_closed false
local macro_rules|`(#[$xs,*])=>do
 let mut a:=(.empty:Array Lean.Term)
 for x in xs.getElems do
  match x.raw.isNatLit? with
  |some 9=>a:=(a.push (←`(_))).push (←`(rfl))
  |some 8=>a:=a.push (←`(rfl))
  |some 7=>a:=a++(List.toArray [←`(_),←`(_),←`(rfl),←`(rfl)])
  |some 5=>a:=a.push (←`(by decide))
  |some 4=>a:=a.push (←`(by lia))
  |_=>a:=a.push x
 `(⟨$a,*⟩)
open Lean in
local macro_rules|`(tactic|let $p:term:=$e:term)=>do
 let rec go:Nat→Term→MacroM (TSyntax `rcasesPat)
 |0,_=>Macro.throwUnsupported
 |n+1,p=>do
  if p.raw.isNatLit?==some 8 then return ←`(rcasesPat|$(mkIdent `rfl):ident)
  match p with
  |`(#[$xs,*])=>
   let q←xs.getElems.mapM (go n)
   `(rcasesPat|⟨$[$q:rcasesPat],*⟩)
  |`(_)=>`(rcasesPat|_)
  |`($i:ident)=>`(rcasesPat|$i:ident)
  |_=>Macro.throwUnsupported
 let q←go 99 p
 `(tactic|obtain $q:rcasesPat:=$e)
local macro_rules(kind:=Lean.Parser.Command.declaration)|s=>do
 let d:=s.getArg 1
 let k:=d.getKind
 let m:=(s.getArg 0).getArgs
 let z:=m.back?.any (Lean.Syntax.getNumArgs . ==0)
 let q:=s.setArg 0 (Lean.Syntax.getArg (←`(command|noncomputable def x:=0)) 0)
 if m.pop.all (Lean.Syntax.getNumArgs . ==0)then
  if k==``Lean.Parser.Command.definition&&z then
   let g:=d.getArg 2
   return s.setArg 1 (.node .none ``Lean.Parser.Command.theorem (List.toArray [.atom .none "theorem",d.getArg 1,.node .none ``Lean.Parser.Command.declSig (List.toArray [g.getArg 0,(g.getArg 1).getArg 0]),d.getArg 3]))
  if k==``Lean.Parser.Command.abbrev then return if z then q.setArg 1 ((d.setArg 0 (.atom .none "def")).setKind ``Lean.Parser.Command.definition)else q
 Lean.Macro.throwUnsupported
local macro_rules|`(())=>`(by lia)
def zL0:0<=PySem.sizeLine:=by decide
def zL1:1<=PySem.sizeLine:=by decide
def zL2:2<=PySem.sizeLine:=by decide
def zL3:3<=PySem.sizeLine:=by decide
def zL4:4<=PySem.sizeLine:=by decide
def zL5:5<=PySem.sizeLine:=by decide
def zL7:7<=PySem.sizeLine:=by decide
def zL12:12<=PySem.sizeLine:=by decide
def zI12:(0:Int)<12:=by decide
def zI13:(0:Int)<13:=by decide
def zI1999999999:(0:Int)<1999999999:=by decide
def zI2:(0:Int)<2:=by decide
def zI2147483647:(0:Int)<2147483647:=by decide
def zI3:(0:Int)<3:=by decide
def zI4:(0:Int)<4:=by decide
def zI5:(0:Int)<5:=by decide
def zI60:(0:Int)<60:=by decide
def zI7:(0:Int)<7:=by decide
def zI9:(0:Int)<9:=by decide
def zI998244353:(0:Int)<998244353:=by decide
def zI99999999:(0:Int)<99999999:=by decide
abbrev jD:=@PySem.wpAny_bind
abbrev jE.{u0,u1}:=@List.length_map.{u0,u1}
abbrev jF.{u0}:=@List.getElem?_eq_getElem.{u0}
abbrev jG:=@PySem.Heap.get?_push_of_some
abbrev jH.{u0}:=@List.getElem?_eq_some_iff.{u0}
abbrev jI:=@decide_eq_false
abbrev jJ:=@Nat.le_refl
abbrev jK:=@Nat.le_trans
abbrev jL:=@decide_eq_true
abbrev jM.{u0,u1}:=@List.getElem?_map.{u0,u1}
abbrev jN:=@PySem.wpAny_pure
abbrev jO:=@PySem.Heap.lt_size
abbrev jP.{u0}:=@List.mem_of_getElem?.{u0}
abbrev jQ:=@PyProof.Rows.boot_isinstance
abbrev jR.{u0}:=@List.mem_cons.{u0}
abbrev jS.{u0}:=@List.mem_append_right.{u0}
abbrev jT:=@PySem.Heap.get?_push_size
abbrev jU.{u0}:=@List.length_cons.{u0}
abbrev jV.{u0}:=@List.not_mem_nil.{u0}
abbrev jW.{u0}:=@List.mem_cons_of_mem.{u0}
abbrev jX.{u0}:=@List.mem_cons_self.{u0}
abbrev jY.{u0,u1}:=@List.map_append.{u0,u1}
abbrev jZ:=@Nat.zero_le
abbrev j0.{u0}:=@List.size_toArray.{u0}
abbrev j1:=@PySem.sizeLine_eq
abbrev j2:=@Bool.false_ne_true
abbrev j3.{u0}:=@List.getD_eq_getElem?_getD.{u0}
abbrev j4.{u0}:=@List.take_add_one.{u0}
abbrev j5.{u0}:=@List.length_append.{u0}
abbrev j6.{u0}:=@Option.toList_some.{u0}
abbrev j7:=@Nat.lt_of_lt_of_le
abbrev j8:=@Nat.lt_of_le_of_lt
abbrev j9.{u0,u1}:=@List.mem_map.{u0,u1}
abbrev kc.{u0}:=@List.length_take.{u0}
abbrev ke.{u0}:=@List.take_length.{u0}
abbrev kf:=@PySem.F.slot_list_append
abbrev kg:=@PySem.F.type_list_append
abbrev kh.{u0}:=@Option.some.inj.{u0}
abbrev ki.{u0}:=@Array.length_toList.{u0}
abbrev kj:=@PySem.F.plainAttrs_list
abbrev kl:=@PySem.PassesOwn.never
abbrev km:=@Nat.ne_of_lt
abbrev kq.{u0,u1}:=@Option.map_eq_some_iff.{u0,u1}
abbrev kr:=@PySem.wpAny_mono
abbrev ku:=@Nat.lt_irrefl
abbrev kz.{u0,u1}:=@List.map_cons.{u0,u1}
abbrev kA:=@PySem.Heap.get?_update_other
abbrev kB.{u0}:=@Array.getElem?_eq_some_iff.{u0}
abbrev kC.{u0,u1}:=@List.lookup_cons.{u0,u1}
abbrev kD:=@PySem.strLen_append
abbrev kE.{u0}:=@List.append_nil.{u0}
abbrev kF:=@PySem.F.plainAttrs_dict
abbrev kG:=@of_decide_eq_true
abbrev kH:=@Int.natAbs_natCast
abbrev kI.{u0,u1}:=@congrArg.{u0,u1}
abbrev kJ.{u0}:=@List.getElem?_append_right.{u0}
abbrev kK:=@PySem.wpAny_field
abbrev kL.{u0}:=@List.mem_filter.{u0}
abbrev kM.{u0}:=@List.getElem_toArray.{u0}
abbrev kN.{u0}:=@List.length_filter_le.{u0}
abbrev kO.{u0}:=@List.mem_iff_getElem?.{u0}
abbrev kP:=@PySem.W.kia_one
abbrev kQ:=@Int.fdiv_eq_ediv_of_nonneg
abbrev kR.{u0}:=@List.all_eq_true.{u0}
abbrev kS.{u0}:=@List.getElem?_append_left.{u0}
abbrev kT:=@PySem.Obj.data_mapFields
abbrev kU.{u0,u1,u2}:=@List.map_map.{u0,u1,u2}
abbrev kW:=@Int.mul_comm
abbrev kX.{u0}:=@beq_eq_false_iff_ne.{u0}
abbrev kY:=@PySem.mem_of_lookup
abbrev kZ:=@PySem.Heap.get?_update_self
abbrev k6:=@PyProof.Rows.boot_str
abbrev k7.{u0}:=@Ne.symm.{u0}
abbrev k8:=@Nat.ne_of_gt
abbrev lg:=@PySem.Heap.get?_none_of_le
abbrev li.{u0}:=@List.mem_singleton.{u0}
abbrev lj.{u0,u1}:=@Option.map_some.{u0,u1}
abbrev lv.{u0}:=@List.getElem_mem.{u0}
abbrev ly.{u0}:=@List.take_of_length_le.{u0}
abbrev lz:=@PyProof.Rows.boot_list
abbrev lA:=@PySem.W.methodCall_KW
abbrev lB:=@Int.natAbs_mul
abbrev lC.{u0}:=@List.mem_append.{u0}
abbrev lD.{u0,u1}:=@List.map_nil.{u0,u1}
abbrev lE:=@PySem.W.callWith_K
abbrev lF:=@Bool.false_eq_true
abbrev lG:=@Bool.and_eq_true
abbrev lH:=@PySem.wpAny_standAt
abbrev lI.{u0}:=@List.sum_cons.{u0}
abbrev lJ:=@PySem.wpAny_setField
abbrev lK:=@PySem.F.plainAttrs_str
abbrev lL.{u0}:=@List.nodup_cons.{u0}
abbrev lM:=@PySem.Obj.isFreed_of_fields
abbrev lN:=@or_false
abbrev lO:=@PySem.wpAny_Call_Name_kw
abbrev lP:=@Int.gcd_dvd_left
abbrev lQ:=@PySem.boot_len
set_option Elab.async false
set_option linter.all false
set_option maxRecDepth 100000
inductive yA3(a b c:Prop):Prop|mk(_:a)(_:b)(_:c)
inductive yA4(a b c d:Prop):Prop|mk(_:a)(_:b)(_:c)(_:d)
inductive yA5(a b c d e:Prop):Prop|mk(_:a)(_:b)(_:c)(_:d)(_:e)
inductive yA6(a b c d e f:Prop):Prop|mk(_:a)(_:b)(_:c)(_:d)(_:e)(_:f)
inductive yA7(a b c d e f g:Prop):Prop|mk(_:a)(_:b)(_:c)(_:d)(_:e)(_:f)(_:g)
inductive yA8(a b c d e f g h:Prop):Prop|mk(_:a)(_:b)(_:c)(_:d)(_:e)(_:f)(_:g)(_:h)
inductive yA9(a b c d e f g h i:Prop):Prop|mk(_:a)(_:b)(_:c)(_:d)(_:e)(_:f)(_:g)(_:h)(_:i)
inductive yA10(a b c d e f g h i j:Prop):Prop|mk(_:a)(_:b)(_:c)(_:d)(_:e)(_:f)(_:g)(_:h)(_:i)(_:j)
inductive yA11(a b c d e f g h i j k:Prop):Prop|mk(_:a)(_:b)(_:c)(_:d)(_:e)(_:f)(_:g)(_:h)(_:i)(_:j)(_:k)
inductive yA12(a b c d e f g h i j k l:Prop):Prop|mk(_:a)(_:b)(_:c)(_:d)(_:e)(_:f)(_:g)(_:h)(_:i)(_:j)(_:k)(_:l)
inductive yA13(a b c d e f g h i j k l m:Prop):Prop|mk(_:a)(_:b)(_:c)(_:d)(_:e)(_:f)(_:g)(_:h)(_:i)(_:j)(_:k)(_:l)(_:m)
inductive yA14(a b c d e f g h i j k l m n:Prop):Prop|mk(_:a)(_:b)(_:c)(_:d)(_:e)(_:f)(_:g)(_:h)(_:i)(_:j)(_:k)(_:l)(_:m)(_:n)
inductive yE1{α:Type}(p:α->Prop):Prop|mk(a:α)(_:p a)
inductive yE2{α β:Type}(p:α->β->Prop):Prop|mk(a:α)(b:β)(_:p a b)
inductive yE3{α β γ:Type}(p:α->β->γ->Prop):Prop|mk(a:α)(b:β)(c:γ)(_:p a b c)
inductive yE4{α β γ δ:Type}(p:α->β->γ->δ->Prop):Prop|mk(a:α)(b:β)(c:γ)(d:δ)(_:p a b c d)
inductive yE6{α β γ δ ε ζ:Type}(p:α->β->γ->δ->ε->ζ->Prop):Prop|mk(a:α)(b:β)(c:γ)(d:δ)(e:ε)(f:ζ)(_:p a b c d e f)
inductive yE7{α β γ δ ε ζ η:Type}(p:α->β->γ->δ->ε->ζ->η->Prop):Prop|mk(a:α)(b:β)(c:γ)(d:δ)(e:ε)(f:ζ)(g:η)(_:p a b c d e f g)
inductive yE8{α β γ δ ε ζ η θ:Type}(p:α->β->γ->δ->ε->ζ->η->θ->Prop):Prop|mk(a:α)(b:β)(c:γ)(d:δ)(e:ε)(f:ζ)(g:η)(h:θ)(_:p a b c d e f g h)
local macro_rules|`($a ×' $b)=>do
 let rec go (r:Lean.TSyntax `term):Nat->Array (Lean.TSyntax `term)
  |0=>(List.toArray [r])
  |n+1=>match r with|`($x ×' $y)=>(List.toArray [x])++go y n|_=>(List.toArray [r])
 let xs:=(List.toArray [a])++go b 20
 `($(Lean.mkIdent (.mkSimple ("yA"++toString xs.size))) $xs*)
namespace L2
open PySem PySem.Spec PyProof.Rows
nonrec abbrev Key:=Sum Int Str
abbrev keyIs:Key->Value->Bool
 |.inl k,v=>Value.isInt k v
 |.inr x,v=>Value.isStrOf x v
abbrev keyH(w:World):Key->Int
 |.inl k=>hashInt k
 |.inr x=>hashStr w x
def cL:∀{k:Key}{v:Value},keyIs k v=true->(∃i t,k=Sum.inl i/\v=Value.int i t)∨(∃x t,k=Sum.inr x/\v=Value.str x t)
 |.inl i,v,h=>by
  let#[t,e]:=Value.isInt_shape (k:=i) (v:=v) h;exact .inl #[i,t,8,e]
 |.inr x,v,h=>by
  let#[t,e]:=Value.isStrOf_shape (x:=x) (v:=v) h;exact .inr #[x,t,8,e]
def keyIs_int(i:Int)(t:Tok):keyIs (.inl i) (.int i t)=true:=by simp[keyIs,Value.isInt]
def keyIs_str(x:Str)(t:Tok):keyIs (.inr x) (.str x t)=true:=by simp[keyIs,Value.isStrOf]
def key_ll(a b:Int):decide ((Sum.inl a:Key)=Sum.inl b)=(a==b):=by
 by_cases e:a=b
 ·subst e;simp
 ·have h:¬(Sum.inl a:Key)=Sum.inl b:=λq=>e (Sum.inl.inj q);rw[jI h];exact(kX.mpr e).symm
def key_rr(a b:Str):decide ((Sum.inr a:Key)=Sum.inr b)=decide (a=b):=by
 by_cases e:a=b
 ·subst e;simp
 ·have h:¬(Sum.inr a:Key)=Sum.inr b:=λq=>e (Sum.inr.inj q);rw[jI h,jI e]
def key_lr(a:Int)(b:Str):decide ((Sum.inl a:Key)=Sum.inr b)=false:=jI (λq=>nomatch q)
def key_rl(a:Str)(b:Int):decide ((Sum.inr a:Key)=Sum.inl b)=false:=jI (λq=>nomatch q)
abbrev bS(prog:Program)(w:World):PySem.KeyKind prog w Key where
 is:=keyIs
 hash:=keyH w
 inj:=λv a b ha hb=>by
  rcases cL ha with⟨i,t,rfl,rfl⟩|⟨x,t,rfl,rfl⟩
  ·rcases cL hb with⟨j,u,rfl,e⟩|⟨y,u,rfl,e⟩
   ·injection e with e1 _;rw[e1]
   ·exact nomatch e
  ·rcases cL hb with⟨j,u,rfl,e⟩|⟨y,u,rfl,e⟩
   ·exact nomatch e
   ·injection e with e1 _;rw[e1]
 byValue:=λk v h=>by
  rcases cL h with⟨i,t,rfl,rfl⟩|⟨x,t,rfl,rfl⟩<;>rfl
 pyHash:=λhv h=>by
  rcases cL hv with⟨i,t,rfl,rfl⟩|⟨x,t,rfl,rfl⟩
  ·exact wpAny_pyHash_int h
  ·exact wpAny_pyHash_str h
 eqBool:=λhu hv h=>by
  rcases cL hu with⟨i,t,rfl,rfl⟩|⟨x,t,rfl,rfl⟩
  ·rcases cL hv with⟨j,u,rfl,rfl⟩|⟨y,u,rfl,rfl⟩
   ·rw[key_ll]at h;exact wpAny_eqBool_int h
   ·rw[key_lr]at h;exact SeqAt.EqAt.int_str i t y u _ _ _ _ h
  ·rcases cL hv with⟨j,u,rfl,rfl⟩|⟨y,u,rfl,rfl⟩
   ·rw[key_rl]at h;exact SeqAt.EqAt.str_int x t j u _ _ _ _ h
   ·rw[key_rr]at h;exact wpAny_eqBool_str h
 «strs»:=λk x t v h=>by
  rcases cL h with⟨i,u,rfl,e⟩|⟨y,u,rfl,e⟩
  ·exact nomatch e
  ·injection e with e1 _
   subst e1
   cases v<;>rfl
def mixKind_int(prog:Program)(w:World)(i:Int)(t:Tok):(bS prog w).is (.inl i) (.int i t)=true:=keyIs_int i t
def mixKind_str(prog:Program)(w:World)(x:Str)(t:Tok):(bS prog w).is (.inr x) (.str x t)=true:=keyIs_str x t
end L2
namespace L2
open PySem PySem.Spec PyProof.Rows
inductive V where
 |non|bl(b:Bool)|int(i:Int)|str(x:Str)|byt(b:Array UInt8)|flt(b:UInt64)|ref(a:Addr)|ty(n:String)
 deriving DecidableEq
abbrev RelV:V->Value->Prop
 |.non,u=>u=Value.none
 |.bl b,u=>u=Value.bool b
 |.int i,u=>∃t,u=Value.int i t
 |.str x,u=>∃t,u=Value.str x t
 |.byt b,u=>∃t,u=Value.bytes b t
 |.flt b,u=>∃t,u=Value.float b t
 |.ref a,u=>u=Value.ref a
 |.ty n,u=>u=Value.type n
nonrec abbrev Vals:List V->List Value->Prop:=Paired RelV
def Vals.length(r:Vals xs us):xs.length=us.length:=Paired.length r
def Vals.get:∀{xs:List V}{us:List Value}{i:Nat}{x:V},Vals xs us->xs[i]?=some x->∃u,us[i]?=some u/\RelV x u
 |_,_,_,_,.nil,e=>by simp at e
 |_,_,0,_,.cons r _,e=>by simp at e;subst e;exact#[9,r]
 |_,_,i+1,x,.cons _ t,e=>by
  let#[u,a,b]:=Vals.get (i:=i) (x:=x) t (by simpa using e);exact#[u,by simpa using a,b]
def Vals.append:∀{xs ys:List V}{us ws:List Value},Vals xs us->Vals ys ws->Vals (xs++ys) (us++ws)
 |_,_,_,_,.nil,s=>s
 |_,_,_,_,.cons r t,s=>.cons r (Vals.append t s)
def Vals.take:∀{xs:List V}{us:List Value}(n:Nat),Vals xs us->Vals (xs.take n) (us.take n)
 |_,_,0,_=>.nil
 |_,_,_+1,.nil=>.nil
 |_,_,n+1,.cons r t=>.cons r (Vals.take n t)
def Vals.drop:∀{xs:List V}{us:List Value}(n:Nat),Vals xs us->Vals (xs.drop n) (us.drop n)
 |_,_,0,r=>r
 |_,_,_+1,.nil=>.nil
 |_,_,n+1,.cons _ t=>Vals.drop n t
abbrev RelO:Option V->Option Value->Prop
 |some v,some u=>RelV v u
 |none,none=>True
 |_,_=>False
abbrev KV{κ:Type}:List (κ×V)->List (κ×Value)->Prop:=Paired λ(p:κ×V)(q:κ×Value)=>p.1=q.1/\RelV p.2 q.2
abbrev kV:Key->V
 |.inl i=>.int i
 |.inr x=>.str x
inductive HO where
 |lst(xs:List V)
 |tup(xs:List V)
 |dK(kvs:List (Key×V))|dT(kvs:List (List Key×V))
 |set(S:Int->Bool)(n:Nat)
 |ins(C dx:Addr)(fs:List (Str×V))
 |own(x:Addr)
 |xd(fs:List (Str×V))
 |met(f x:Addr)
 |rng(lo hi:Int)
 |frz(o:Obj)(u:HO)
 |tbl(ps:Array Value)
 |ext(φ:Heap->Prop)
nonrec abbrev Hp:=Addr->Option HO
abbrev upd(H:Hp)(a:Addr)(o:HO):Hp:=λb=>if b=a then some o else H b
def aC:upd H a o a=some o:=by unfold upd;rw[if_pos rfl]
def aG(h:b≠a):upd H a o b=H b:=by unfold upd;rw[if_neg h]
def i7:upd (upd H a o) a u=upd H a u:=by
 funext b;unfold upd;split<;>rfl
def bK{H:Hp}(h:H a=some o)(h':H b=some u)(d:o≠u):a≠b:=by
 intro e;subst e;rw[h]at h';exact d (kh h')
def aP{H:Hp}(h:H a=some o)(h':H b=none):a≠b:=by
 intro e;subst e;rw[h]at h';cases h'
section
variable(P:Program)(w:World)
abbrev ObjOk(H:Hp)(h:Heap)(a:Addr):HO->Prop
 |.lst xs=>xs.length<=sizeLine/\∃(its:List Value)(n:Nat),Vals xs its/\h.get? a=some {cls:=.type "list",data:=.seq its.toArray n}
 |.tup xs=>xs.length<=sizeLine/\∃its:List Value,Vals xs its/\IsTup h a its.toArray
 |.dK kvs=>kvs.length<=sizeLine/\(a==sysModules)=false/\∃vs,KV kvs vs/\h.DictOf (bS P w) a vs
 |.dT kvs=>kvs.length<=sizeLine/\(a==sysModules)=false/\∃xs:List (List Key×Addr×Value),
   Paired (λ(p:List Key×V)(q:List Key×Addr×Value)=>p.1=q.1/\H q.2.1=some (.tup (p.1.map kV))/\RelV p.2 q.2.2) kvs xs/\
   ∃o es ep,h.get? a=some o/\o.ExactDict/\o.data=.dict es ep/\es.toList=xs.map (entryOfKey (tupleKind (bS P w)))/\(xs.map (·.1)).Nodup
 |.set S n=>h.SetOf (intKind P w) a S n
 |.ins C dx fs=>H dx=some (.own a)/\fs.length<=1000/\dx≠a/\h.get? a=some (PySem.W.instObj C dx)/\
   ∃mA,h.Ns1 dx mA/\(∀f,RelO (fs.lookup f) (mA f))/\PySem.Within mA (fs.map (·.1))
 |.own _=>∃o,h.get? a=some o
 |.xd fs=>∃mA,h.Ns1 a mA/\∀f,RelO (fs.lookup f) (mA f)
 |.rng lo hi=>∃t u v,h.get? a=some {cls:=.type "range",data:=.fields (List.toArray [.int lo t,.int hi u,.int 1 v])}
 |.frz o u=>h.get? a=some o/\ObjOk H h a u
 |.tbl ps=>h.get? a=some {cls:=.none,data:=.fields ps}
 |.met f x=>h.get? a=some (PySem.W.methodObj (.ref f) (.ref x))
 |.ext φ=>φ h/\(∃o,h.get? a=some o)/\∀h1 h2:Heap,φ h1->(∀o,h1.get? a=some o->h2.get? a=some o)->φ h2
abbrev HOk(H:Hp)(h:Heap):Prop:=∀a o,H a=some o->ObjOk P w H h a o
end
section
variable{P:Program}{w:World}{H H':Hp}{h h':Heap}{a:Addr}{o:HO}
def ObjOk.lt(x:ObjOk P w H h a o):a<h.objs.size:=by
 cases o with
 |lst xs=>let#[_,_,_,_,e]:=x;exact jO e
 |tup xs=>let#[_,_,_,p]:=x;exact p.lt
 |dK kvs=>let#[_,_,_,_,o,_,_,e,_]:=x;exact jO e
 |dT kvs=>let#[_,_,_,_,o,_,_,e,_]:=x;exact jO e
 |set S n=>let#[o,_,_,_,e,_]:=x;exact jO e
 |ins C dx fs=>let#[_,_,_,e,_]:=x;exact jO e
 |own y=>let#[_,e]:=x;exact jO e
 |xd fs=>let#[_,#[_,_,_,e,_],_]:=x;exact jO e
 |rng lo hi=>let#[_,_,_,e]:=x;exact jO e
 |frz ob u=>let#[e,_]:=x;exact jO e
 |tbl ps=>exact jO (show h.get? a=some _ from x)
 |met f y=>exact jO (show h.get? a=some _ from x)
 |ext φ=>let#[_,#[_,e],_]:=x;exact jO e
def Paired.mapP:∀{l₁:List α}{l₂:List β},Paired F l₁ l₂->(∀a b,F a b->G a b)->Paired G l₁ l₂
 |_,_,.nil,_=>.nil
 |_,_,.cons r t,f=>.cons (f _ _ r) (Paired.mapP t f)
def ObjOk.stay(x:ObjOk P w H h a o)(k:∀b u,(b=a∨H b=some (.own a))->h.get? b=some u->h'.get? b=some u)
  (ho:∀b,H b=some (.own a)->H' b=some (.own a))(ht:∀b xs,H b=some (.tup xs)->H' b=some (.tup xs)):ObjOk P w H' h' a o:=by
 induction o with
 |lst xs=>let#[z,m,n,r,e]:=x;exact#[z,m,n,r,k _ _ (.inl rfl) e]
 |tup xs=>let#[z,m,r,i,e,c]:=x;exact#[z,m,r,i,k _ _ (.inl rfl) e,c]
 |dK kvs=>let#[z,y,D,r,i,l,j,e,c]:=x;exact#[z,y,D,r,i,l,j,k _ _ (.inl rfl) e,c]
 |dT kvs=>
  let#[z,y,xs,r,i,l,j,e,c]:=x;exact#[z,y,xs,Paired.mapP r λp q z=>#[z.1,ht _ _ z.2.1,z.2.2],i,l,j,k _ _ (.inl rfl) e,c]
 |set S n=>let#[i,l,j,t,e,c]:=x;exact#[i,l,j,t,k _ _ (.inl rfl) e,c]
 |ins C dx fs=>
  let#[d,z,ne,e,A,#[s,l,j,E,c],r]:=x;exact#[ho _ d,z,ne,k _ _ (.inl rfl) e,A,#[s,l,j,k _ _ (.inr d) E,c],r]
 |own y=>let#[i,e]:=x;exact#[i,k _ _ (.inl rfl) e]
 |xd fs=>let#[A,#[s,l,j,e,c],r]:=x;exact#[A,#[s,l,j,k _ _ (.inl rfl) e,c],r]
 |rng lo hi=>let#[t,u,v,e]:=x;exact#[t,u,v,k _ _ (.inl rfl) e]
 |frz i u ih=>let#[e,q]:=x;exact#[k _ _ (.inl rfl) e,ih q]
 |tbl ps=>
  have e:h.get? a=some {cls:=.none,data:=.fields ps}:=x;show h'.get? a=some {cls:=.none,data:=.fields ps};exact k a _ (.inl rfl) e
 |met f y=>
  have e:h.get? a=some (PySem.W.methodObj (.ref f) (.ref y)):=x;show h'.get? a=some (PySem.W.methodObj (.ref f) (.ref y));exact k a _ (.inl rfl) e
 |ext φ=>let#[p,#[o,e],B]:=x;exact#[B _ _ p λo q=>k _ _ (.inl rfl) q,#[o,k _ _ (.inl rfl) e],B]
def HOk.lt(x:HOk P w H h)(e:H a=some o):a<h.objs.size:=(x a o e).lt
def HOk.fresh(x:HOk P w H h)(e:h.objs.size<=a):H a=none:=by
 cases q:H a with
 |none=>rfl
 |some u=>exact absurd (j7 (x.lt q) e) (ku _)
def HOk.kept(x:HOk P w H h)(k:∀b u,h.get? b=some u->h'.get? b=some u):HOk P w H h':=λa o e=>
 (x a o e).stay (λb u _ q=>k b u q) (λ_ q=>q) λ_ _ q=>q
def HOk.laid(x:HOk P w H h)(k:∀b u,h.get? b=some u->h'.get? b=some u)(hp:h.objs.size<=a)(new:ObjOk P w (upd H a o) h' a o):HOk P w (upd H a o) h':=λb u e=>by
 have d:=x.fresh hp;by_cases hb:b=a
 ·subst hb;rw[aC]at e;cases e;exact new
 ·rw[aG hb]at e;exact(x b u e).stay (λc v _ q=>k c v q) (λc q=>by rw[aG (aP q d)];exact q) λc i q=>by rw[aG (aP q d)];exact q
end
abbrev Rd(H:Hp)(a:Addr)(u:HO):Prop:=H a=some u∨∃o,H a=some (.frz o u)
def Rd.ok(r:Rd H a u)(x:HOk P w H h):ObjOk P w H h a u:=by
 rcases r with r|⟨o,r⟩
 ·exact x a u r
 ·let#[_,q]:=x a _ r;exact q
abbrev Mut:Option HO->Prop
 |some (.lst _)=>True
 |some (.dK _)=>True
 |some (.dT _)=>True
 |some (.set _ _)=>True
 |some (.ins _ _ _)=>True
 |some (.ext _)=>True
 |_=>False
section
variable{P:Program}{w:World}{H:Hp}{h h':Heap}{x e:Addr}{o':HO}
def HOk.write(ok:HOk P w H h)(mu:Mut (H x))(he:e=x∨H e=some (.own x))(k:∀b u,b≠e->h.get? b=some u->h'.get? b=some u)(heo:∃u,h'.get? e=some u)
  (new:ObjOk P w (upd H x o') h' x o'):HOk P w (upd H x o') h':=λb u q=>by
 have a:∀c y,H c=some (.own y)->c≠x:=λc y r z=>by subst z;rw[r]at mu;exact mu
 have d:∀c i,H c=some (.tup i)->c≠x:=λc i r z=>by subst z;rw[r]at mu;exact mu
 by_cases hb:b=x
 ·subst hb;rw[aC]at q;cases q;exact new
 ·rw[aG hb]at q;by_cases hbe:b=e
  ·have l:H b=some (.own x):=by
    rcases he with z|z
    ·exact absurd (hbe.trans z) hb
    ·rw[hbe];exact z
   rw[q]at l;cases l;let#[v,m]:=heo;exact#[v,by rw[hbe];exact m]
  ·refine(ok b u q).stay (λc v j r=>k c v ?_ r) (λc r=>by rw[aG (a c b r)];exact r) λc i r=>by rw[aG (d c i r)];exact r
   rcases j with rfl|j
   ·exact hbe
   ·rintro rfl;rcases he with z|z
    ·exact a c b j z
    ·rw[j]at z;cases z;exact hb rfl
end
structure Un(fs ex:List Addr)(H H':Hp)(h h':Heap):Prop where
 keep:∀b o,h.get? b=some o->H b=none->b∉fs->b∉ex->h'.get? b=some o
 slot:∀b o,h.get? b=some o->H b=none->b∈fs->b∉ex->∃sl,h'.get? b=some {o with slots:=sl}
 free:∀b o,h.get? b=some o->H b=none->b∉ex->H' b=none
 there:∀b o,h.get? b=some o->b∉ex->∃o',h'.get? b=some o'
 tups:∀b xs,H b=some (.tup xs)->H' b=some (.tup xs)
 frzs:∀b o u,H b=some (.frz o u)->H' b=some (.frz o u)
 tbls:∀b ps,H b=some (.tbl ps)->∃more,H' b=some (.tbl (ps++more))
section
variable{fs fs' ex ex':List Addr}{H H1 H2:Hp}{h h1 h2 h':Heap}{a x e:Addr}{o:HO}
def Un.any(u:Un fs ex H H1 h h1)(q:h.get? b=some ob)(n:H b=none)(hx:b∉ex):∃sl,h1.get? b=some {ob with slots:=sl}:=by
 by_cases hb:b∈fs
 ·exact u.slot b ob q n hb hx
 ·exact#[ob.slots,u.keep b ob q n hb hx]
def Un.kept(k:∀b u,h.get? b=some u->h'.get? b=some u):Un fs ex H H h h':=
 #[λb a q _ _ _=>k b a q,λb a q _ _ _=>#[a.slots,k b a q],λ_ _ _ n _=>n,λb a q _=>#[a,k b a q],λ_ _ q=>q,λ_ _ _ q=>q,λ_ ps q=>#[(List.toArray []),by rw[q];simp]]
def Un.refl:Un fs ex H H h h:=Un.kept λ_ _ q=>q
def Un.laid(k:∀b u,h.get? b=some u->h'.get? b=some u)(hp:h.objs.size<=a)(hn:H a=none):Un fs ex H (upd H a o) h h' where
 keep:=λb u q _ _ _=>k b u q
 slot:=λb u q _ _ _=>#[u.slots,k b u q]
 free:=λb u q n _=>by rw[aG (km (j7 (jO q) hp))];exact n
 there:=λb u q _=>#[u,k b u q]
 tups:=λb c q=>by rw[aG (aP q hn)];exact q
 frzs:=λb u c q=>by rw[aG (aP q hn)];exact q
 tbls:=λb ps q=>#[(List.toArray []),by rw[aG (aP q hn),q];simp]
def Un.write(mu:Mut (H x))(he:e=x∨H e=some (.own x))(k:∀b u,b≠e->h.get? b=some u->h'.get? b=some u)(heo:∃u,h'.get? e=some u):Un fs ex H (upd H x o) h h':=by
 have d:∀b,H b=none->b≠x:=λb n z=>by subst z;rw[n]at mu;exact mu
 have c:∀b,H b=none->b≠e:=λb n z=>by
  subst z;rcases he with r|r
  ·exact d b n r
  ·rw[n]at r;cases r
 have a:∀b u,H b=some u->¬Mut (some u)->b≠x:=λb u q i z=>by subst z;rw[q]at mu;exact i mu
 refine#[λb u q n _ _=>k b u (c b n) q,λb u q n _ _=>#[u.slots,k b u (c b n) q],λb u q n _=>by rw[aG (d b n)];exact n,λb u q _=>?_,
  λb j q=>by rw[aG (a b _ q λz=>z)];exact q,λb u j q=>by rw[aG (a b _ q λz=>z)];exact q,λb ps q=>#[(List.toArray []),by rw[aG (a b _ q λz=>z),q];simp]]
 by_cases hbe:b=e
 ·subst hbe;exact heo
 ·exact#[u,k b u hbe q]
end
abbrev trk(h:Heap)(H:Hp):List Addr:=(List.range h.objs.size).filter λa=>(H a).isSome
abbrev hidT(h:Heap)(H:Hp):Heap:=PySem.W.hideAll h (trk h H)
def hidT_size(h:Heap)(H:Hp):(hidT h H).objs.size=h.objs.size:=PySem.W.hideAll_size _ _
def hidT_get(e:h.get? b=some o)(n:H b=none):(hidT h H).get? b=some o:=
 PySem.W.hideAll_get _ e λa=>by
  have q:(H b).isSome=true:=(kL.mp a).2;rw[n]at q;simp at q
def of_hidT(e:(hidT h H).get? b=some o):h.get? b=some o/\H b=none:=by
 have a:h.get? b=some o:=PySem.W.of_hideAll (trk h H) e;refine#[a,?_]
 cases q:H b with
 |none=>rfl
 |some x=>
  have c:b∈trk h H:=kL.mpr #[List.mem_range.mpr (jO a),by simp[q]];have z:(hidT h H).get? b=none:=PySem.W.hideAll_none (trk h H) c;rw[z]at e;cases e
abbrev allNews(g h:Heap)(L:Addr):List (Addr×Obj):=(List.range h.objs.size).filterMap λa=>if a=L∨(g.get? a).isSome=true then none else(h.get? a).map λo=>(a,o)
abbrev rest(g h:Heap)(L d:Addr):List (Addr×Obj):=(allNews g h L).filter λp=>decide (p.1≠d)
end L2
namespace L2
open PySem PySem.Spec PyProof.Rows
structure Mod(K:W.Frag)(mg:Str->Option Value)(base:Heap):Prop where
 kin:K.In base
 glob:base.Ns mainGlobals mg
 blt:∃mb,base.Ns builtinsNs mb/\∀x:Str,x≠"__name__"->mb x=bootBuiltins x
 nolimit:base.NoLimit
 seer:base.NoSeer
structure Cx where
 prog:Program
 w:World
 K:W.Frag
 mg:Str->Option Value
 base:Heap
 A:Around
 N:List Str
 s₀:Shared
 H₀:Hp
 env:Env
 outer:List Env
 stack:List Env
 ex:List Addr
 fn:Str->Bool
 calm:Bool
 pn:List (Addr×Obj)
 xe:Value->Shared->Prop
abbrev frs(l:List Env):List Addr:=l.filterMap (·.frame)
nonrec abbrev Cx.fs(X:Cx):List Addr:=frs X.outer
abbrev Vis(sc:Scope)(x:Str):Prop:=sc.names.lookup x=some .local∨sc.names.lookup x=some .cell∨sc.names.lookup x=some .free
abbrev Loc(sc:Scope)(x:Str):Prop:=sc.names.lookup x=some .local∨sc.names.lookup x=some .cell
abbrev Look(env:Env)(h:Heap)(m:Str->Option Value)(x:Str)(u:Value):Prop:=
 (env.kindOf x=some .local/\m x=some u)∨((env.kindOf x=some .cell∨env.kindOf x=some .free)/\∃c,env.cells.lookup x=some c/\h.IsCell c (some u))
structure Cx.Ok(X:Cx):Prop where
 mod:Mod X.K X.mg X.base
 kind:X.env.scope.kind=.function
 glob:X.env.globals=mainGlobals
 blt:X.env.builtins=builtinsNs
 above:X.s₀.heap.objs.size<=X.env.locals
 inj:∀x y c,X.env.cells.lookup x=some c->X.env.cells.lookup y=some c->x=y
 has:∀x,(X.env.kindOf x=some .cell∨X.env.kindOf x=some .free)->∃c,X.env.cells.lookup x=some c
 cab:∀x c,X.fn x=true->X.env.cells.lookup x=some c->X.s₀.heap.objs.size<=c
 hd:X.calm=true->X.A.handled=none
 frames:X.A.frames=some X.stack
 stk:X.stack=X.outer∨(X.stack=X.env::X.outer/\X.env.frame=some X.env.locals)
 exf:∀b∈X.ex,b≠X.env.locals/\∀x c,X.env.cells.lookup x=some c->c≠b
 bs:∀b o,X.base.get? b=some o->X.s₀.heap.get? b=some o/\X.H₀ b=none
 bsz:X.base.objs.size<=X.s₀.heap.objs.size
 noex:∀b o,X.base.get? b=some o->b∉X.ex
 exfs:∀b∈X.ex,b∉X.fs
 funs:X.s₀.heap.FunFrames X.base X.outer
 frf:∀b∈X.fs,X.H₀ b=none
structure Inv(X:Cx)(pins:List (Addr×Obj))(σ:List (Option V))(H:Hp)(s:Shared):Prop where
 ok:X.Ok
 os:s.os=X.s₀.os
 bare:AllBare s.gens
 base:Un X.fs X.ex X.H₀ H X.s₀.heap s.heap
 loc:∃m,s.heap.Ns X.env.locals m/\∀(i:Nat)(x:Str)(v:V),X.N[i]?=some x->σ[i]?=some (some v)->Vis X.env.scope x->∃u,RelV v u/\Look X.env s.heap m x u
 cell:∀x c,X.env.cells.lookup x=some c->∃v,s.heap.IsCell c v
 free:H X.env.locals=none
 freeC:∀x c,X.env.cells.lookup x=some c->H c=none
 pin:∀p∈X.pn++pins,s.heap.get? p.1=some p.2/\H p.1=none/\p.1≠X.env.locals/\p.1∉X.fs/\∀v,p.2.data≠.cell v
 hok:HOk X.prog X.w H s.heap
 len:σ.length=X.N.length
section
variable{X:Cx}{pins:List (Addr×Obj)}{σ:List (Option V)}{H H':Hp}{s:Shared}{h':Heap}
def Cx.Ok.nofr(ok:X.Ok)(e:X.base.get? b=some o):b∉X.fs:=λa=>by
 have:=(ok.funs.mem a).1
 rw[e]at this;cases this
def Inv.bs(I:Inv X pins σ H s):∀b o,X.base.get? b=some o->s.heap.get? b=some o/\H b=none:=λb o e=>
 #[I.base.keep b o (I.ok.bs b o e).1 (I.ok.bs b o e).2 (I.ok.nofr e) (I.ok.noex b o e),I.base.free b o (I.ok.bs b o e).1 (I.ok.bs b o e).2 (I.ok.noex b o e)]
def Inv.bk(I:Inv X pins σ H s):∀b o,X.base.get? b=some o->s.heap.get? b=some o:=λb o e=>(I.bs b o e).1
def Inv.mod(I:Inv X pins σ H s):Mod X.K X.mg X.base:=I.ok.mod
def Inv.kIn(I:Inv X pins σ H s):X.K.In s.heap:=I.ok.mod.kin.keeps I.bk
def Inv.lt(I:Inv X pins σ H s):X.env.locals<s.heap.objs.size:=by
 let#[_,hn,_]:=I.loc;exact hn.lt
def Inv.sz(I:Inv X pins σ H s):X.s₀.heap.objs.size<=s.heap.objs.size:=jK I.ok.above (Nat.le_of_lt I.lt)
def Inv.nofs(I:Inv X pins σ H s)(h:s.heap.objs.size<=a):a∉X.fs:=λb=>by
 let#[_,o,c,_]:=I.ok.funs.mem b;exact absurd (j7 (jO c) (jK I.sz h)) (ku _)
def Inv.cne(I:Inv X pins σ H s):∀x c,X.env.cells.lookup x=some c->c≠X.env.locals:=λx c e z=>by
 let#[v,o,d,hd]:=I.cell x c e;let#[m,#[i,h,j,a,b,_],_]:=I.loc;rw[z,a]at d;cases d;rw[b]at hd;cases hd
def Inv.funs(I:Inv X pins σ H s):s.heap.FunFrames X.base X.outer:=by
 have all:∀(l:List Env),(∀b∈frs l,b∈X.fs)->X.s₀.heap.FunFrames X.base l->s.heap.FunFrames X.base l:=by
  intro l
  induction l with
  |nil=>intro _ _;trivial
  |cons env r ih=>
   intro h i;let#[p,#[L,o,c,j,m,hd],q]:=i;have a:L∈X.fs:=h L (by unfold frs;rw[List.filterMap_cons,c];exact jX);let#[t,e]:=I.base.slot L o m (I.ok.frf L a) a λz=>I.ok.exfs L z a;exact#[p,#[L,_,c,j,e,hd],ih (λb d=>h b (by unfold frs;rw[List.filterMap_cons,c];exact jW _ d)) q]
 exact all X.outer (λ_ d=>d) I.ok.funs
def Inv.stack(I:Inv X pins σ H s):s.heap.FunFrames X.base X.stack:=by
 rcases I.ok.stk with e|⟨e,hf⟩
 ·rw[e];exact I.funs
 ·rw[e];let#[m,a,_]:=I.loc;refine .cons (by rw[I.ok.kind];decide) hf a ?_ I.funs;exact lg (jK I.ok.bsz I.ok.above)
def Inv.stkSub(I:Inv X pins σ H s):∀b∈frs X.stack,b∈X.env.locals::X.fs:=λb a=>by
 rcases I.ok.stk with e|⟨e,hf⟩
 ·rw[e]at a;exact jW _ a
 ·rw[e]at a;unfold frs at a;rw[List.filterMap_cons,hf]at a;exact a
def Inv.stkFree(I:Inv X pins σ H s):∀b∈frs X.stack,H b=none:=λb a=>by
 rcases jR.mp (I.stkSub b a)with e|a
 ·rw[e];exact I.free
 ·let#[_,o,c,_]:=I.ok.funs.mem a;exact I.base.free b o c (I.ok.frf b a) λz=>I.ok.exfs b z a
def Inv.step{ch:List Addr}(I:Inv X pins σ H s)
  (hch:∀b∈ch,(b∈X.ex∨X.s₀.heap.objs.size<=b)/\b≠X.env.locals/\(∀x c,X.env.cells.lookup x=some c->c≠b)/\∀p∈X.pn++pins,p.1≠b)
  (keep:∀b o,b≠X.env.locals->b∉X.fs->b∉ch->s.heap.get? b=some o->H b=none->h'.get? b=some o)
  (slot:∀b o,b≠X.env.locals->b∈X.fs->b∉ch->s.heap.get? b=some o->H b=none->∃sl,h'.get? b=some {o with slots:=sl})(free:∀b o,b∉ch->s.heap.get? b=some o->H b=none->H' b=none)
  (there:∀b o,b∉ch->s.heap.get? b=some o->∃o',h'.get? b=some o')
  (tups:∀b xs,H b=some (.tup xs)->H' b=some (.tup xs))(frzs:∀b o u,H b=some (.frz o u)->H' b=some (.frz o u))(tbls:∀b ps,H b=some (.tbl ps)->∃more,H' b=some (.tbl (ps++more)))
  (ns:∀m,s.heap.Ns X.env.locals m->h'.Ns X.env.locals m)(hok:HOk X.prog X.w H' h')(hg:AllBare g'):
  Inv X pins σ H' {s with heap:=h',gens:=g',drawn:=d',toks:=t'}:=by
 have B:∀b o,X.s₀.heap.get? b=some o->b≠X.env.locals:=λb o e=>km (j7 (jO e) I.ok.above)
 have w:∀b o,X.s₀.heap.get? b=some o->b∉X.ex->b∉ch:=λb o e a y=>by
  rcases(hch b y).1 with z|z
  ·exact a z
  ·exact absurd (j7 (jO e) z) (ku _)
 have j:∀x c,X.env.cells.lookup x=some c->∀v,s.heap.IsCell c v->h'.IsCell c v:=λx c e v⟨o,A,hd⟩=>by
  have h:c∉ch:=λz=>(hch c z).2.2.1 x c e rfl;by_cases hc:c∈X.fs
  ·let#[sl,q]:=slot c o (I.cne x c e) hc h A (I.freeC x c e);exact#[_,q,hd]
  ·exact#[o,keep c o (I.cne x c e) hc h A (I.freeC x c e),hd]
 refine#[I.ok,I.os,hg,#[λb o e n y a=>?_,λb o e n y a=>?_,λb o e n a=>?_,λb o e a=>?_,λb xs e=>tups b xs (I.base.tups b xs e),λb o xs e=>frzs b o xs (I.base.frzs b o xs e),λb ps e=>?_],?_,λx c e=>?_,?_,λx c e=>?_,λp F=>?_,hok,I.len]
 ·exact keep b o (B b o e) y (w b o e a) (I.base.keep b o e n y a) (I.base.free b o e n a)
 ·let#[sl,t]:=I.base.slot b o e n y a;let#[E,D]:=slot b _ (B b o e) y (w b o e a) t (I.base.free b o e n a);exact#[E,D]
 ·let#[o',t]:=I.base.there b o e a;exact free b o' (w b o e a) t (I.base.free b o e n a)
 ·let#[o',t]:=I.base.there b o e a;exact there b o' (w b o e a) t
 ·let#[M,t]:=I.base.tbls b ps e;let#[N,D]:=tbls b _ t;exact#[M++N,by rw[D,Array.append_assoc]]
 ·let#[m,K,J]:=I.loc;refine#[m,ns m K,λi x v t D L=>?_];let#[u,r,l]:=J i x v t D L;refine#[u,r,?_];rcases l with l|⟨k,c,e,z⟩
  ·exact .inl l
  ·exact .inr #[k,c,e,j x c e _ z]
 ·let#[v,z]:=I.cell x c e;exact#[v,j x c e v z]
 ·let#[m,#[o,_,_,A,_],_]:=I.loc;exact free _ o (λz=>(hch _ z).2.1 rfl) A I.free
 ·let#[v,o,A,hd]:=I.cell x c e;exact free c o (λz=>(hch c z).2.2.1 x c e rfl) A (I.freeC x c e)
 ·let#[e,n,ne,G,d]:=I.pin p F;have h:p.1∉ch:=λz=>(hch p.1 z).2.2.2 p F rfl;exact#[keep p.1 p.2 ne G h e n,free p.1 p.2 h e n,ne,G,d]
def Inv.un(I:Inv X pins σ H s)(u:Un X.fs [] H H' s.heap h')(hok:HOk X.prog X.w H' h'):Inv X pins σ H' {s with heap:=h',toks:=t'}:=by
 let#[m,#[o,v,t,i,r],_]:=id I.loc;let#[w,j]:=u.any i I.free (by simp)
 exact I.step (g':=s.gens) (d':=s.drawn) (ch:=[]) (λ_ z=>nomatch z) (λb o _ h _ e n=>u.keep b o e n h (by simp)) (λb o _ h _ e n=>u.slot b o e n h (by simp)) (λb o _ e n=>u.free b o e n (by simp)) (λb o _ e=>u.there b o e (by simp)) u.tups u.frzs u.tbls (λq l=>by
  let#[x,d,c,a,p]:=l;rw[i]at a;cases a;exact#[_,d,c,j,p]) hok I.bare
def Inv.call(I:Inv X pins σ H s)(u:Un (frs X.stack) ch H H' s.heap h')(hok:HOk X.prog X.w H' h')(hg:AllBare g')
  (hch:∀b∈ch,(b∈X.ex∨X.s₀.heap.objs.size<=b)/\b≠X.env.locals/\(∀x c,X.env.cells.lookup x=some c->c≠b)/\∀p∈X.pn++pins,p.1≠b):
  Inv X pins σ H' {s with heap:=h',gens:=g',drawn:=d',toks:=t'}:=by
 let#[m,#[o,A,y,l,r],_]:=id I.loc;let#[B,j]:=u.any l I.free λz=>(hch _ z).2.1 rfl
 exact I.step (ch:=ch) hch (λb o j t a e n=>u.keep b o e n (λz=>(jR.mp (I.stkSub b z)).elim j t) a) (λb o _ _ a e n=>u.any e n a) (λb o a e n=>u.free b o e n a) (λb o a e=>u.there b o e a) u.tups u.frzs u.tbls (λw q=>by
  let#[D,i,h,d,v]:=q;rw[l]at d;cases d;exact#[_,i,h,j,v]) hok hg
def Inv.turned(I:Inv X pins σ H s)(k:∀b o,b≠it->s.heap.get? b=some o->h'.get? b=some o)(hn:H it=none)(hL:it≠X.env.locals)
  (h1:it∈X.ex∨X.s₀.heap.objs.size<=it)(h2:∀x c,X.env.cells.lookup x=some c->c≠it)(h3:∀p∈X.pn++pins,p.1≠it):Inv X pins σ H {s with heap:=h',toks:=t'}:=by
 have d:∀b u,H b=some u->b≠it:=λb u e z=>by rw[z,hn]at e;cases e
 refine I.step (g':=s.gens) (d':=s.drawn) (ch:=[it]) (λb j=>?_) (λb o _ _ a e _=>k b o (λz=>a (by simp[z])) e) (λb o _ _ a e _=>#[o.slots,k b o (λz=>a (by simp[z])) e]) (λ_ _ _ _ n=>n)
  (λb o a e=>#[o,k b o (λz=>a (by simp[z])) e]) (λ_ _ e=>e) (λ_ _ _ e=>e) (λb ps e=>#[(List.toArray []),by rw[e];simp]) (λm h=>?_) (λb u e=>?_) I.bare
 ·have e:b=it:=by simpa using j
  subst e;exact#[h1,hL,h2,h3]
 ·let#[o,t,i,l,r]:=h;exact#[o,t,i,k _ o (k7 hL) l,r]
 ·refine(I.hok b u e).stay (λc v a q=>k c v ?_ q) (λ_ q=>q) λ_ _ q=>q;rcases a with z|z
  ·rw[z];exact d b u e
  ·exact d c _ z
def Inv.tok(I:Inv X pins σ H s)(t:Nat):Inv X pins σ H {s with toks:=t}:=I.un (h':=s.heap) (t':=t) Un.refl I.hok
def Inv.kept(I:Inv X pins σ H s)(k:∀b u,s.heap.get? b=some u->h'.get? b=some u):Inv X pins σ H {s with heap:=h',toks:=t'}:=I.un (Un.kept k) (I.hok.kept k)
def Inv.laid(I:Inv X pins σ H s)(k:∀b u,s.heap.get? b=some u->h'.get? b=some u)(hp:s.heap.objs.size<=a)(new:ObjOk X.prog X.w (upd H a o) h' a o):
  Inv X pins σ (upd H a o) {s with heap:=h',toks:=t'}:=I.un (Un.laid k hp (I.hok.fresh hp)) (I.hok.laid k hp new)
def Inv.write(I:Inv X pins σ H s)(mu:Mut (H x))(he:e=x∨H e=some (.own x))(k:∀b u,b≠e->s.heap.get? b=some u->h'.get? b=some u)(heo:∃u,h'.get? e=some u)
  (new:ObjOk X.prog X.w (upd H x o) h' x o):Inv X pins σ (upd H x o) {s with heap:=h',toks:=t'}:=I.un (Un.write mu he k heo) (I.hok.write mu he k heo new)
def Inv.pins_of(I:Inv X pins σ H s)(h:∀p∈pins',s.heap.get? p.1=some p.2/\H p.1=none/\p.1≠X.env.locals/\p.1∉X.fs/\∀v,p.2.data≠.cell v):Inv X pins' σ H s:=
 #[I.ok,I.os,I.bare,I.base,I.loc,I.cell,I.free,I.freeC,λp a=>(lC.mp a).elim (λz=>I.pin p (List.mem_append_left _ z)) (h p),I.hok,I.len]
def nodup_ix{N:List Str}(hN:N.Nodup){i j:Nat}(a:N[i]?=some x)(b:N[j]?=some x):i=j:=by
 let#[e,d]:=jH.mp a;let#[h,c]:=jH.mp b;exact(List.getElem_inj hN).mp (d.trans c.symm)
def store_ok2(I:Inv X pins σ H s)(hN:X.N.Nodup)(hi:X.N[i]?=some x)(hx:Loc X.env.scope x)(r:RelV v u)
  (h:∀s',Inv X pins (σ.set i (some v)) H s'->(∃a,Heap.SameBut a s.heap s'.heap/\(a=X.env.locals∨X.env.cells.lookup x=some a))->Q Unit.unit s')(hf:X.fn x=true∨X.env.scope.names.lookup x=some .local:=by first|exact .inl rfl|exact .inr rfl|assumption):wpAny M A (storeName X.env x u) Q E s:=by
 let#[m,W,hl]:=id I.loc;have O:(X.env.scope.kind==.class||(X.env.scope.kind==.module&&X.env.locals !=X.env.globals))=false:=by rw[I.ok.kind];rfl
 have P:i<σ.length:=by rw[I.len];exact(jH.mp hi).1
 have cne:=I.cne
 have B:∀{a:Addr}{L:Heap},(∃o,s.heap.get? a=some o/\H a=none)->Heap.SameBut a s.heap L->HOk X.prog X.w H L:=λ{a L}ha l b ob e=>by
  let#[_,_,F]:=ha;refine(I.hok b ob e).stay (λc U D q=>(l.2 c ?_).trans q) (λ_ q=>q) λ_ _ q=>q;rintro rfl;rcases D with rfl|D
  ·rw[F]at e;cases e
  ·rw[F]at D;cases D
 rcases hx with hk|hk
 ·refine wpAny_storeName_local hk W (λL ab l=>?_) O;let#[oL,_,_,aa,_]:=id W;refine h _ #[I.ok,I.os,I.bare,#[λb o e n J hx=>?_,λb o e n J hx=>?_,I.base.free,λb o e hx=>?_,I.base.tups,I.base.frzs,I.base.tbls],#[_,ab,λj y Y t G e3=>?_],λy c e=>?_,I.free,I.freeC,λp hp=>?_,B #[oL,aa,I.free] l,by simpa using I.len] #[_,l,.inl rfl]
  ·exact(l.2 b (km (j7 (jO e) I.ok.above))).trans (I.base.keep b o e n J hx)
  ·let#[sl,t]:=I.base.slot b o e n J hx;exact#[sl,(l.2 b (km (j7 (jO e) I.ok.above))).trans t]
  ·let#[o',t]:=I.base.there b o e hx;exact#[o',(l.2 b (km (j7 (jO e) I.ok.above))).trans t]
  ·by_cases hj:j=i
   ·subst hj;rw[hi]at t;cases t;rw[List.getElem?_set_self P]at G
    cases G;exact#[u,r,.inl #[hk,by simp]]
   ·rw[List.getElem?_set_ne (k7 hj)]at G;let#[Z,r',q]:=hl j y Y t G e3;refine#[Z,r',?_];rcases q with⟨k,e⟩|⟨k,c,e,z⟩
    ·refine .inl #[k,?_]
     have:y≠x:=λe=>hj (nodup_ix hN t (e▸hi))
     simp[this,e]
    ·exact .inr #[k,c,e,z.sameBut l (cne y c e)]
  ·let#[U,z]:=I.cell y c e;exact#[U,z.sameBut l (cne y c e)]
  ·let#[e,n,ne,nf,d]:=I.pin p hp;exact#[(l.2 p.1 ne).trans e,n,ne,nf,d]
 ·have K:X.fn x=true:=by
   rcases hf with z|z
   ·exact z
   ·rw[z]at hk;cases hk
  let#[c,D]:=I.ok.has x (.inl hk);let#[U,z]:=I.cell x c D;refine wpAny_storeName_cell I.ok.kind hk D z (λL S l=>?_);let#[oc,R,N]:=id z;refine h {s with heap:=L} #[I.ok,I.os,I.bare,#[λb o e n J hx=>?_,λb o e n J hx=>?_,I.base.free,λb o e hx=>?_,I.base.tups,I.base.frzs,I.base.tbls],#[m,W.sameBut l (k7 (cne x c D)),λj y Y t G e3=>?_],λy T e=>?_,I.free,I.freeC,λp hp=>?_,B #[oc,R,I.freeC x c D] l,by simpa using I.len] #[c,l,.inr D]
  ·exact(l.2 b (km (j7 (jO e) (I.ok.cab x c K D)))).trans (I.base.keep b o e n J hx)
  ·let#[sl,t]:=I.base.slot b o e n J hx;exact#[sl,(l.2 b (km (j7 (jO e) (I.ok.cab x c K D)))).trans t]
  ·let#[o',t]:=I.base.there b o e hx;exact#[o',(l.2 b (km (j7 (jO e) (I.ok.cab x c K D)))).trans t]
  ·by_cases hj:j=i
   ·subst hj;rw[hi]at t;cases t;rw[List.getElem?_set_self P]at G
    cases G;exact#[u,r,.inr #[.inl hk,c,D,S]]
   ·rw[List.getElem?_set_ne (k7 hj)]at G;let#[Z,r',q]:=hl j y Y t G e3;refine#[Z,r',?_];rcases q with q|⟨k,T,e,z'⟩
    ·exact .inl q
    ·refine .inr #[k,T,e,z'.sameBut l ?_];rintro rfl;exact hj (nodup_ix hN t (I.ok.inj _ _ _ e D▸hi))
  ·by_cases hcc:T=c
   ·subst hcc;exact#[_,S]
   ·let#[w2,z2]:=I.cell y T e;exact#[w2,z2.sameBut l hcc]
  ·let#[e,n,ne,nf,d]:=I.pin p hp;refine#[(l.2 p.1 ?_).trans e,n,ne,nf,d];intro q;rw[q,R]at e;have q':oc=p.2:=kh e;exact d U (by rw[<-q'];exact N)
def fU(I:Inv X pins σ H s)(hN:X.N.Nodup)(hi:X.N[i]?=some x)(hx:Loc X.env.scope x)(r:RelV v u)
  (h:∀s',Inv X pins (σ.set i (some v)) H s'->Q Unit.unit s')(hf:X.fn x=true∨X.env.scope.names.lookup x=some .local:=by first|exact .inl rfl|exact .inr rfl|assumption):wpAny M A (storeName X.env x u) Q E s:=
 store_ok2 I hN hi hx r (λs' a _=>h s' a) hf
def Inv.call'(I:Inv X pins σ H s)(ho:s'.os=s.os)(u:Un (frs X.stack) ch H H' s.heap s'.heap)(hok:HOk X.prog X.w H' s'.heap)(hg:AllBare s'.gens)
  (hch:∀b∈ch,(b∈X.ex∨X.s₀.heap.objs.size<=b)/\b≠X.env.locals/\(∀x c,X.env.cells.lookup x=some c->c≠b)/\∀p∈X.pn++pins,p.1≠b):Inv X pins σ H' s':=by
 let#[d,g',d',t',a]:=s';have e:a=s.os:=ho;subst e;exact I.call (g':=g') (t':=t') (d':=d') u hok hg hch
end
nonrec abbrev XK:=Value->Option Addr->Hp->Prop
nonrec abbrev St:=List (Option V)
nonrec abbrev VK:=V->Hp->Prop
nonrec abbrev TE:=St->Hp->VK->Prop
nonrec abbrev TT:=St->Hp->(Bool->Hp->Prop)->Prop
nonrec abbrev TA:=St->Hp->(List V->Hp->Prop)->Prop
structure Ends where
 nx:St->Hp->Prop
 rt:VK
 bk:St->Hp->Prop:=λ_ _=>False
 ct:St->Hp->Prop:=λ_ _=>False
nonrec abbrev TS:=Ends->St->Hp->Prop
abbrev EP(X:Cx)(pins:List (Addr×Obj))(σ:St)(Q:VK)(u:Value)(s':Shared):Prop:=∃v H',Inv X pins σ H' s'/\RelV v u/\Q v H'
abbrev TP(X:Cx)(pins:List (Addr×Obj))(σ:St)(Q:Bool->Hp->Prop)(b:Bool)(s':Shared):Prop:=∃H',Inv X pins σ H' s'/\Q b H'
abbrev AP(X:Cx)(pins:List (Addr×Obj))(σ:St)(Q:List V->Hp->Prop)(us:List Value)(s':Shared):Prop:=∃vs H',Inv X pins σ H' s'/\Vals vs us/\Q vs H'
abbrev SP(X:Cx)(pins:List (Addr×Obj))(D:Ends)(f:Flow)(s':Shared):Prop:=
 match f with
 |.next=>∃σ' H',Inv X pins σ' H' s'/\D.nx σ' H'
 |.brk=>∃σ' H',Inv X pins σ' H' s'/\D.bk σ' H'
 |.cont=>∃σ' H',Inv X pins σ' H' s'/\D.ct σ' H'
 |.ret u=>∃v σ' H',Inv X pins σ' H' s'/\RelV v u/\D.rt v H'
abbrev PE(X:Cx)(e:Expr)(t:TE):Prop:=
 ∀(pins:List (Addr×Obj))(s:Shared)(σ:St)(H:Hp)(Q:VK),Inv X pins σ H s->t σ H Q->wpAny (model X.prog X.w) X.A (eval e X.env) (EP X pins σ Q) X.xe s
abbrev PT(X:Cx)(e:Expr)(t:TT):Prop:=
 ∀(pins:List (Addr×Obj))(s:Shared)(σ:St)(H:Hp)(Q:Bool->Hp->Prop),Inv X pins σ H s->t σ H Q->wpAny (model X.prog X.w) X.A (isTrue e X.env (eval e X.env)) (TP X pins σ Q) X.xe s
abbrev PW(X:Cx)(e:Expr)(t:TT):Prop:=
 ∀(whole:Sem Value)(pins:List (Addr×Obj))(s:Shared)(σ:St)(H:Hp)(Q:Bool->Hp->Prop),Inv X pins σ H s->t σ H Q->wpAny (model X.prog X.w) X.A (isTrue e X.env whole) (TP X pins σ Q) X.xe s
def PW.pt(h:PW X e t):PT X e t:=h _
abbrev PA(X:Cx)(es:List Expr)(t:TA):Prop:=
 ∀(pos:Pos)(pins:List (Addr×Obj))(s:Shared)(σ:St)(H:Hp)(Q:List V->Hp->Prop),Inv X pins σ H s->t σ H Q->wpAny (model X.prog X.w) X.A (spliced (backTo pos (starEach es X.env))) (AP X pins σ Q) X.xe s
abbrev PS(X:Cx)(st:Stmt)(t:TS):Prop:=
 ∀(pins:List (Addr×Obj))(s:Shared)(σ:St)(H:Hp)(D:Ends),Inv X pins σ H s->t D σ H->wpAny (model X.prog X.w) X.A (exec st X.env) (SP X pins D) X.xe s
abbrev PSs(X:Cx)(st:List Stmt)(t:TS):Prop:=
 ∀(pins:List (Addr×Obj))(s:Shared)(σ:St)(H:Hp)(D:Ends),Inv X pins σ H s->t D σ H->wpAny (model X.prog X.w) X.A (execs st X.env) (SP X pins D) X.xe s
def thn(h:wpAny M A t Q E s)(hQ:∀a s,Q a s->Q' a s):wpAny M A t Q' E s:=kr h hQ λ_ _ x=>x
end L2
namespace L2
open PySem PySem.Spec PyProof.Rows
section
variable{X:Cx}
inductive ItVar(i:Nat)(σ:St)(H:Hp)(Q:VK):Prop
 |mk(v:_)(h1:σ[i]?=some (some v))(h2:Q v H):ItVar i σ H Q
abbrev i9(i:Nat):TE:=λσ H Q=>ItVar i σ H Q
abbrev tC(v:V):TE:=λ_ H Q=>Q v H
def pe_var(hN:X.N[i]?=some x)(hv:Vis X.env.scope x)(hd:(x==("__debug__":Str))=false:=by decide)(hcd:(x==("__classdict__":Str))=false:=by decide):PE X (.Name x pos) (i9 i):=by
 intro a s σ H Q I h;let#[v,e,h]:=h;let#[m,d,b]:=I.loc;let#[u,r,l]:=b i x v hN e hv;have fin:EP X a σ Q u s:=#[v,H,I,r,h];rcases l with⟨hk,hm⟩|⟨hk,c,hc,hcell⟩
 ·exact wpAny_Name (wpAny_loadName_local I.ok.kind hk d hm fin) hd
 ·rcases hk with hk|hk
  ·exact wpAny_Name (wpAny_loadName_cell I.ok.kind hk hc hcell fin) hd
  ·exact wpAny_Name (wpAny_loadName_free I.ok.kind hk hc hcell fin hcd) hd
def aF:PE X (.Constant (.int i) j pos) (tC (.int i)):=λ_ _ _ H _ I h=>wpAny_Constant_int #[.int i,H,I.tok _,#[9],h]
def pe_bl:PE X (.Constant (.bool b) j pos) (tC (.bl b)):=λ_ _ _ H _ I h=>Constant_bool #[.bl b,H,I,8,h]
def cB:PE X (.Constant .none j pos) (tC .non):=λ_ _ _ H _ I h=>Constant_none #[.non,H,I,8,h]
def aT:PE X (.Constant (.str x) j pos) (tC (.str x)):=λ_ _ _ H _ I h=>Calls.Constant_str #[.str x,H,I.tok _,#[9],h]
abbrev Gl(X:Cx)(x:Str):Prop:=X.env.kindOf x=some .globalImplicit
def dU(I:Inv X pins σ H s)(hg:Gl X x)(hm:X.mg x=some u)(h:Q u s)
  (hd:(x==("__debug__":Str))=false:=by decide):wpAny (model X.prog X.w) X.A (eval (.Name x pos) X.env) Q E s:=
 Calls.Name_function_global I.ok.kind hg (Calls.loadGlobal_global (by rw[I.ok.glob];exact I.mod.glob.keeps I.bk) hm h) hd
def ld_blt(I:Inv X pins σ H s)(hg:Gl X x)(hm:X.mg x=none)(hv:bootBuiltins x=some u)(h:Q u s)
  (hn:x≠"__name__":=by decide)(hd:(x==("__debug__":Str))=false:=by decide):wpAny (model X.prog X.w) X.A (eval (.Name x pos) X.env) Q E s:=by
 let#[c,a,b]:=I.mod.blt;exact Calls.Name_function_global I.ok.kind hg (Calls.loadGlobal_builtin (by rw[I.ok.glob];exact I.mod.glob.keeps I.bk) hm (by rw[I.ok.blt];exact a.keeps I.bk) ((b x hn).trans hv) h) hd
def cP(hg:Gl X x)(hm:X.mg x=some u)(r:RelV v u)(hd:(x==("__debug__":Str))=false:=by decide):PE X (.Name x pos) (tC v):=
 λ_ _ _ H _ I h=>dU I hg hm #[v,H,I,r,h] hd
def gz(hg:Gl X x)(hm:X.mg x=none)(hv:bootBuiltins x=some u)(r:RelV v u)(hn:x≠"__name__":=by decide)(hd:(x==("__debug__":Str))=false:=by decide):PE X (.Name x pos) (tC v):=
 λ_ _ _ H _ I h=>ld_blt I hg hm hv #[v,H,I,r,h] hn hd
abbrev t2I(ta tb:TE)(k:Int->Int->Hp->Prop):St->Hp->Prop:=λσ H=>ta σ H λx H1=>tb σ H1 λy H2=>∃i j,x=.int i/\y=.int j/\k i j H2
variable{a b:Expr}{ta tb:TE}{pos:Pos}
abbrev PC(X:Cx)(op:CmpOp)(a b:Expr)(t:TE):Prop:=
 ∀(pins:List (Addr×Obj))(s:Shared)(σ:St)(H:Hp)(Q:VK),Inv X pins σ H s->t σ H Q->
  wpAny (model X.prog X.w) X.A (eval a X.env) (λv s₁=>wpAny (model X.prog X.w) X.A (eval b X.env) (λu s₂=>wpAny (model X.prog X.w) X.A (compareOp op v u) (EP X pins σ Q) X.xe s₂) X.xe s₁) X.xe s
abbrev tCmp(p:Int->Int->Bool)(ta tb:TE):TE:=λσ H Q=>t2I ta tb (λi j H2=>Q (.bl (p i j)) H2) σ H
inductive ItB(Q:Bool->Hp->Prop)(x:V)(H1:Hp):Prop
 |mk(c:_)(h1:x=.bl c)(h2:Q c H1):ItB Q x H1
abbrev tB(t:TE):TT:=λσ H Q=>t σ H λx H1=>ItB Q x H1
def eC(h:PC X op a b t)(h1:behindInMarks op b=false:=by first|exact nobehind _ (by decide) (by decide)|rfl):PT X (.Compare a [op] [b] pos) (tB t):=by
 intro e s σ H Q I l;refine wpAny_isTrue_Compare1 (thn (h e s σ H _ I l) λv y h1=>thn h1 λu w i=>thn i λc r⟨x,m,j,o,p⟩=>?_) h1;let#[d,8,q]:=p
 cases o;exact wpAny_truthy_bool #[m,j,q]
def cG(h:PE X e t)(he:∀whole,isTrue e X.env whole=(do let v<-whole;standAt e.pos;holding [v] (truthy v)):=by intro _;rfl):PT X e (tB t):=by
 intro a s σ H Q I j;refine isTrue_plain (thn (h a s σ H _ I j) λv m⟨x,l,i,b,c⟩=>?_) (he _);let#[d,8,q]:=c
 cases b;exact wpAny_truthy_bool #[l,i,q]
variable{tA tB':TT}{rest:List Expr}
abbrev tAnd(t u:TT):TT:=λσ H Q=>t σ H λc H1=>if c=true then u σ H1 Q else Q false H1
abbrev tOr(t u:TT):TT:=λσ H Q=>t σ H λc H1=>if c=true then Q true H1 else u σ H1 Q
abbrev tNot(t:TT):TT:=λσ H Q=>t σ H λc H1=>Q (!c) H1
def dP(ha:PT X a tA):PW X (.BoolOp .And [a] pos) tA:=by
 intro d b s σ H Q I h;refine isTrue_and (thn (ha b s σ H Q I h) λc i e=>?_)
 cases c with
 |true=>exact isTrue_and_nil e
 |false=>exact e
def hF(ha:PT X a tA):PW X (.BoolOp .Or [a] pos) tA:=by
 intro d b s σ H Q I h;refine isTrue_or (thn (ha b s σ H Q I h) λc i e=>?_)
 cases c with
 |false=>exact isTrue_or_nil e
 |true=>exact e
def d9(ha:PT X a tA)(hb:PW X (.BoolOp .And (b::rest) pos) tB'):PW X (.BoolOp .And (a::b::rest) pos) (tAnd tA tB'):=by
 intro l d s σ H Q I h;refine isTrue_and (thn (ha d s σ H _ I h) λc m⟨j,i,e⟩=>?_)
 cases c with
 |true=>exact hb l d m σ j Q i e
 |false=>exact#[j,i,e]
def gL(ha:PT X a tA)(hb:PW X (.BoolOp .Or (b::rest) pos) tB'):PW X (.BoolOp .Or (a::b::rest) pos) (tOr tA tB'):=by
 intro l d s σ H Q I h;refine isTrue_or (thn (ha d s σ H _ I h) λc m⟨j,i,e⟩=>?_)
 cases c with
 |true=>exact#[j,i,e]
 |false=>exact hb l d m σ j Q i e
def fO(ha:PT X a tA):PT X (.UnaryOp .Not a pos) (tNot tA):=by
 intro b s σ H Q I h;exact isTrue_not (ha b s σ H (λc d=>Q (!c) d) I h)
abbrev tAndV(ta tb:TE):TE:=λσ H Q=>ta σ H λx H1=>∃c,x=.bl c/\if c=true then tb σ H1 Q else Q (.bl false) H1
abbrev tNotV(ta:TE):TE:=λσ H Q=>ta σ H λx H1=>∃c,x=.bl c/\Q (.bl (!c)) H1
def pe_one(h:PE X a t):PE X (.BoolOp op [a] pos) t:=λb s σ H Q I c=>BoolOp_one (h b s σ H Q I c)
def pe_and(ha:PE X a ta)(hb:PE X (.BoolOp .And (b::rest) pos) tb):PE X (.BoolOp .And (a::b::rest) pos) (tAndV ta tb):=by
 intro d s σ H Q I h;refine BoolOp_and (thn (ha d s σ H _ I h) λv m⟨x,j,i,l,e⟩=>?_);let#[c,8,e]:=e
 cases l;refine wpAny_truthy_bool ?_
 cases c with
 |true=>exact hb d m σ j Q i e
 |false=>exact#[.bl false,j,i,8,e]
def pe_not(ha:PE X a ta):PE X (.UnaryOp .Not a pos) (tNotV ta):=by
 intro b s σ H Q I h;refine UnaryOp_ (thn (ha b s σ H _ I h) λv l⟨x,j,i,e,d⟩=>?_);let#[c,8,d]:=d
 cases e;exact not_of (wpAny_truthy_bool #[.bl (!c),j,i,8,d])
abbrev tIf(t:TT)(ta tb:TE):TE:=λσ H Q=>t σ H λc H1=>if c=true then ta σ H1 Q else tb σ H1 Q
def jn(hc:PT X c tA)(ha:PE X a ta)(hb:PE X b tb):PE X (.IfExp c a b pos) (tIf tA ta tb):=by
 intro e s σ H Q I h;refine wpAny_IfExp (thn (hc e s σ H _ I h) λd j⟨m,l,i⟩=>?_)
 cases d with
 |true=>exact ha e j σ m Q l i
 |false=>exact hb e j σ m Q l i
end
end L2
namespace L2
open PySem PySem.Spec PyProof.Rows
abbrev SqL(K:W.Frag)(H:Hp)(a:Addr)(xs:List V):Prop:=
 Rd H a (.lst xs)∨
  ∃(o:Obj)(its:Array Value)(n:Nat),K.lookup a=some o/\o.cls=.type "list"/\o.dict=none/\o.data=.seq its n/\its.size<=sizeLine/\Vals xs its.toList
abbrev SqT(K:W.Frag)(H:Hp)(a:Addr)(xs:List V):Prop:=
 Rd H a (.tup xs)∨
  ∃(o:Obj)(its:Array Value)(n:Nat),K.lookup a=some o/\o.cls=.type "tuple"/\o.data=.seq its n/\its.size<=sizeLine/\Vals xs its.toList
abbrev absV:Value->Option V
 |.none=>some .non
 |.bool b=>some (.bl b)
 |.int i _=>some (.int i)
 |.str x _=>some (.str x)
 |.bytes b _=>some (.byt b)
 |.float b _=>some (.flt b)
 |.ref a=>some (.ref a)
 |.type n=>some (.ty n)
 |_=>none
def RelV.abs(r:RelV x u):absV u=some x:=by
 cases x with
 |non=>cases r;rfl
 |bl _=>cases r;rfl
 |int _=>let#[t,8]:=r;rfl
 |str _=>let#[t,8]:=r;rfl
 |byt _=>let#[t,8]:=r;rfl
 |flt _=>let#[t,8]:=r;rfl
 |ref _=>cases r;rfl
 |ty _=>cases r;rfl
def RelV.inj(r:RelV x u)(q:RelV y u):x=y:=kh (r.abs.symm.trans q.abs)
def Vals.inj:∀{xs ys:List V}{us:List Value},Vals xs us->Vals ys us->xs=ys
 |_,_,_,.nil,.nil=>rfl
 |_,_,_,.cons r t,.cons r' t'=>by rw[r.inj r',Vals.inj t t']
section
variable{X:Cx}{pins:List (Addr×Obj)}{σ:St}{H:Hp}{s:Shared}{a:Addr}{xs ys:List V}
def SqL.of{K:W.Frag}(h:H a=some (.lst xs)):SqL K H a xs:=.inl (.inl h)
def SqT.of{K:W.Frag}(h:H a=some (.tup xs)):SqT K H a xs:=.inl (.inl h)
def Inv.list(I:Inv X pins σ H s)(h:SqL X.K H a xs):∃its:List Value,Vals xs its/\PlainL s.heap a its.toArray/\xs.length<=sizeLine:=by
 rcases h with h|⟨o,its,n,hk,hc,hd,hs,hz,r⟩
 ·let#[z,its,n,r,e]:=h.ok I.hok;exact#[its,r,#[_,n,e,8,8,8],z]
 ·refine#[its.toList,r,#[o,n,I.kIn a o hk,hc,hd,by simpa using hs],?_];have e:=r.length;simp only[ki]at e
  lia
def Inv.tuple(I:Inv X pins σ H s)(h:SqT X.K H a xs):∃its:List Value,Vals xs its/\IsTup s.heap a its.toArray/\xs.length<=sizeLine:=by
 rcases h with h|⟨o,its,n,hk,hc,hs,hz,r⟩
 ·let#[z,its,r,p]:=h.ok I.hok;exact#[its,r,p,z]
 ·refine#[its.toList,r,#[o,I.kIn a o hk,hc,n,by simpa using hs],?_];have e:=r.length;simp only[ki]at e
  lia
def Inv.list_inj(I:Inv X pins σ H s)(h:SqL X.K H a xs)(h':SqL X.K H a ys):xs=ys:=by
 let#[b,r,#[o,n,e,_,_,d],_]:=I.list h;let#[its',j,#[l,m,c,_,_,i],_]:=I.list h';rw[e]at c;cases c;rw[d]at i;injection i with d1 _
 have:b=its':=by simpa using kI Array.toList d1
 subst this;exact r.inj j
def Inv.tuple_inj(I:Inv X pins σ H s)(h:SqT X.K H a xs)(h':SqT X.K H a ys):xs=ys:=by
 let#[b,r,#[o,e,_,n,d],_]:=I.tuple h;let#[its',j,#[l,c,_,m,i],_]:=I.tuple h';rw[e]at c;cases c;rw[d]at i;injection i with d1 _
 have:b=its':=by simpa using kI Array.toList d1
 subst this;exact r.inj j
end
nonrec abbrev Cx.wish(X:Cx)(E:Value->Shared->Prop):Cx:={X with xe:=E}
nonrec abbrev Cx.nox(X:Cx):Cx:=X.wish λ_ _=>False
def Cx.Ok.wish{X:Cx}(ok:X.Ok)(E:Value->Shared->Prop):(X.wish E).Ok:=
 #[ok.mod,ok.kind,ok.glob,ok.blt,ok.above,ok.inj,ok.has,ok.cab,ok.hd,ok.frames,ok.stk,ok.exf,ok.bs,ok.bsz,ok.noex,ok.exfs,ok.funs,ok.frf]
def Cx.Ok.unwish{X:Cx}(ok:(X.wish E).Ok):X.Ok:=
 #[ok.mod,ok.kind,ok.glob,ok.blt,ok.above,ok.inj,ok.has,ok.cab,ok.hd,ok.frames,ok.stk,ok.exf,ok.bs,ok.bsz,ok.noex,ok.exfs,ok.funs,ok.frf]
section
variable{X:Cx}{pins:List (Addr×Obj)}{σ:St}{H:Hp}{s:Shared}{E:Value->Shared->Prop}
def Inv.wish(I:Inv X pins σ H s)(E:Value->Shared->Prop):Inv (X.wish E) pins σ H s:=#[I.ok.wish E,I.os,I.bare,I.base,I.loc,I.cell,I.free,I.freeC,I.pin,I.hok,I.len]
def Inv.unwish(I:Inv (X.wish E) pins σ H s):Inv X pins σ H s:=#[I.ok.unwish,I.os,I.bare,I.base,I.loc,I.cell,I.free,I.freeC,I.pin,I.hok,I.len]
def SP.unwish(h:SP (X.wish E) pins D f s'):SP X pins D f s':=by
 cases f with
 |next=>let#[a,b,I,q]:=h;exact#[a,b,I.unwish,q]
 |brk=>let#[a,b,I,q]:=h;exact#[a,b,I.unwish,q]
 |cont=>let#[a,b,I,q]:=h;exact#[a,b,I.unwish,q]
 |ret u=>let#[v,a,b,I,r,q]:=h;exact#[v,a,b,I.unwish,r,q]
def PSs.nox{st:List Stmt}(h:PSs X.nox st t):PSs X st t:=λa s σ H D I b=>
 kr (h a s σ H D (I.wish _) b) (λ_ _ q=>q.unwish) λ_ _ z=>False.elim z
end
section
variable{X:Cx}{st:Stmt}{rest:List Stmt}{t u:TS}{e:Expr}{te:TE}{pos:Pos}
abbrev tNext:TS:=λD σ H=>D.nx σ H
abbrev tSeq(t u:TS):TS:=λD σ H=>t {D with nx:=u D} σ H
def aJ:PSs X [] tNext:=λ_ _ σ H _ I h=>wpAny_execs_nil #[σ,H,I,h]
def aB(h1:PS X st t)(h2:PSs X rest u):PSs X (st::rest) (tSeq t u):=by
 intro a s σ H D I h;refine wpAny_execs_cons (thn (h1 a s σ H {D with nx:=u D} I h) λf c q=>?_)
 cases f with
 |next=>
  let#[d,e,b,q]:=q;exact h2 a c d e D b q
 |ret v=>exact q
 |brk=>exact q
 |cont=>exact q
def aE(h1:PS X st t):PSs X [st] t:=by
 intro a s σ H D I h;refine wpAny_execs_cons (thn (h1 a s σ H D I h) λf b q=>?_)
 cases f with
 |next=>exact wpAny_execs_nil q
 |ret v=>exact q
 |brk=>exact q
 |cont=>exact q
def Inv.quiet(I:Inv X pins σ H s):interactive X.env=false:=by simp[interactive,I.ok.kind]
abbrev tDrop(te:TE):TS:=λD σ H=>te σ H λ_ H1=>D.nx σ H1
def bG(he:PE X e te)(hs:swapsWith e none pos.line X.env=pure false:=by rfl):PS X (.Expr e pos) (tDrop te):=by
 intro a s σ H D I h;exact wpAny_Expr_any (thn (he a s σ H _ I h) (by rintro v j⟨x,d,c,i,b⟩;exact#[σ,d,c,b])) I.quiet hs
abbrev tRet(te:TE):TS:=λD σ H=>te σ H D.rt
def aM(he:PE X e te):PS X (.Return (some e) pos) (tRet te):=by
 intro a s σ H D I h;exact wpAny_Return_some (thn (he a s σ H _ I h) (by rintro v j⟨x,i,d,b,c⟩;exact#[x,σ,i,d,b,c]))
abbrev tRetN:TS:=λD _ H=>D.rt .non H
def ps_retN:PS X (.Return none pos) tRetN:=λ_ _ σ H _ I h=>wpAny_Return_none #[.non,σ,H,I,8,h]
abbrev tIfS(c:TT)(t u:TS):TS:=λD σ H=>c σ H λb H1=>if b=true then t D σ H1 else u D σ H1
def aW(hc:PT X c tc)(ha:PSs X a t)(hb:PSs X b u):PS X (.If c a b pos) (tIfS tc t u):=by
 intro e s σ H D I h;refine wpAny_If (thn (hc e s σ H _ I h) λd j⟨m,l,i⟩=>?_)
 cases d with
 |true=>exact ha e j σ m D l i
 |false=>exact hb e j σ m D l i
abbrev tNever:TS:=λ_ _ _=>False
def cF:PS X st tNever:=λ_ _ _ _ _ _ h=>h.elim
end
nonrec abbrev TG:=V->St->Hp->(St->Hp->Prop)->Prop
nonrec abbrev TGs:=List V->St->Hp->(St->Hp->Prop)->Prop
abbrev PG(X:Cx)(target:Expr)(t:TG):Prop:=
 ∀(pins:List (Addr×Obj))(s:Shared)(σ:St)(H:Hp)(v:V)(u:Value)(Q:St->Hp->Prop),Inv X pins σ H s->RelV v u->t v σ H Q->
  wpAny (model X.prog X.w) X.A (assign target X.env u) (λ_ s'=>∃σ' H',Inv X pins σ' H' s'/\Q σ' H') X.xe s
abbrev PGs(X:Cx)(ts:List Expr)(t:TGs):Prop:=
 ∀(pins:List (Addr×Obj))(s:Shared)(σ:St)(H:Hp)(vs:List V)(us:List Value)(Q:St->Hp->Prop),Inv X pins σ H s->Vals vs us->t vs σ H Q->
  wpAny (model X.prog X.w) X.A (assignInOrder ((assignEach ts X.env).map (·.2)) us) (λ_ s'=>∃σ' H',Inv X pins σ' H' s'/\Q σ' H') X.xe s
nonrec abbrev TSet:=V->V->V->Hp->(Hp->Prop)->Prop
nonrec abbrev TIp:=V->V->Hp->VK->Prop
section
variable{X:Cx}{pos:Pos}
abbrev gName(i:Nat):TG:=λv σ H Q=>Q (σ.set i (some v)) H
def bD(hN:X.N.Nodup)(hi:X.N[i]?=some x)(hx:Loc X.env.scope x)(hf:X.fn x=true∨X.env.scope.names.lookup x=some .local:=by first|exact .inl rfl|exact .inr rfl|assumption):PG X (.Name x pos) (gName i):=by
 intro a s σ H v u Q I r h;exact wpAny_assign_Name (fU I hN hi hx r (λc b=>#[_,H,b,h]) hf)
abbrev gNil:TGs:=λvs σ H Q=>vs=[]/\Q σ H
inductive IgCons(t:TG)(u:TGs)(vs:List V)(σ:St)(H:Hp)(Q:St->Hp->Prop):Prop
 |mk(v:_)(r:_)(h1:vs=v::r)(h2:t v σ H λσ' H'=>u r σ' H' Q):IgCons t u vs σ H Q
abbrev gCons(t:TG)(u:TGs):TGs:=λvs σ H Q=>IgCons t u vs σ H Q
def dH:PGs X [] gNil:=by
 intro a s σ H b c Q I r h;let#[e,h]:=h;subst e
 cases r;exact assignInOrder_nil #[σ,H,I,h]
def bJ(h1:PG X e t)(h2:PGs X es u)
  (hs:(assignEach (e::es) X.env).map (·.2)=assign e X.env::(assignEach es X.env).map (·.2):=by rfl):PGs X (e::es) (gCons t u):=by
 intro a s σ H m o Q I r h;let#[v,p,l,h]:=h;subst l
 cases r with
 |cons r rr=>
  rw[hs];refine assignInOrder_cons (thn (h1 a s σ H _ _ _ I r h) λ_ j⟨d,c,b,i⟩=>?_);exact h2 a j d c _ _ Q b rr i
inductive IgTup(K:W.Frag)(n:Nat)(t:TGs)(v:V)(σ:St)(H:Hp)(Q:St->Hp->Prop):Prop
 |mk(a:_)(xs:_)(h1:v=.ref a)(h2:SqT K H a xs)(h3:xs.length=n)(h4:t xs σ H Q):IgTup K n t v σ H Q
abbrev gTup(K:W.Frag)(n:Nat)(t:TGs):TG:=λv σ H Q=>IgTup K n t v σ H Q
def gx(hc:X.calm=true)(h:PGs X es t)
  (hn:(assignEach es X.env).length=n:=by rfl)(hst:(assignEach es X.env).findIdx? (·.1)=none:=by rfl):PG X (.Tuple es k pos) (gTup X.K n t):=by
 intro c s σ H v u Q I r d;let#[a,m,x,p,l,d]:=d;subst x
 cases r;let#[q,i,j,A]:=I.tuple p;refine assign_Tuple_tuple (I.ok.hd hc) j (by simp[hn,<-l,i.length]) hst λy z=>?_;have w:Inv X c σ H {s with heap:=y}:=I.kept (t':=s.toks) λb o e=>z b o (km (jO e)) e;exact h c _ σ H m _ Q w (by simpa using i) d
abbrev tAsg(te:TE)(g:TG):TS:=λD σ H=>te σ H λx H1=>g x σ H1 D.nx
def aR(hN:X.N.Nodup)(hi:X.N[i]?=some x)(hx:Loc X.env.scope x)(he:PE X e te)(hs:swapsWith e (some (.Name x pos')) pos.line X.env=pure false:=by rfl)(hf:X.fn x=true∨X.env.scope.names.lookup x=some .local:=by first|exact .inl rfl|exact .inr rfl|assumption):
  PS X (.Assign [.Name x pos'] e pos) (tAsg te (gName i)):=by
 intro a s σ H D I h;refine wpAny_Assign_Name (thn (he a s σ H _ I h) λv o⟨y,l,j,b,c⟩=>?_) hs;exact fU j hN hi hx b (λm d=>#[_,l,d,c]) hf
inductive ItPar(i:Nat)(j:Nat)(D:Ends)(σ:St)(vs:List V)(H1:Hp):Prop
 |mk(v:_)(w:_)(h1:vs=[v,w])(h2:D.nx ((σ.set i (some v)).set j (some w)) H1):ItPar i j D σ vs H1
abbrev tPar(i j:Nat)(ta:TA):TS:=λD σ H=>ta σ H λvs H1=>ItPar i j D σ vs H1
def ps_par(hc:X.calm=true)(hN:X.N.Nodup)(hi:X.N[i]?=some x)(hj:X.N[j]?=some y)(hij:i≠j)
  (hx:X.env.scope.names.lookup x=some .local)(hy:X.env.scope.names.lookup y=some .local)(ha:PA X [a,b] ta)
  (hw:swappedStores [.Tuple [.Name x px,.Name y py] kt pt] (.Tuple [a,b] k2 pt2) X.env=pure (some [x,y]))
  (hs:swapsWithSole [.Tuple [.Name x px,.Name y py] kt pt] (.Tuple [a,b] k2 pt2) pos.line X.env=pure false:=by rfl):
  PS X (.Assign [.Tuple [.Name x px,.Name y py] kt pt] (.Tuple [a,b] k2 pt2) pos) (tPar i j ta):=by
 intro c s σ H D I h;rw[exec_Assign_arm];refine jD (lH ?_);rw[hs];refine jD (jN ?_);rw[if_neg (by decide)];refine jD (Tuple_ (thn (ha _ c s σ H _ I h) λG l⟨N,u,B,J,m⟩=>?_));let#[v,w,M,m]:=m;subst M
 obtain⟨d,u2,rfl,F,r⟩:yE2 λd u2=>G=[d,u2]×' RelV v d×' RelV w u2:=by
  cases J with
  |cons p q=>
   cases q with
   |cons p' q'=>
    cases q';exact#[_,9,p,p']
 refine wpAny_newObj_type ?_ (zL2);have L:Inv X c σ u {l with heap:=l.heap.push {cls:=.type "tuple",data:=.seq [d,u2].toArray}}:=B.kept (t':=l.toks) λb o e=>jG _ e;rw[hw];refine jD (jN ?_);show wpAny (model X.prog X.w) X.A (do rule "assign.swapped-stores";let items<-unpackItems (.ref l.heap.objs.size) 2 none;assignInOrder [λv=>bindName X.env y v,λv=>bindName X.env x v] items.reverse;pure Flow.next) _ _ _;refine jD (wpAny_rule (jD (unpackItems_tuple (items:=(List.toArray [d,u2])) (I.ok.hd hc) (IsTup.new l.heap _) λh' t=>?_)));have E:=L.kept (h':=h') (t':=l.toks) λb o e=>t b o (km (jO e)) e;show wpAny _ _ (assignInOrder [λv=>bindName X.env y v,λv=>bindName X.env x v] [u2,d]>>=λ_=>pure Flow.next) _ _ _;refine jD (assignInOrder_cons (wpAny_bindName (fU E hN hj (.inl hy) r (λP K=>?_) (.inr hy))));refine assignInOrder_cons (wpAny_bindName (fU K hN hi (.inl hx) F (λO z=>assignInOrder_nil (jN ?_)) (.inr hx)));rw[List.set_comm _ _ (k7 hij)]at z;exact#[_,u,z,m]
end
section
variable{X:Cx}{pos:Pos}
abbrev tWhile(c:TT)(tb:TS):TS:=λD σ H=>∃W:Nat->St->Hp->Prop,(∃m,W m σ H)/\∀m σ H,W m σ H->
 c σ H λb H1=>if b=true then∃N:St->Hp->Prop,(∀σ' H',N σ' H'->∃m',m'<m/\W m' σ' H')/\tb {D with nx:=N,ct:=N,bk:=D.nx} σ H1 else D.nx σ H1
def ps_while(hp:PassesOwn (model X.prog X.w) X.A X.env X.xe)(hc:PT X c tc)(hb:PSs X body tb):PS X (.While c body [] pos) (tWhile tc tb):=by
 intro a s σ H D I h;let#[W,#[F,J],d]:=h;refine wpAny_While (codeAny_whileLoop (λn z=>yE2 λσ' H'=>Inv X a σ' H' z/\W n σ' H') ?_ F #[σ,H,I,J]);rintro n G⟨l,u,A,B⟩;refine wpAny_passesOwn hp (thn (hc a G l u _ A (d n l u B)) λb E⟨y,x,j⟩=>?_)
 cases b with
 |true=>
  let#[N,w,j]:=j;rw[if_pos rfl];refine wpAny_passesOwn hp (thn (hb a E l y _ x j) λf K m=>?_)
  cases f with
  |next=>
   let#[i,e,q,t]:=m;let#[p,r,o]:=w i e t;exact#[p,r,i,e,q,o]
  |cont=>
   let#[i,e,q,t]:=m;let#[p,r,o]:=w i e t;exact#[p,r,i,e,q,o]
  |brk=>exact m
  |ret v=>exact m
 |false=>
  rw[if_neg j2];exact wpAny_execs_nil #[l,y,x,j]
end
structure It where
 go:Nat->Hp->Prop
 yld:Nat->Hp->V->Hp->Prop
 stop:Nat->Hp->Prop
abbrev iA(X:Cx)(pins:List (Addr×Obj))(H:Hp)(b:Addr):Prop:=
 H b=none/\b≠X.env.locals/\b∉X.fs/\(b∈X.ex∨X.s₀.heap.objs.size<=b)/\(∀x c,X.env.cells.lookup x=some c->c≠b)/\∀p∈X.pn++pins,p.1≠b
def Inv.fpOk(I:Inv X pins σ H s)(hb:s.heap.objs.size<=b)(hn:H' b=none):iA X pins H' b:=by
 refine#[hn,k8 (j7 I.lt hb),I.nofs hb,.inr (jK I.sz hb),λx c e z=>?_,λp a z=>?_]
 ·let#[v,q]:=I.cell x c e;exact absurd (j7 q.lt (by rw[z];exact hb)) (ku _)
 ·exact absurd (j7 (jO (I.pin p a).1) (by rw[z];exact hb)) (ku _)
structure Turn(P:Program)(w:World)(K:W.Frag)(tg:Expr)(J:It)(fp:List Addr)(it:Addr)(tn:Nat->Heap->Prop):Prop where
 mem:it∈fp
 obj:∀i h,tn i h->∀b∈fp,∃o,h.get? b=some o/\∀v,o.data≠.cell v
 keep:∀i h h',tn i h->(∀b∈fp,∀o,h.get? b=some o->h'.get? b=some o)->tn i h'
 item:∀(X:Cx),X.prog=P->X.w=w->X.K=K->X.calm=true->∀(i:Nat)(pins:List (Addr×Obj))(s:Shared)(σ:St)(H:Hp)(E:Value->Shared->Prop),Inv X pins σ H s->(∀b∈fp,iA X pins H b)->tn i s.heap->J.go i H->
  wpAny (model P w) X.A (pyNext (.ref it)) (λr s1=>∃u,r=some u/\
   wpAny (model P w) X.A (letOwnedTupleGo tg (.ref it) u) (λ_ s2=>∃x H',Inv X pins σ H' s2/\RelV x u/\J.yld i H x H'/\tn (i+1) s2.heap/\∀b∈fp,H' b=none) E s1) E s
 done:∀(X:Cx),X.prog=P->X.w=w->X.K=K->X.calm=true->∀(i:Nat)(pins:List (Addr×Obj))(s:Shared)(σ:St)(H:Hp)(E:Value->Shared->Prop),Inv X pins σ H s->(∀b∈fp,iA X pins H b)->tn i s.heap->J.stop i H->
  wpAny (model P w) X.A (pyNext (.ref it)) (λr s1=>r=none/\Inv X pins σ H s1) E s
 self:∀(A:Around)(i:Nat)(s:Shared)(Q:Value->Shared->Prop)(E:Value->Shared->Prop),tn i s.heap->Q (.ref it) s->wpAny (model P w) A (pyIter (.ref it)) Q E s
nonrec abbrev TI:=St->Hp->(It->Hp->Prop)->Prop
abbrev PIE(X:Cx)(pins:List (Addr×Obj))(σ:St)(tg:Expr)(R:It->Hp->Prop)(itv:Value)(s2:Shared):Prop:=
 ∃(it:Addr)(fp:List Addr)(tn:Nat->Heap->Prop)(J:It)(H':Hp),itv=.ref it/\Inv X pins σ H' s2/\Turn X.prog X.w X.K tg J fp it tn/\tn 0 s2.heap/\(∀b∈fp,iA X pins H' b)/\R J H'
abbrev PI(X:Cx)(tg iter:Expr)(wi:TI):Prop:=
 ∀(pins:List (Addr×Obj))(s:Shared)(σ:St)(H:Hp)(R:It->Hp->Prop),Inv X pins σ H s->wi σ H R->
  wpAny (model X.prog X.w) X.A (eval iter X.env) (λv s1=>wpAny (model X.prog X.w) X.A (pyIter v) (PIE X pins σ tg R) X.xe s1) X.xe s
def go_of(ho:s.heap.get? it=some o)(hc:o.cls=.type n)(hd:o.data=.fields vs)
    (hn:["enumerate","zip","dict_itemiterator","dict_reverseitemiterator","odict_iterator","itertools.zip_longest","itertools.pairwise"].contains n=false)(hQ:Q Unit.unit s):wpAny M A (letOwnedTupleGo tg (.ref it) u) Q E s:=by
  unfold letOwnedTupleGo
  cases tg<;>first
    |exact jN hQ
    |(cases u<;>first
        |exact jN hQ
        | (refine jD (wpAny_load ho ?_)
           rw[hc,hd];show wpAny M A (if(["enumerate","zip","dict_itemiterator","dict_reverseitemiterator","odict_iterator","itertools.zip_longest","itertools.pairwise"].contains n&&vs[0]?==some (rawInt _))=true then _ else _) Q E s;rw[if_neg (by intro h;rw[hn,Bool.false_and]at h;cases h)];exact jN hQ))
abbrev Itl(K:W.Frag)(a:Addr):It:=
 #[λi H=>∃xs x,SqL K H a xs/\xs[i]?=some x,λi H x H'=>H'=H/\∀xs,SqL K H a xs->xs[i]?=some x,λi H=>∃xs,SqL K H a xs/\xs.length<=i]
abbrev Itt(K:W.Frag)(a:Addr):It:=
 #[λi H=>∃xs x,SqT K H a xs/\xs[i]?=some x,λi H x H'=>H'=H/\∀xs,SqT K H a xs->xs[i]?=some x,λi H=>∃xs,SqT K H a xs/\xs.length<=i]
abbrev Itr(lo:Int)(n:Nat):It:=#[λi _=>i<n,λi H x H'=>H'=H/\x=.int (lo+i),λi _=>n<=i]
def turn_list{K:W.Frag}(a it:Addr):Turn P w K tg (Itl K a) [it] it (λi h=>h.IsListIter it a i)where
 mem:=by simp
 obj:=λi h j b m=>by
  have e:b=it:=by simpa using m
  subst e;let#[o,e,c,d]:=j;exact#[o,e,λv z=>by rw[d]at z;cases z]
 keep:=λi h t j k=>j.at λo e=>k it (by simp) o e
 item:=by
  intro X G O Q S i l s σ H E I y j F;subst G O Q;let#[T,x,r,L]:=F;let#[A,D,p,hz]:=I.list r;let#[u,hu,Y]:=D.get L;let#[N,B,U,R,M,J]:=y it (by simp);refine wpAny_pyNext_list_item j p.isList (x:=u) (by simpa using hu) λt q sb=>?_;have Z:Inv X l σ H {s with heap:=t}:=I.turned (t':=s.toks) (λb o m e=>(sb.2 b m).trans e) N B R M J;let#[o,e,c,d]:=id q;exact#[u,8,go_of (s:={s with heap:=t}) e c d (by decide) #[x,H,Z,Y,#[8,λys W=>by rw[I.list_inj W r];exact L],q,λb m=>(y b m).1]]
 done:=by
  intro X G O Q S i l s σ H E I y j F;subst G O Q;let#[T,r,L]:=F;let#[A,D,p,hz]:=I.list r;let#[N,B,U,R,M,J]:=y it (by simp);have hl:=D.length;exact wpAny_pyNext_list_end (I.ok.hd S) j p.isList (by simp;lia) λt eb=>#[8,I.turned (t':=s.toks) (λb o m e=>eb b o m e) N B R M J]
 self:=λ_ _ _ _ _ j h=>wpAny_pyIter_listiter j h
def turn_tuple{K:W.Frag}(a it:Addr):Turn P w K tg (Itt K a) [it] it (λi h=>h.IsTupleIter it a i) where
 mem:=by simp
 obj:=λi h j b q=>by
  have e:b=it:=by simpa using q
  subst e;let#[o,e,c,d]:=j;exact#[o,e,λv z=>by rw[d]at z;cases z]
 keep:=λi h y j k=>j.at λo e=>k it (by simp) o e
 item:=by
  intro X G O Q S i l s σ H E I A j F;subst G O Q;let#[T,x,t,L]:=F;let#[m,D,p,hz]:=I.tuple t;let#[u,hu,Y]:=D.get L;let#[N,B,U,R,M,J]:=A it (by simp);refine wpAny_pyNext_tuple_item j (show s.heap.IsTuple a m.toArray from p) (x:=u) (by simpa using hu) λy r sb=>?_;have Z:Inv X l σ H {s with heap:=y}:=I.turned (t':=s.toks) (λb o q e=>(sb.2 b q).trans e) N B R M J;let#[o,e,c,d]:=id r;exact#[u,8,go_of (s:={s with heap:=y}) e c d (by decide) #[x,H,Z,Y,#[8,λys W=>by rw[I.tuple_inj W t];exact L],r,λb q=>(A b q).1]]
 done:=by
  intro X G O Q S i l s σ H E I A j F;subst G O Q;let#[T,t,L]:=F;let#[m,D,p,hz]:=I.tuple t;let#[N,B,U,R,M,J]:=A it (by simp);have hl:=D.length;exact wpAny_pyNext_tuple_end (I.ok.hd S) j (show s.heap.IsTuple a m.toArray from p) (by simp;lia) λy eb=>#[8,I.turned (t':=s.toks) (λb o q e=>eb b o q e) N B R M J]
 self:=λ_ _ _ _ _ j h=>wpAny_pyIter_tupleiter j h
def turn_range{K:W.Frag}(it:Addr)(lo:Int)(n:Nat):Turn P w K tg (Itr lo n) [it] it (λi h=>IsRangeIter h it (lo+(i:Nat)*1) ((n:Int)-(i:Nat)) 1)where
 mem:=by simp
 obj:=λi h a b d=>by
  have e:b=it:=by simpa using d
  subst e
  exact#[_,a,λv z=>by
   have L:Data.fields _=Data.cell v:=z
   cases L]
 keep:=λi h l a k=>k it (by simp) _ a
 item:=by
  intro X r y B A i c s σ H E I m a q;subst r y B;let#[F,p,J,D,x,u]:=m it (by simp);have W:=Walks.range (prog:=X.prog) (w:=X.w) (I.ok.hd A) it lo 1 n;refine W.item i s _ _ q a λv l G Q j N=>?_;let#[t,8]:=Q;have M:Inv X c σ H {s with heap:=l,toks:=G}:=I.turned (λb o d e=>N b o (by simpa using d) e) F p D x u;refine#[9,go_of (s:={s with heap:=l,toks:=G}) (n:="range_iterator") j rfl rfl (by decide) #[.int (lo+i),H,M,#[t,?_],#[8,8],j,λb d=>(m b d).1]];rw[Int.mul_one]
 done:=by
  intro X r y B A i c s σ H E I m a q;subst r y B;let#[F,p,J,D,x,u]:=m it (by simp);exact wpAny_pyNext_range_end (I.ok.hd A) a (by have:n<=i:=q;lia) λl O=>#[8,I.turned (t':=s.toks) (λb o d e=>O b o d e) F p D x u]
 self:=λ_ _ _ _ _ a h=>wpAny_pyIter_rangeiter a h
end L2
namespace L2
open PySem PySem.Spec PyProof.Rows
section
variable{X:Cx}{tg:Expr}
inductive IiList(K:W.Frag)(R:It->Hp->Prop)(x:V)(H1:Hp):Prop
 |mk(a:_)(h1:x=.ref a)(h2:(∃xs,SqL K H1 a xs))(h3:R (Itl K a) H1):IiList K R x H1
abbrev iList(K:W.Frag)(tl:TE):TI:=λσ H R=>tl σ H λx H1=>IiList K R x H1
inductive IiTup(K:W.Frag)(R:It->Hp->Prop)(x:V)(H1:Hp):Prop
 |mk(a:_)(h1:x=.ref a)(h2:(∃xs,SqT K H1 a xs))(h3:R (Itt K a) H1):IiTup K R x H1
abbrev iTup(K:W.Frag)(tl:TE):TI:=λσ H R=>tl σ H λx H1=>IiTup K R x H1
def cU(hl:PE X l tl):PI X tg l (iList X.K tl):=by
 intro c s σ H R I h;refine thn (hl c s σ H _ I h) λv i⟨x,r,d,u,w⟩=>?_;let#[a,e,#[y,j],q]:=w;subst e
 cases u;let#[m,z,p,A]:=d.list j;refine wpAny_pyIter_list p.isList ?_;refine#[i.heap.objs.size,[i.heap.objs.size],_,_,r,8,d.kept (t':=i.toks) λb o e=>jG _ e,turn_list a _,#[_,jT _ rfl,8,8],λb t=>?_,q];have e:b=i.heap.objs.size:=by simpa using t
 subst e;exact d.fpOk (jJ _) (d.hok.fresh (jJ _))
def pi_tup(hl:PE X l tl):PI X tg l (iTup X.K tl):=by
 intro c s σ H R I h;refine thn (hl c s σ H _ I h) λv d⟨x,r,i,u,w⟩=>?_;let#[a,e,#[y,m],q]:=w;subst e
 cases u;let#[j,z,p,A]:=i.tuple m;refine wpAny_pyIter_tuple (show d.heap.IsTuple a j.toArray from p) ?_;refine#[d.heap.objs.size,[d.heap.objs.size],_,_,r,8,i.kept (t':=d.toks) λb o e=>jG _ e,turn_tuple a _,#[_,jT _ rfl,8,8],λb t=>?_,q];have e:b=d.heap.objs.size:=by simpa using t
 subst e;exact i.fpOk (jJ _) (i.hok.fresh (jJ _))
def range_it{lo hi:Int}(I:Inv X pins σ H s)(h1:-(2^62)<=lo)(h2:lo<2^62)(h3:-(2^62)<=hi)(h4:hi<2^62)
  (q:R (Itr lo (hi-lo).toNat) H):wpAny (model X.prog X.w) X.A (pyIter (.ref s.heap.objs.size)) (PIE X pins σ tg R) E {s with heap:=s.heap.push {cls:=.type "range",data:=.fields (List.toArray [.int lo t,.int hi u,.int 1 v])},toks:=tk}:=by
 refine wpAny_pyIter_range (IsRange.new ..) (small_one h1 h2 h3 h4) ?_;have a:Inv X pins σ H {s with heap:=s.heap.push {cls:=.type "range",data:=.fields (List.toArray [.int lo t,.int hi u,.int 1 v])},toks:=tk}:=I.kept λb o e=>jG _ e
 refine#[(s.heap.push {cls:=.type "range",data:=.fields (List.toArray [.int lo t,.int hi u,.int 1 v])}).objs.size,[(s.heap.push {cls:=.type "range",data:=.fields (List.toArray [.int lo t,.int hi u,.int 1 v])}).objs.size],_,_,H,8,
  a.kept (t':=tk) λb o e=>jG _ e,turn_range _ lo (hi-lo).toNat,?_,λb c=>?_,q]
 ·have h:lo+((0:Nat):Int)*1=lo:=by simp
  have d:(((hi-lo).toNat:Nat):Int)-((0:Nat):Int)=Builtin.Range.rangeSize lo hi 1:=by rw[rangeSize_one];split<;>lia
  show IsRangeIter _ _ (lo+((0:Nat):Int)*1) ((((hi-lo).toNat:Nat):Int)-((0:Nat):Int)) 1;rw[h,d];exact jT _ rfl
 ·have e:b=(s.heap.push {cls:=.type "range",data:=.fields (List.toArray [.int lo t,.int hi u,.int 1 v])}).objs.size:=by simpa using c
  subst e;exact a.fpOk (jJ _) (a.hok.fresh (jJ _))
abbrev iRng1(ta:TA):TI:=λσ H R=>ta σ H λvs H1=>∃j:Int,vs=[.int j]/\-(2^62)<=j/\j<2^62/\R (Itr 0 j.toNat) H1
def pi_range1(hg:Gl X "range")(hm:X.mg "range"=none)(ha:PA X [a] ta)(hs:starEach [a] X.env=[(false,eval a X.env)]:=by rfl):PI X tg (.Call (.Name "range" p) [a] [] pos) (iRng1 ta):=by
 intro b s σ H R I h;refine Call_ (ld_blt I hg hm boot_range (PyProof.Rows.callWith_type1 (thn (ha pos b s σ H _ I h) λu v⟨m,o,i,l,c⟩=>?_) hs rfl));let#[j,e,c,d,q]:=c;subst e
 cases l with
 |cons r rr=>
  cases rr;let#[t,8]:=r;exact call_range_1 (range_it i () () c d (by simpa using q))
abbrev tFor(wi:TI)(g:TG)(tb:TS):TS:=λD σ H=>wi σ H λJ H1=>∃W:Nat->Nat->St->Hp->Prop,(∃m,W 0 m σ H1)/\∀i m σ H,W i m σ H->
 (J.stop i H/\D.nx σ H)∨(J.go i H/\∃N:St->Hp->Prop,(∀σ' H',N σ' H'->∃m',m'<m/\W (i+1) m' σ' H')/\∀x H',J.yld i H x H'->g x σ H' λσ2 H2=>tb {D with nx:=N,ct:=N,bk:=D.nx} σ2 H2)
abbrev pinsAt(fp:List Addr)(h:Heap):List (Addr×Obj):=fp.filterMap λb=>(h.get? b).map λo=>(b,o)
def cN(hb:b∈fp)(e:h.get? b=some o):(b,o)∈pinsAt fp h:=List.mem_filterMap.mpr #[b,hb,by rw[e];rfl]
def of_pinsAt(hp:p∈pinsAt fp h):p.1∈fp/\h.get? p.1=some p.2:=by
 let#[b,c,e]:=List.mem_filterMap.mp hp
 cases q:h.get? b with
 |none=>rw[q]at e;cases e
 |some o=>
  rw[q]at e;have a:(b,o)=p:=kh e;subst a;exact#[c,q]
def Inv.pinned(I:Inv X pins σ H s)(hf:∀b∈fp,iA X pins H b)(ho:∀b∈fp,∃o,s.heap.get? b=some o/\∀v,o.data≠.cell v):Inv X (pins++pinsAt fp s.heap) σ H s:=
 I.pins_of λp l=>(lC.mp l).elim (λz=>I.pin p (jS _ z)) λz=>by
  let#[a,e]:=of_pinsAt z;let#[j,i,h,_]:=hf p.1 a;let#[o,c,d]:=ho p.1 a;rw[e]at c;cases c;exact#[e,j,i,h,d]
def Inv.unpinned(I:Inv X (pins++pl) σ H s):Inv X pins σ H s:=I.pins_of λp a=>I.pin p (jS _ (List.mem_append_left _ a))
def cS(hp:PassesOwn (model X.prog X.w) X.A X.env X.xe)(hc:X.calm=true)(hi:PI X tg iter wi)(hg:PG X tg g)(hb:PSs X body tb)
  (hs:∀x,foldedSetIterable iter X.env x=pure x:=by intro _;rfl):PS X (.For tg iter body [] pos) (tFor wi g tb):=by
 intro a s σ H D I h;refine wpAny_For (thn (hi a s σ H _ I h) λv s1 h1=>thn h1 λaa s2 h2=>?_) hs;let#[it,A,U,J,H2,e,I2,T,K,Z,W,#[m0,w0],B]:=h2;subst e;have p:∀{H':Hp},(∀b∈A,H' b=none)->∀b∈A,iA X a H' b:=λhn b hb=>#[hn b hb,(Z b hb).2];refine codeAny_forLoop_any (λn Y=>yE3 λi σ' H'=>Inv X a σ' H' Y×' U i Y.heap×'(∀b∈A,H' b=none)×' W i n σ' H') ?_ m0 #[0,σ,H2,I2,K,λb hb=>(Z b hb).1,w0];rintro n R⟨i,z,G,Q,E,y,w3⟩;rcases B i n z G w3 with⟨stop,qn⟩|⟨go,N,hN,step⟩
 ·refine wpAny_passesOwn hp (thn (T.done X rfl rfl rfl hc i a R z G X.xe Q (p y) E stop) λr s4⟨P,I4⟩=>?_);subst P;exact wpAny_execs_nil #[z,G,I4,qn]
 ·refine wpAny_passesOwn hp (thn (T.item X rfl rfl rfl hc i a R z G X.xe Q (p y) E go) λr s4⟨u,P,h4⟩=>?_);subst P;refine wpAny_passesOwn hp (thn h4 λ_ s5⟨x,S,I5,r5,y5,w,O⟩=>?_);have M:=I5.pinned (p O) (T.obj _ _ w);refine wpAny_passesOwn hp (thn (hg _ s5 z S x u _ M r5 (step x S y5)) λ_ s6⟨σ6,H6,I6,q6⟩=>?_);refine wpAny_passesOwn hp (thn (hb _ s6 σ6 H6 _ I6 q6) λf L t=>?_)
  have j:∀{c:St}{l:Hp},Inv X (a++pinsAt A s5.heap) c l L->N c l->∃m,m<n/\yE3 λi σ' H'=>Inv X a σ' H' L×' U i L.heap×'(∀b∈A,H' b=none)×' W i m σ' H':=λ{c l}q F=>by
   let#[m',hm,w7]:=hN c l F;refine#[m',hm,i+1,c,l,q.unpinned,T.keep _ _ _ w λb hb o e=>(q.pin (b,o) (jS _ (jS _ (cN hb e)))).1,λb hb=>?_,w7];let#[o,e,d]:=T.obj _ _ w b hb;exact(q.pin (b,o) (jS _ (jS _ (cN hb e)))).2.1
  cases f with
  |next=>let#[c,l,q,F]:=t;exact j q F
  |cont=>let#[c,l,q,F]:=t;exact j q F
  |brk=>let#[c,l,q,t]:=t;exact#[c,l,q.unpinned,t]
  |ret v=>let#[x7,c,l,q,r7,t]:=t;exact#[x7,c,l,q.unpinned,r7,t]
end
def c8{K:W.Frag}{g:TG}{tb:TS}{D:Ends}(Pv:Nat->St->Hp->Prop)(h0:Pv 0 σ H)(hl:∀i σ H,i<=xs.length->Pv i σ H->SqL K H a xs)
  (hs:∀i x σ H,xs[i]?=some x->Pv i σ H->g x σ H λσ2 H2=>tb {D with nx:=Pv (i+1),ct:=Pv (i+1),bk:=D.nx} σ2 H2)(hd:∀σ H,Pv xs.length σ H->D.nx σ H):
  ∃W:Nat->Nat->St->Hp->Prop,(∃m,W 0 m σ H)/\∀i m σ H,W i m σ H->
   ((Itl K a).stop i H/\D.nx σ H)∨((Itl K a).go i H/\∃N:St->Hp->Prop,(∀σ' H',N σ' H'->∃m',m'<m/\W (i+1) m' σ' H')/\∀x H',(Itl K a).yld i H x H'->g x σ H' λσ2 H2=>tb {D with nx:=N,ct:=N,bk:=D.nx} σ2 H2):=by
 refine#[λi m σ H=>m=xs.length-i×' i<=xs.length×' Pv i σ H,#[xs.length,by simp,jZ _,h0],?_];rintro i m σ H⟨rfl,hi,p⟩;have q:=hl i σ H hi p;by_cases hlt:i<xs.length
 ·refine .inr #[#[xs,xs[i],q,by simp[hlt]],Pv (i+1),λσ' H' b=>#[xs.length-(i+1),4,8,hlt,b],λx H' y=>?_];let#[e,y]:=y;subst e;exact hs i x σ _ (y xs q) p
 ·have e:i=xs.length:=by lia
  subst e;exact .inl #[#[xs,q,jJ _],hd σ H p]
def for_tup{K:W.Frag}{g:TG}{tb:TS}{D:Ends}(Pv:Nat->St->Hp->Prop)(h0:Pv 0 σ H)(hl:∀i σ H,i<=xs.length->Pv i σ H->SqT K H a xs)
  (hs:∀i x σ H,xs[i]?=some x->Pv i σ H->g x σ H λσ2 H2=>tb {D with nx:=Pv (i+1),ct:=Pv (i+1),bk:=D.nx} σ2 H2)(hd:∀σ H,Pv xs.length σ H->D.nx σ H):
  ∃W:Nat->Nat->St->Hp->Prop,(∃m,W 0 m σ H)/\∀i m σ H,W i m σ H->
   ((Itt K a).stop i H/\D.nx σ H)∨((Itt K a).go i H/\∃N:St->Hp->Prop,(∀σ' H',N σ' H'->∃m',m'<m/\W (i+1) m' σ' H')/\∀x H',(Itt K a).yld i H x H'->g x σ H' λσ2 H2=>tb {D with nx:=N,ct:=N,bk:=D.nx} σ2 H2):=by
 refine#[λi m σ H=>m=xs.length-i×' i<=xs.length×' Pv i σ H,#[xs.length,by simp,jZ _,h0],?_];rintro i m σ H⟨rfl,hi,p⟩;have q:=hl i σ H hi p;by_cases hlt:i<xs.length
 ·refine .inr #[#[xs,xs[i],q,by simp[hlt]],Pv (i+1),λσ' H' b=>#[xs.length-(i+1),4,8,hlt,b],λx H' y=>?_];let#[e,y]:=y;subst e;exact hs i x σ _ (y xs q) p
 ·have e:i=xs.length:=by lia
  subst e;exact .inl #[#[xs,q,jJ _],hd σ H p]
def for_range{lo:Int}{g:TG}{tb:TS}{D:Ends}(Pv:Nat->St->Hp->Prop)(h0:Pv 0 σ H)
  (hs:∀i σ H,i<n->Pv i σ H->g (.int (lo+i)) σ H λσ2 H2=>tb {D with nx:=Pv (i+1),ct:=Pv (i+1),bk:=D.nx} σ2 H2)(hd:∀σ H,Pv n σ H->D.nx σ H):
  ∃W:Nat->Nat->St->Hp->Prop,(∃m,W 0 m σ H)/\∀i m σ H,W i m σ H->
   ((Itr lo n).stop i H/\D.nx σ H)∨((Itr lo n).go i H/\∃N:St->Hp->Prop,(∀σ' H',N σ' H'->∃m',m'<m/\W (i+1) m' σ' H')/\∀x H',(Itr lo n).yld i H x H'->g x σ H' λσ2 H2=>tb {D with nx:=N,ct:=N,bk:=D.nx} σ2 H2):=by
 refine#[λi m σ H=>m=n-i×' i<=n×' Pv i σ H,#[n,by simp,jZ _,h0],?_];rintro i m σ H⟨rfl,hi,p⟩;by_cases hlt:i<n
 ·refine .inr #[hlt,Pv (i+1),λσ' H' a=>#[n-(i+1),4,8,hlt,a],λx H' y=>?_];let#[e,y]:=y;subst e y;exact hs i σ _ hlt p
 ·have e:i=n:=by lia
  subst e;exact .inl #[jJ _,hd σ H p]
def while_by(Pv:St->Hp->Prop)(μ:St->Hp->Nat)(h0:Pv σ H)
  (hs:∀σ H,Pv σ H->c σ H λb H1=>if b=true then tb {D with nx:=λσ' H'=>Pv σ' H'/\μ σ' H'<μ σ H,ct:=λσ' H'=>Pv σ' H'/\μ σ' H'<μ σ H,bk:=D.nx} σ H1 else D.nx σ H1)
  (mono:∀σ H Q Q',(∀b H1,Q b H1->Q' b H1)->c σ H Q->c σ H Q'):tWhile c tb D σ H:=by
 refine#[λm σ H=>m=μ σ H/\Pv σ H,#[9,h0],?_];rintro m σ H⟨rfl,p⟩;refine mono σ H _ _ (λb H1 q=>?_) (hs σ H p)
 cases b with
 |true=>exact#[_,(by rintro σ' H'⟨a,l⟩;exact#[_,l,8,a]),q]
 |false=>exact q
end L2
namespace L2
open PySem PySem.Spec PyProof.Rows
nonrec abbrev R2:=V->V->Hp->VK->Prop
abbrev OpR(X:Cx)(f:Value->Value->Sem Value)(r:R2):Prop:=
 ∀(pins:List (Addr×Obj))(s:Shared)(σ:St)(H:Hp)(x y:V)(v u:Value)(Q:VK),Inv X pins σ H s->RelV x v->RelV y u->r x y H Q->
  wpAny (model X.prog X.w) X.A (f v u) (EP X pins σ Q) X.xe s
abbrev UnR(X:Cx)(f:Value->Sem Value)(r:V->Hp->VK->Prop):Prop:=
 ∀(pins:List (Addr×Obj))(s:Shared)(σ:St)(H:Hp)(x:V)(v:Value)(Q:VK),Inv X pins σ H s->RelV x v->r x H Q->
  wpAny (model X.prog X.w) X.A (f v) (EP X pins σ Q) X.xe s
abbrev et(X:Cx)(f:Value)(r:List V->Hp->VK->Prop):Prop:=
 ∀(pins:List (Addr×Obj))(s:Shared)(σ:St)(H:Hp)(xs:List V)(us:List Value)(Q:VK),Inv X pins σ H s->Vals xs us->r xs H Q->
  wpAny (model X.prog X.w) X.A (call f us) (EP X pins σ Q) X.xe s
abbrev tOp(r:R2)(ta tb:TE):TE:=λσ H Q=>ta σ H λx H1=>tb σ H1 λy H2=>r x y H2 Q
abbrev tUn(r:V->Hp->VK->Prop)(ta:TE):TE:=λσ H Q=>ta σ H λx H1=>r x H1 Q
abbrev rI(C:Int->Int->Prop)(g:Int->Int->V):R2:=λx y H Q=>∃i j,x=.int i/\y=.int j/\C i j/\Q (g i j) H
inductive IrI0(g:Int->Int->V)(x:V)(y:V)(H:Hp)(Q:VK):Prop
 |mk(i:_)(j:_)(h1:x=.int i)(h2:y=.int j)(h3:Q (g i j) H):IrI0 g x y H Q
abbrev rI0(g:Int->Int->V):R2:=λx y H Q=>IrI0 g x y H Q
inductive IrU(g:Int->V)(x:V)(H:Hp)(Q:VK):Prop
 |mk(i:_)(h1:x=.int i)(h2:Q (g i) H):IrU g x H Q
abbrev rU(g:Int->V):V->Hp->VK->Prop:=λx H Q=>IrU g x H Q
section
variable{X:Cx}{a b c:Expr}{ta tb tc:TE}{pos:Pos}
def binT(ha:PE X a ta)(hb:PE X b tb){R:V->V->Hp->Prop}(I:Inv X pins σ H s)
  (h:ta σ H λx H1=>tb σ H1 λy H2=>R x y H2){f:Value->Value->Sem Value}
  (hf:∀v u s2 x y H2,Inv X pins σ H2 s2->RelV x v->RelV y u->R x y H2->wpAny (model X.prog X.w) X.A (f v u) Q X.xe s2):
  wpAny (model X.prog X.w) X.A (eval a X.env) (λv s₁=>wpAny (model X.prog X.w) X.A (eval b X.env) (λu s₂=>wpAny (model X.prog X.w) X.A (f v u) Q X.xe s₂) X.xe s₁) X.xe s:=by
 refine thn (ha pins s σ H _ I h) λv e⟨x,H1,l,c,d⟩=>?_;refine thn (hb pins e σ H1 _ l d) λu s2⟨y,H2,j,m,i⟩=>?_;exact hf v u s2 x y H2 j c m i
def aQ(ho:OpR X (binaryOp op) r)(ha:PE X a ta)(hb:PE X b tb):PE X (.BinOp a op b pos) (tOp r ta tb):=by
 intro c s σ H Q I h;exact wpAny_BinOp (binT ha hb I h λv u e x y l j d i q=>ho c e σ l x y v u Q j d i q)
def pe_un(ho:UnR X (unaryOp op) r)(ha:PE X a ta):PE X (.UnaryOp op a pos) (tUn r ta):=by
 intro b s σ H Q I h;exact UnaryOp_ (thn (ha b s σ H _ I h) (by rintro v e⟨x,j,i,c,d⟩;exact ho b e σ j x v Q i c d))
def opI{g:Int->Int->Int}
  (rule:∀(i j:Int)(t u:Tok)(s:Shared)(Q:Value->Shared->Prop)(E:Value->Shared->Prop),C i j->Q (.int (g i j) s.toks) {s with toks:=s.toks+1}->wpAny (model X.prog X.w) X.A (f (.int i t) (.int j u)) Q E s):
  OpR X f (rI C λi j=>.int (g i j)):=by
 intro a s σ H x y v u Q I b d h;let#[i,j,8,8,c,q]:=h;let#[t,8]:=b;let#[e,8]:=d;exact rule i j t e s _ _ c #[.int (g i j),H,I.tok _,#[9],q]
def opI0{g:Int->Int->Int}
  (rule:∀(i j:Int)(t u:Tok)(s:Shared)(Q:Value->Shared->Prop)(E:Value->Shared->Prop),Q (.int (g i j) s.toks) {s with toks:=s.toks+1}->wpAny (model X.prog X.w) X.A (f (.int i t) (.int j u)) Q E s):
  OpR X f (rI0 λi j=>.int (g i j)):=by
 intro a s σ H x y v u Q I b c h;let#[i,j,8,8,q]:=h;let#[t,8]:=b;let#[d,8]:=c;exact rule i j t d s _ _ #[.int (g i j),H,I.tok _,#[9],q]
def opB0{g:Int->Int->Bool}
  (rule:∀(i j:Int)(t u:Tok)(s:Shared)(Q:Value->Shared->Prop)(E:Value->Shared->Prop),Q (.bool (g i j)) s->wpAny (model X.prog X.w) X.A (f (.int i t) (.int j u)) Q E s):
  OpR X f (rI0 λi j=>.bl (g i j)):=by
 intro a s σ H x y v u Q I b c h;let#[i,j,8,8,q]:=h;let#[t,8]:=b;let#[d,8]:=c;exact rule i j t d s _ _ #[.bl (g i j),H,I,8,q]
abbrev CDiv(i j:Int):Prop:=0<j/\j<1073741824
abbrev CPow(i j:Int):Prop:=0<=j/\j<=1000000/\i.natAbs<2^64
def fP:OpR X (binaryOp .Add) (rI0 λi j=>.int (i+j)):=opI0 λ_ _ _ _ _ _ _ q=>add_int q
def op_sub:OpR X (binaryOp .Sub) (rI0 λi j=>.int (i-j)):=opI0 λ_ _ _ _ _ _ _ q=>sub_int q
def dA:OpR X (binaryOp .FloorDiv) (rI CDiv λi j=>.int (i/j)):=opI λi j _ _ _ _ _ a q=>by
 have c:(0:Int)<j:=a.1;have b:j<1073741824:=a.2;exact floordiv_int (by omega) (by rw[kQ i (by omega)];exact q) (.inl (PyProof.noPylong_small (by omega)))
def bQ:OpR X (binaryOp .Mod) (rI (λ_ j=>0<j) λi j=>.int (i%j)):=opI λi j _ _ _ _ _ a q=>by
 have b:(0:Int)<j:=a;exact mod_int' () (by rw[Int.fmod_eq_emod_of_nonneg i ()];exact q)
def iV:OpR X (binaryOp .Pow) (rI CPow λi j=>.int (i^j.toNat)):=opI λ_ _ _ _ _ _ _ a q=>pow_int_small a.1 a.2.1 a.2.2 q
def unI{g:Int->Int}
  (rule:∀(i:Int)(t:Tok)(s:Shared)(Q:Value->Shared->Prop)(E:Value->Shared->Prop),Q (.int (g i) s.toks) {s with toks:=s.toks+1}->wpAny (model X.prog X.w) X.A (f (.int i t)) Q E s):
  UnR X f (rU λi=>.int (g i)):=by
 intro a s σ H x v Q I b h;let#[i,8,q]:=h;let#[t,8]:=b;exact rule i t s _ _ #[.int (g i),H,I.tok _,#[9],q]
def un_neg:UnR X (unaryOp .USub) (rU λi=>.int (-i)):=unI λ_ _ _ _ _ q=>neg_int q
end
abbrev scal:V->V->Bool
 |.non,.non=>true|.non,.int _=>true|.int _,.non=>true|.non,.bl _=>true|.bl _,.non=>true|.non,.str _=>true|.str _,.non=>true
 |.int _,.int _=>true|.bl _,.bl _=>true|.str _,.str _=>true|.byt _,.byt _=>true
 |.int _,.str _=>true|.str _,.int _=>true|.bl _,.str _=>true|.str _,.bl _=>true
 |_,_=>false
abbrev rEq:R2:=λx y H Q=>scal x y=true/\Q (.bl (decide (x=y))) H
abbrev rNe:R2:=λx y H Q=>scal x y=true/\Q (.bl (!decide (x=y))) H
def dec_int:decide (V.int i=V.int j)=(i==j):=by
 rw[Bool.eq_iff_iff];simp
def dec_bl:decide (V.bl i=V.bl j)=(i==j):=by
 rw[Bool.eq_iff_iff];simp
def dec_str:decide (V.str i=V.str j)=(i==j):=by
 rw[Bool.eq_iff_iff];simp
def dec_byt:decide (V.byt i=V.byt j)=(i.toList==j.toList):=by
 rw[Bool.eq_iff_iff]
 cases i
 cases j;simp
section
variable{X:Cx}{a b c:Expr}{ta tb tc:TE}{pos:Pos}
def bR(I:Inv X pins σ H s)(q:Q (.bl k) H)(e:k=k'):EP X pins σ Q (.bool k') s:=by
 subst e;exact#[.bl k,H,I,8,q]
def bL:OpR X (compareOp .Eq) rEq:=by
 intro e s σ H x y v u Q I d a h;let#[c,q]:=h
 cases x with
 |non=>
  cases d
  cases y with
  |non=>cases a;exact PySem.EqNone.eq_none_none (bR I q (by simp))
  |bl j=>cases a;exact PySem.EqNone.eq_none_bool (bR I q (by simp))
  |int j=>let#[b,8]:=a;exact PySem.EqNone.eq_none_int (bR I q (by simp))
  |str j=>let#[b,8]:=a;exact PySem.EqNone.eq_none_str (bR I q (by simp))
  |_=>exact absurd (show false=true from c) j2
 |bl i=>
  cases d
  cases y with
  |non=>cases a;exact PySem.EqNone.eq_bool_none (bR I q (by simp))
  |bl j=>cases a;exact eq_bool (bR I q dec_bl)
  |str j=>let#[b,8]:=a;exact PySem.EqMixed.eq_bool_str (bR I q (by simp))
  |_=>exact absurd (show false=true from c) j2
 |int i=>
  let#[t,8]:=d
  cases y with
  |non=>cases a;exact PySem.EqNone.eq_int_none (bR I q (by simp))
  |int j=>let#[b,8]:=a;exact eq_int (bR I q dec_int)
  |str j=>let#[b,8]:=a;exact PySem.EqMixed.eq_int_str (bR I q (by simp))
  |_=>exact absurd (show false=true from c) j2
 |str i=>
  let#[t,8]:=d
  cases y with
  |non=>cases a;exact PySem.EqNone.eq_str_none (bR I q (by simp))
  |bl j=>cases a;exact PySem.EqMixed.eq_str_bool (bR I q (by simp))
  |int j=>let#[b,8]:=a;exact PySem.EqMixed.eq_str_int (bR I q (by simp))
  |str j=>let#[b,8]:=a;exact eq_str (bR I q dec_str)
  |_=>exact absurd (show false=true from c) j2
 |byt i=>
  let#[t,8]:=d
  cases y with
  |byt j=>let#[b,8]:=a;exact PySem.W.eq_bytes (bR I q dec_byt)
  |_=>exact absurd (show false=true from c) j2
 |_=>cases y<;>exact absurd (show false=true from c) j2
def iK:OpR X (compareOp .NotEq) rNe:=by
 intro e s σ H x y v u Q I d a h;let#[c,q]:=h
 cases x with
 |non=>
  cases d
  cases y with
  |non=>cases a;exact PySem.EqNone.ne_none_none (bR I q (by simp))
  |bl j=>cases a;exact PySem.EqNone.ne_none_bool (bR I q (by simp))
  |int j=>let#[b,8]:=a;exact PySem.EqNone.ne_none_int (bR I q (by simp))
  |str j=>let#[b,8]:=a;exact PySem.EqNone.ne_none_str (bR I q (by simp))
  |_=>exact absurd (show false=true from c) j2
 |bl i=>
  cases d
  cases y with
  |non=>cases a;exact PySem.EqNone.ne_bool_none (bR I q (by simp))
  |bl j=>cases a;exact ne_bool (bR I q (kI not dec_bl))
  |str j=>let#[b,8]:=a;exact PySem.EqMixed.ne_bool_str (bR I q (by simp))
  |_=>exact absurd (show false=true from c) j2
 |int i=>
  let#[t,8]:=d
  cases y with
  |non=>cases a;exact PySem.EqNone.ne_int_none (bR I q (by simp))
  |int j=>let#[b,8]:=a;exact ne_int (bR I q (kI not dec_int))
  |str j=>let#[b,8]:=a;exact PySem.EqMixed.ne_int_str (bR I q (by simp))
  |_=>exact absurd (show false=true from c) j2
 |str i=>
  let#[t,8]:=d
  cases y with
  |non=>cases a;exact PySem.EqNone.ne_str_none (bR I q (by simp))
  |bl j=>cases a;exact PySem.EqMixed.ne_str_bool (bR I q (by simp))
  |int j=>let#[b,8]:=a;exact PySem.EqMixed.ne_str_int (bR I q (by simp))
  |str j=>let#[b,8]:=a;exact ne_str (bR I q (kI not dec_str))
  |_=>exact absurd (show false=true from c) j2
 |byt i=>
  let#[t,8]:=d
  cases y with
  |byt j=>let#[b,8]:=a;exact PySem.W.ne_bytes (bR I q (kI not dec_byt))
  |_=>exact absurd (show false=true from c) j2
 |_=>cases y<;>exact absurd (show false=true from c) j2
def iL:OpR X (compareOp .Lt) (rI0 λi j=>.bl (decide (i<j))):=opB0 λ_ _ _ _ _ _ _ q=>lt_int q
def op_le:OpR X (compareOp .LtE) (rI0 λi j=>.bl (decide (i<=j))):=opB0 λ_ _ _ _ _ _ _ q=>le_int q
def op_gt:OpR X (compareOp .Gt) (rI0 λi j=>.bl (decide (j<i))):=opB0 λ_ _ _ _ _ _ _ q=>gt_int q
def op_in_str:OpR X (compareOp .In) (λx y H Q=>∃i j,x=.str i/\y=.str j/\Q (.bl (!(Builtin.Str.occurrences j i 0 j.length 1).isEmpty)) H):=by
 intro a s σ H x y v u Q I b c h;let#[i,j,8,8,q]:=h;let#[t,8]:=b;let#[d,8]:=c;exact in_str (bR I q rfl)
def op_isN:OpR X (compareOp .Is) (λx y H Q=>y=.non/\Q (.bl (decide (x=.non))) H):=by
 intro b s σ H x y v u Q I a c h;let#[8,q]:=h
 cases c;refine is_none_gen (bR I q ?_)
 cases x<;>first
  |(cases a;rfl)
  |(let#[t,8]:=a;rfl)
def fH:OpR X (compareOp .IsNot) (λx y H Q=>y=.non/\Q (.bl (!decide (x=.non))) H):=by
 intro b s σ H x y v u Q I a c h;let#[8,q]:=h
 cases c;refine isnot_none_gen (bR I q ?_)
 cases x<;>first
  |(cases a;rfl)
  |(let#[t,8]:=a;rfl)
def aS(b:Expr)(h:op≠.In:=by decide)(h2:op≠.NotIn:=by decide):behindInMarks op b=false:=by
 have c:(op==CmpOp.In)=false:=by cases op<;>first|rfl|exact absurd rfl h
 have a:(op==CmpOp.NotIn)=false:=by cases op<;>first|rfl|exact absurd rfl h2
 cases b<;>simp[behindInMarks,c,a]
def gy(ho:OpR X (compareOp op) r)(ha:PE X a ta)(hb:PE X b tb)(hm:behindInMarks op b=false):PE X (.Compare a [op] [b] pos) (tOp r ta tb):=by
 intro c s σ H Q I h;exact wpAny_Compare1 (binT ha hb I h λv u e x y l j d i q=>ho c e σ l x y v u Q j d i q) hm
inductive ItTest(Q:Bool->Hp->Prop)(x:V)(H':Hp):Prop
 |mk(k:_)(h1:x=.bl k)(h2:Q k H'):ItTest Q x H'
abbrev tTest(t:TE):TT:=λσ H Q=>t σ H λx H'=>ItTest Q x H'
def aK(ho:OpR X (compareOp op) r)(ha:PE X a ta)(hb:PE X b tb)(hm:behindInMarks op b=false):PT X (.Compare a [op] [b] pos) (tTest (tOp r ta tb)):=by
 intro d s σ H Q I h
 refine wpAny_isTrue_Compare1 (thn (ha d s σ H _ I h) λv A⟨x,o,j,t,w⟩=>thn (hb d A σ o _ j w) λu q⟨y,F,B,D,i⟩=>
  thn (ho d q σ F x y v u _ B t D i) λc G⟨z,p,m,l,k,e,E⟩=>?_) hm
 subst e
 cases l;exact wpAny_truthy_bool #[p,m,E]
abbrev tChain(r r':R2)(ta tb tc:TE):TE:=λσ H Q=>ta σ H λx H1=>tb σ H1 λy H2=>r x y H2 λz H3=>∃k,z=.bl k/\
 (if k=true then tc σ H3 λw' H4=>r' y w' H4 Q else Q (.bl false) H3)
def pe_chain(ho:OpR X (compareOp op) r)(ho':OpR X (compareOp op') r')(ha:PE X a ta)(hb:PE X b tb)(hc:PE X c tc)
  (hm:lastMarks [op,op'] [b,c]=false:=by with_unfolding_all rfl):PE X (.Compare a [op,op'] [b,c] pos) (tChain r r' ta tb tc):=by
 intro i s σ H Q I h
 refine Compare_chain (thn (ha i s σ H _ I h) λv J⟨x,A,t,E,G⟩=>chain_link (thn (hb i J σ A _ t G) λu D⟨y,R,N,m,q⟩=>
  thn (ho i D σ R x y v u _ N E m q) λd p⟨z,l,j,w,k,e,o⟩=>?_)) hm
 subst e
 cases w;refine wpAny_truthy_bool ?_
 cases k with
 |false=>exact ite_ff #[.bl false,l,j,8,o]
 |true=>exact ite_tt (chain_last (thn (hc i p σ l _ j o) (by rintro B F⟨K,P,L,M,O⟩;exact ho' i F σ P y K u B Q L m M O)))
def line63:(sizeLine:Nat)<2^63:=by rw[sizeLine_eq];decide
def cW:OpR X (binaryOp .Add) (λx y H Q=>∃i j,x=.str i/\y=.str j/\i.length+j.length<=sizeLine/\Q (.str (i++j)) H):=by
 intro a s σ H x y v u Q I b d h;let#[i,j,8,8,c,q]:=h;let#[t,8]:=b;let#[e,8]:=d;exact add_str (λe l=>#[.str (i++j),H,I.tok _,#[9],q]) c
def fS(r:Vals [x] us):∃u,us=[u]/\RelV x u:=by
 cases r with
 |cons r1 r2=>cases r2;exact#[9,r1]
def ij:et X (.builtin "abs") (λxs H Q=>∃i,xs=[.int i]/\Q (.int (if i<0 then-i else i)) H):=by
 intro a s σ H xs b Q I r h;let#[i,8,q]:=h;let#[u,8,t,8]:=fS r;exact call_abs_int λu c=>#[.int (if i<0 then-i else i),H,I.tok _,#[9],q]
def dI:et X (.type "str") (λxs H Q=>∃i,xs=[.int i]/\i.natAbs.log2<1920/\Q (.str (toString i)) H):=by
 intro a s σ H xs c Q I r h;let#[i,8,b,q]:=h;let#[u,8,t,8]:=fS r;exact PySem.P.str_of_int b #[.str _,H,I.tok _,#[9],q]
end
end L2
namespace L2
open PySem PySem.Spec PyProof.Rows
structure ObjM(h:Heap)(x dx C:Addr)(mA:Str->Option Value):Prop where
 obj:h.get? x=some (PySem.W.instObj C dx)
 ns:h.Ns1 dx mA
 ne:dx≠x
def lookIn_ns{h:Heap}(n:h.Ns1 dx mA):∃od,h.get? dx=some od/\∀name,PySem.W.lookIn name od=some (mA name):=by
 let#[o,c,p,i,hd,j,_,m]:=n;refine#[o,i,λname=>?_];have e:=m name;unfold nsFind findBy at e;rw[<-Array.find?_toList]at e;unfold PySem.W.lookIn;rw[hd];dsimp only
 split
 ·rename_i y q;rw[q]at e;exact kI some e
 ·rename_i q;rw[q]at e
  have a:c.toList.any (·.refKey)=false:=by
   rw[List.any_eq_false];intro y l;let#[z,t,b]:=j y (Array.mem_toList_iff.mp l);simp[DictEntry.refKey,b]
  have d:¬c.toList.any (·.refKey)=true:=by rw[a];exact j2
  rw[if_neg d];exact kI some e
def ObjM.look(I:ObjM h x dx C mA):∃od,PySem.W.InstAt h x (PySem.W.instObj C dx) C (some od)/\∀name,PySem.W.lookIn name od=some (mA name):=
 let⟨od,ho,hl⟩:=lookIn_ns I.ns
 #[od,#[I.obj,8,8,ho],hl]
section
variable{prog:Program}{w:World}{A:Around}{E:Value->Shared->Prop}{s:Shared}{K:W.Frag}{x dx C f:Addr}{mA:Str->Option Value}{name:Str}{v:Value}
def get_map(X:K.In s.heap)(I:ObjM s.heap x dx C mA)(hg:PySem.W.plainGet K C name=true)(hh:PySem.W.hasDictIn K C=true)
  (ha:PySem.W.findIn K (.ref C) name=some none)(hv:mA name=some v)(hv':PySem.W.handedIn v=true)(h:Q v {s with toks:=s.toks+1}):
  wpAny (model prog w) A (getAttr (.ref x) name expr) Q E s:=by
 let#[b,J,a]:=I.look;exact PySem.W.get_value X J (PySem.W.plainGet_of hg).1 (PySem.W.findObj_own hh ha rfl (by rw[a,hv])) hv' h
def get_meth(X:K.In s.heap)(I:ObjM s.heap x dx C mA)(hg:PySem.W.plainGet K C name=true)
  (hf:PySem.W.findIn K (.ref C) name=some (some (.ref f)))(ht:PySem.W.isFn K (.ref f)=true)(hv:mA name=none)(h:Q (.ref f,[.ref x]) s):
  wpAny (model prog w) A (getMethod (.ref x) name pl) Q E s:=by
 let#[b,J,a]:=I.look;exact PySem.W.method_fn X J (PySem.W.plainGet_of hg).1 (PySem.W.plainGet_of hg).2 hf (beq_iff_eq.mp ht) (by show(PySem.W.lookIn name b).map (·.isSome)=some false;rw[a,hv];rfl) h
def set_map(X:K.In s.heap)(I:ObjM s.heap x dx C mA)
  (hs:PySem.W.findIn K (.ref C) "__setattr__"=some (some (.builtin "object.__setattr__")))(hp:PySem.W.plainOver K C=true)(ht:PySem.W.takerIn K C name=some none)(hh:PySem.W.hasDictIn K C=true)
  (hw:PySem.Within mA ns)(hsz:ns.length<=sizeLine)
  (h:∀h',ObjM h' x dx C (λy=>if y=name then some v else mA y)->Heap.SameBut dx s.heap h'->Q Unit.unit {s with heap:=h',toks:=s.toks+2}):
  wpAny (model prog w) A (setAttr (.ref x) name v) Q E s:=by
 let#[z,J,u]:=I.look;refine PySem.W.set_plain X J hs (PySem.W.osa_open (s:={s with toks:=s.toks+1}) (r:=none) X J hp ht λb=>?_);let#[B,p,i]:=PySem.W.any_some hh;have q:s.heap.get? x=some #[.ref C,some dx,.plain,(List.toArray [])]:=I.obj;refine jD (jN (jD (jD (wpAny_loadPart q (jD (PySem.W.Looks.here (s:={s with toks:=s.toks+1}) (PySem.W.looks_clsIn X p) ?_))))));rw[i];refine jN (a:=some dx) (jD (jN (jD ?_)));refine wpAny_nsSet1 (s:={s with toks:=s.toks+1}) I.ns λh' d c=>?_;let#[t,m,o,l,e,j]:=d.count (PySem.Within.cons name v hw);refine jD (wpAny_lookBehind l (by rw[e];exact pastItsLine_dict (jK j (by rw[jU];lia))) ?_);exact jN (h _ #[(c.2 _ (k7 I.ne)).trans I.obj,d,I.ne] c)
def make_map(X:K.In s.heap)(hm:PySem.W.makesIn K C=true)
  (hi:PySem.W.findIn K (.ref C) "__init__"=some (some (.ref f)))(hf:PySem.W.typeIn K (.ref f)=some (.type "function"))
  (h:codeAny (model prog w) (A.under (.builtin "type.__call__" #[.ref C::vs,kw])) (.call (.ref f) #[.ref (s.heap.objs.size+1)::vs,kw]) (PySem.W.InitBack (s.heap.objs.size+1) R)
   {s with heap:=(s.heap.push PySem.W.emptyDict).push (PySem.W.instObj C s.heap.objs.size)}):
  codeAny (model prog w) A (.call (.ref C) #[vs,kw]) R s:=by
 let#[b,g,d,t,c]:=s;exact PySem.W.make_core (PySem.W.makes_of X hm) (PySem.W.looks_findIn X hi) (λa=>PySem.W.bind_fn X a hf) (.inl rfl) h
end
abbrev bI(f:Str)(v:V):List (Str×V)->List (Str×V)
 |[]=>[(f,v)]
 |(g,x)::r=>if g=f then(g,v)::r else(g,x)::bI f v r
def eM(f g:Str)(v:V):∀fs:List (Str×V),(bI f v fs).lookup g=if g=f then some v else fs.lookup g
 |[]=>by
  show List.lookup g [(f,v)]=_;by_cases h:g=f
  ·have a:(g==f)=true:=beq_iff_eq.mpr h;simp only[List.lookup,a,if_pos h]
  ·have a:(g==f)=false:=kX.mpr h;simp only[List.lookup,a,if_neg h]
 |(k,x)::r=>by
  have b:=eM f g v r;rw[show bI f v ((k,x)::r)=(if k=f then(k,v)::r else(k,x)::bI f v r)from rfl];by_cases hk:k=f
  ·rw[if_pos hk];by_cases h:g=k
   ·have a:(g==k)=true:=beq_iff_eq.mpr h;simp only[List.lookup,a,if_pos (h.trans hk)]
   ·have a:(g==k)=false:=kX.mpr h;simp only[List.lookup,a,if_neg (λe:g=f=>h (e.trans hk.symm))]
  ·rw[if_neg hk];by_cases h:g=k
   ·have a:(g==k)=true:=beq_iff_eq.mpr h;simp only[List.lookup,a,if_neg (λe:g=f=>hk (h.symm.trans e))]
   ·have a:(g==k)=false:=kX.mpr h;simp only[List.lookup,a];exact b
def keys_putF(f:Str)(v:V):∀fs:List (Str×V),f∈(bI f v fs).map (·.1)/\∀g,g∈fs.map (·.1)->g∈(bI f v fs).map (·.1)
 |[]=>#[by simp[bI],λg h=>by simp at h]
 |(k,x)::r=>by
  let#[a,b]:=keys_putF f v r;rw[show bI f v ((k,x)::r)=(if k=f then(k,v)::r else(k,x)::bI f v r)from rfl];by_cases hk:k=f
  ·rw[if_pos hk];subst hk;exact#[by simp,λg h=>by simpa using h]
  ·rw[if_neg hk];refine#[?_,λg h=>?_]
   ·rw[kz];exact jW _ a
   ·rw[kz]at h⊢;rcases jR.mp h with e|e
    ·exact jR.mpr (.inl e)
    ·exact jW _ (b g e)
def cV(f:Str)(v:V):∀fs:List (Str×V),(bI f v fs).length<=fs.length+1
 |[]=>by simp[bI]
 |(k,x)::r=>by
  have a:=cV f v r;rw[show bI f v ((k,x)::r)=(if k=f then(k,v)::r else(k,x)::bI f v r)from rfl];by_cases hk:k=f
  ·rw[if_pos hk,jU,jU];omega
  ·rw[if_neg hk,jU,jU];omega
def RelO.some_of(r:RelO (some v) o):∃u,o=some u/\RelV v u:=by
 cases o with
 |none=>exact(show False from r).elim
 |some u=>exact#[u,8,r]
def RelO.none_of(r:RelO none o):o=none:=by
 cases o with
 |none=>rfl
 |some u=>exact(show False from r).elim
def handed_of(r:RelV v u):PySem.W.handedIn u=true:=by
 cases v with
 |non=>cases(show u=Value.none from r);rfl
 |bl b=>cases(show u=Value.bool b from r);rfl
 |int i=>let#[t,e]:=(show∃t,u=Value.int i t from r);cases e;rfl
 |str x=>let#[t,e]:=(show∃t,u=Value.str x t from r);cases e;rfl
 |byt b=>let#[t,e]:=(show∃t,u=Value.bytes b t from r);cases e;rfl
 |flt b=>let#[t,e]:=(show∃t,u=Value.float b t from r);cases e;rfl
 |ref a=>cases(show u=Value.ref a from r);rfl
 |ty n=>cases(show u=Value.type n from r);rfl
section
variable{P:Program}{w:World}{H H':Hp}{h h':Heap}{a C dx:Addr}{fs fs':List (Str×V)}
def ins_get(hok:HOk P w H h)(e:H a=some (.ins C dx fs)):∃mA,ObjM h a dx C mA/\(∀f,RelO (fs.lookup f) (mA f))/\PySem.Within mA (fs.map (·.1))/\fs.length<=1000/\H dx=some (.own a):=by
 let#[d,z,ne,b,mA,n,r,q]:=(show ObjOk P w H h a (.ins C dx fs)from hok a _ e);exact#[mA,#[b,n,ne],r,q,z,d]
end
structure Cls(K:W.Frag)(C:Addr):Prop where
 pg:PySem.W.plainGet K C Str.empty=true
 hd:PySem.W.hasDictIn K C=true
 po:PySem.W.plainOver K C=true
 sa:PySem.W.findIn K (.ref C) "__setattr__"=some (some (.builtin "object.__setattr__"))
def Cls.get{K:W.Frag}(c:Cls K C)(f:Str):PySem.W.plainGet K C f=true:=c.pg
abbrev NoAttr(K:W.Frag)(C:Addr)(f:Str):Prop:=PySem.W.findIn K (.ref C) f=some none
def NoAttr.taker{K:W.Frag}(n:NoAttr K C f):PySem.W.takerIn K C f=some none:=by
 unfold PySem.W.takerIn;rw[show PySem.W.findIn K (.ref C) f=some none from n];rfl
structure Con(K:W.Frag)(C:Addr)(f:Str)(v:V)(u:Value):Prop where
 at_:PySem.W.findIn K (.ref C) f=some (some u)
 rel:RelV v u
 get:PySem.W.specialIn K u "__get__"=some none
 cp:PySem.W.copiedNames.contains f=false
structure Meth(K:W.Frag)(C:Addr)(m:Str)(f:Addr):Prop where
 at_:PySem.W.findIn K (.ref C) m=some (some (.ref f))
 fn:PySem.W.isFn K (.ref f)=true
 kp:PySem.W.keepIn K (.ref f)=true
section
variable{X:Cx}{pins:List (Addr×Obj)}{σ:St}{H:Hp}{s:Shared}{a C dx:Addr}{fs:List (Str×V)}{f:Str}{v:V}{A:Around}{E:Value->Shared->Prop}
def iX(I:Inv X pins σ H s)(e:H a=some (.ins C dx fs))(c:Cls X.K C)(n:NoAttr X.K C f)(l:fs.lookup f=some v)
  (h:∀u s',Inv X pins σ H s'->RelV v u->Q u s'):wpAny (model X.prog X.w) A (getAttr (.ref a) f b) Q E s:=by
 let#[j,O,r,_,_,_]:=ins_get I.hok e;let#[u,i,d]:=RelO.some_of (v:=v) (o:=j f) (by rw[<-l];exact r f);exact get_map I.kIn O (c.get f) c.hd n i (handed_of d) (h u _ (I.tok _) d)
def fo(I:Inv X pins σ H s)(e:H a=some (.ins C dx fs))(c:Cls X.K C)(k:Meth X.K C m g)(l:fs.lookup m=none)
  (h:Q (.ref g,[.ref a]) s):wpAny (model X.prog X.w) A (getMethod (.ref a) m pl) Q E s:=by
 let#[d,O,r,_,_,_]:=ins_get I.hok e;have b:d m=none:=RelO.none_of (by rw[<-l];exact r m);exact get_meth I.kIn O (c.get m) k.at_ k.fn b h
def setattr_ok(I:Inv X pins σ H s)(e:H a=some (.ins C dx fs))(c:Cls X.K C)(n:NoAttr X.K C f)(hl:fs.length<1000)(ry:RelV y u)
  (h:∀s',Inv X pins σ (upd H a (.ins C dx (bI f y fs))) s'->Q Unit.unit s'):wpAny (model X.prog X.w) A (setAttr (.ref a) f u) Q E s:=by
 let#[j,O,r,l,_,i]:=ins_get I.hok e;have w:(fs.map (·.1)).length<=sizeLine:=by rw[jE,sizeLine_eq];lia
 refine set_map I.kIn O c.sa c.po n.taker c.hd l w λt d v=>h _ ?_;have hd:∃o,t.get? dx=some o:=let⟨o,_,_,e',_⟩:=d.ns;#[o,e']
 refine I.write (x:=a) (e:=dx) (by rw[e];exact True.intro) (.inr i) (λb q m z=>(v.2 b m).trans z) hd ?_;refine#[by rw[aG O.ne];exact i,?_,O.ne,d.obj,_,d.ns,λg=>?_,λg p=>?_]
 ·have:=cV f y fs;lia
 ·show RelO ((bI f y fs).lookup g) (if g=f then some u else j g);rw[eM];by_cases q:g=f
  ·rw[if_pos q,if_pos q];exact ry
  ·rw[if_neg q,if_neg q];exact r g
 ·by_cases q:g=f
  ·rw[q];exact(keys_putF f y fs).1
  ·refine(keys_putF f y fs).2 g (l g λz=>p ?_);show(if g=f then some u else j g)=none;rw[if_neg q];exact z
def Inv.made(I:Inv X pins σ H s):Inv X pins σ (upd (upd H s.heap.objs.size (.own (s.heap.objs.size+1))) (s.heap.objs.size+1) (.ins C s.heap.objs.size []))
  {s with heap:=(s.heap.push PySem.W.emptyDict).push (PySem.W.instObj C s.heap.objs.size)}:=by
 have c:(s.heap.push PySem.W.emptyDict).get? s.heap.objs.size=some PySem.W.emptyDict:=jT s.heap rfl
 have d:((s.heap.push PySem.W.emptyDict).push (PySem.W.instObj C s.heap.objs.size)).get? (s.heap.objs.size+1)=some (PySem.W.instObj C s.heap.objs.size):=by
  have:=jT (s.heap.push PySem.W.emptyDict) (o:=PySem.W.instObj C s.heap.objs.size) rfl
  rwa[Heap.size_push]at this
 have i:(s.heap.push PySem.W.emptyDict).Ns s.heap.objs.size (λ_=>none):=#[PySem.W.emptyDict,(List.toArray []),_,c,8,(λe l=>absurd l (by simp)),λ_=>rfl];have j:=I.laid (a:=s.heap.objs.size) (o:=.own (s.heap.objs.size+1)) (h':=s.heap.push PySem.W.emptyDict) (t':=s.toks) (λb u q=>jG _ q) (jJ _) #[_,c];refine j.laid (a:=s.heap.objs.size+1) (o:=.ins C s.heap.objs.size []) (t':=s.toks) (λb u q=>jG _ q) (Nat.le_of_eq (Heap.size_push _ _)) ?_;have ne:s.heap.objs.size≠s.heap.objs.size+1:=km (Nat.lt_succ_self _);refine#[by rw[aG ne,aC],jZ _,ne,d,λ_=>none,(Heap.Ns1.of_empty i).at λo q=>jG _ q,λ_=>True.intro,λy h=>absurd rfl h]
def attr_of(hb:attributeBase e f env (eval e env)=eval e env)
  (h:wpAny (model prog w) A (eval e env) (λo s₁=>wpAny (model prog w) A (getAttr o f true) Q E s₁) E s):wpAny (model prog w) A (eval (.Attribute e f pos) env) Q E s:=
 Attribute_any_ h (by rw[arm_eval_Attribute,hb])
end
inductive ItFld(K:W.Frag)(f:Str)(Q:VK)(x:V)(H1:Hp):Prop
 |mk(a:_)(C:_)(dx:_)(fs:_)(v:_)(h1:x=.ref a)(h2:H1 a=some (.ins C dx fs))(h3:Cls K C)(h4:NoAttr K C f)(h5:fs.lookup f=some v)(h6:Q v H1):ItFld K f Q x H1
abbrev tFld(K:W.Frag)(ta:TE)(f:Str):TE:=λσ H Q=>ta σ H λx H1=>ItFld K f Q x H1
abbrev sFld(K:W.Frag)(ta tv:TE)(f:Str):TS:=λD σ H=>tv σ H λy H1=>ta σ H1 λx H2=>∃a C dx fs,x=.ref a/\H2 a=some (.ins C dx fs)/\Cls K C/\NoAttr K C f/\fs.length<1000/\
 D.nx σ (upd H2 a (.ins C dx (bI f y fs)))
section
variable{X:Cx}{o e value:Expr}{f:Str}{pos pos' tpos:Pos}{ta tv:TE}
def bE(he:PE X e ta)(hb:attributeBase e f X.env (eval e X.env)=eval e X.env):PE X (.Attribute e f pos) (tFld X.K ta f):=by
 intro b s σ H Q I h;refine attr_of hb (thn (he b s σ H _ I h) λu y⟨x,m,j,i,a,C,w,fs,v,ex,p,c,n,l,q⟩=>?_);subst ex;obtain rfl:u=Value.ref a:=i;exact iX j p c n l λr t o d=>#[v,m,o,d,q]
def cY(ha:PE X o ta)(hv:PE X value tv)(hs:swapsWith value (some (.Attribute o f pos')) pos.line X.env=pure false):PS X (.Assign [.Attribute o f pos'] value pos) (sFld X.K ta tv f):=by
 intro b s σ H D I h;refine plainObj_wpAny_Assign_Attribute (thn (hv b s σ H _ I h) λu r⟨y,m,i,p,q⟩=>thn (ha b r σ m _ i q) λt A⟨x,E,v,e,a,C,B,fs,ex,w,c,n,l,d⟩=>?_) hs;subst ex;obtain rfl:t=Value.ref a:=e;exact setattr_ok v w c n l p λz j=>#[σ,_,j,d]
end
section
variable{X:Cx}{pins:List (Addr×Obj)}{σ:St}{H:Hp}{s:Shared}{A:Around}{E:Value->Shared->Prop}{Q:Value->Shared->Prop}{c:Value}{b:Bool}
inductive TyOf(K:W.Frag)(H:Hp):V->Value->Prop where
 |non:TyOf K H .non (.type "NoneType")
 |bl(x:Bool):TyOf K H (.bl x) (.type "bool")
 |int(i:Int):TyOf K H (.int i) (.type "int")
 |str(x:Str):TyOf K H (.str x) (.type "str")
 |flt(x:UInt64):TyOf K H (.flt x) (.type "float")
 |lst{a:Addr}{xs:List V}(e:H a=some (.lst xs)):TyOf K H (.ref a) (.type "list")
 |frz{a:Addr}{o:Obj}{xs:List V}(e:H a=some (.frz o (.lst xs))):TyOf K H (.ref a) (.type "list")
 |tup{a:Addr}{xs:List V}(e:H a=some (.tup xs)):TyOf K H (.ref a) (.type "tuple")
 |dK{a:Addr}{kvs:List (Key×V)}(e:H a=some (.dK kvs)):TyOf K H (.ref a) (.type "dict")
 |dT{a:Addr}{kvs:List (List Key×V)}(e:H a=some (.dT kvs)):TyOf K H (.ref a) (.type "dict")
 |ins{a C dx:Addr}{fs:List (Str×V)}(e:H a=some (.ins C dx fs))(cl:Cls K C)(ha:PySem.W.findIn K (.ref C) "__class__"=some (some (.builtin "object.__class__")))
   (hn:PySem.W.specialIn K (.builtin "object.__class__") "__get__"=some (some (.builtin "getset_descriptor.__get__")))(htk:PySem.W.takesIn K (.builtin "object.__class__")=some true)
   (hm:PySem.W.mroIn K C (.type "object")=some true):TyOf K H (.ref a) (.ref C)
def isinst_ok(I:Inv X pins σ H s)(rx:RelV x u)(ty:TyOf X.K H x t)(e:PySem.W.kitOne X.K t c=some b)(h:∀tk,Q (.bool b) {s with toks:=tk}):
  wpAny (model X.prog X.w) A (call (.builtin "isinstance") [u,c]) Q E s:=by
 cases ty with
 |non=>cases(show u=Value.none from rx);exact kP PySem.W.kitx_none I.kIn True.intro e (λz=>nomatch z) h
 |bl y=>cases(show u=Value.bool y from rx);exact kP PySem.W.kitx_bool I.kIn True.intro e (λz=>nomatch z) h
 |int i=>let#[t,q]:=(show∃t,u=Value.int i t from rx);cases q;exact kP PySem.W.kitx_int I.kIn True.intro e (λz=>nomatch z) h
 |str y=>let#[t,q]:=(show∃t,u=Value.str y t from rx);cases q;exact kP PySem.W.kitx_str I.kIn True.intro e (λz=>nomatch z) h
 |flt y=>let#[t,q]:=(show∃t,u=Value.float y t from rx);cases q;exact kP PySem.W.kitx_float I.kIn True.intro e (λz=>nomatch z) h
 |@lst a j ea=>
  cases(show u=Value.ref a from rx);let#[_,_,n,_,d]:=(show ObjOk X.prog X.w H s.heap a (.lst j) from I.hok a _ ea);exact kP PySem.W.kitx_list I.kIn #[_,d,8] e (λz=>nomatch z) h
 |@frz a ob j ea=>
  cases(show u=Value.ref a from rx);let#[_,_,_,n,_,d]:=(show ObjOk X.prog X.w H s.heap a (.frz ob (.lst j)) from I.hok a _ ea);exact kP PySem.W.kitx_list I.kIn #[_,d,8] e (λz=>nomatch z) h
 |@tup a j ea=>
  cases(show u=Value.ref a from rx);let#[_,_,_,p]:=(show ObjOk X.prog X.w H s.heap a (.tup j) from I.hok a _ ea);let#[o,d,l,_]:=p;exact kP PySem.W.kitx_tuple I.kIn #[o,d,l] e (λz=>nomatch z) h
 |@dK a kvs ea=>
  cases(show u=Value.ref a from rx);let#[_,_,v,_,p]:=(show ObjOk X.prog X.w H s.heap a (.dK kvs) from I.hok a _ ea);let#[o,r,m,d,l,_]:=p;exact kP PySem.W.kitx_dict I.kIn #[o,d,l.1] e (λz=>nomatch z) h
 |@dT a kvs ea=>
  cases(show u=Value.ref a from rx);let#[_,_,j,_,o,r,m,d,l,_]:=(show ObjOk X.prog X.w H s.heap a (.dT kvs) from I.hok a _ ea);exact kP PySem.W.kitx_dict I.kIn #[o,d,l.1] e (λz=>nomatch z) h
 |@ins a C dx fs ea cl ha hn htk hm=>
  cases(show u=Value.ref a from rx);let#[D,O,_]:=ins_get I.hok ea;let#[B,J,_]:=O.look;exact kP (PySem.W.kitx_own (cl.get _) cl.hd ha hn htk hm) I.kIn J e (λz=>nomatch z) h
end
end L2
namespace L2
open PySem PySem.Spec PyProof.Rows
structure Room(k:Nat)(A:Around):Prop where
 hd:A.handled=none
 dp:A.depth+3*k+105<recursionLimit
 un:A.units+16*k+200<cLine
def Room.mono(r:Room k A)(h:j<=k):Room j A:=#[r.hd,by have:=r.dp;lia,by have:=r.un;lia]
def Room.deeper(r:Room (k+1) A)(env:Env):Room k (A.deeper env):=
 #[r.hd,by have:=r.dp;show A.depth+1+3*k+105<_;lia,by have:=r.un;show A.units+3+16*k+200<_;lia]
def make_depth{A:Around}:(A.under (.builtin "type.__call__" #[.ref C::us,kw])).depth=A.depth+1:=by
 first|rfl|simp[Around.under,Code.weight,Code.isCreation,Code.isGuard,Code.isCaller,Code.frames,Code.isFrame,guardIds]
def make_units{A:Around}:(A.under (.builtin "type.__call__" #[.ref C::us,kw])).units=A.units+1:=by
 first|rfl|simp[Around.under,Code.cUnits,Code.frames,Code.isFrame]
def Room.make(r:Room (k+1) A)(C:Addr)(us:List Value)(kw:List (Str×Value)):Room k (A.under (.builtin "type.__call__" #[.ref C::us,kw])):=
 #[r.hd,by have:=r.dp;rw[make_depth];lia,by have:=r.un;rw[make_units];lia]
def Room.depth(r:Room k A):A.depth<recursionLimit:=by have:=r.dp;lia
def Room.units(r:Room k A):A.units+64<cLine:=by have:=r.un;lia
def Room.units0(r:Room k A):A.units<cLine:=by have:=r.un;lia
abbrev tNil:TA:=λ_ H Q=>Q [] H
abbrev iB(ta:TE)(tr:TA):TA:=λσ H Q=>ta σ H λx H1=>tr σ H1 λxs H2=>Q (x::xs) H2
section
variable{X:Cx}{e:Expr}{es:List Expr}{te:TE}{t:TA}{pos:Pos}
def aD:PA X [] tNil:=λ_ _ _ _ H Q I h=>Calls.spliced_nil #[[],H,I,.nil,h]
def aA(ha:PE X e te)(hr:PA X es t)(hs:starEach (e::es) X.env=(false,eval e X.env)::starEach es X.env:=by rfl):PA X (e::es) (iB te t):=by
 intro b a s σ H Q I h;rw[hs];show wpAny _ _ (spliced ((false,eval e X.env)::backTo b (starEach es X.env))) _ _ s;refine Calls.spliced_cons (thn (ha a s σ H _ I h) λu o⟨x,j,i,l,m⟩=>?_);exact thn (hr b a o σ j _ i m) (by rintro w v⟨d,r,p,q,c⟩;exact#[x::d,r,p,.cons l q,c])
abbrev tTup(t:TA):TE:=λσ H Q=>t σ H λxs H1=>xs.length<=sizeLine/\∀p,H1 p=none->Q (.ref p) (upd H1 p (.tup xs))
abbrev tLst(t:TA):TE:=λσ H Q=>t σ H λxs H1=>xs.length<=sizeLine/\∀p,H1 p=none->Q (.ref p) (upd H1 p (.lst xs))
def cH(h:PA X es t):PE X (.Tuple es x1 pos) (tTup t):=by
 intro a s σ H Q I l;refine wpAny_Tuple_spliced (thn (h pos a s σ H _ I l) λm c⟨j,i,d,r,z,q⟩=>#[by rw[<-r.length];exact z,?_]);have o:i c.heap.objs.size=none:=d.hok.fresh (jJ _);refine#[.ref c.heap.objs.size,upd i c.heap.objs.size (.tup j),d.laid (t':=c.toks) (λb u e=>jG _ e) (jJ _) ?_,8,q _ o];exact#[z,m,r,#[_,jT _ rfl,8,9]]
def dj(h:PA X es t):PE X (.List es pos) (tLst t):=by
 intro a s σ H Q I l;refine wpAny_List_spliced (thn (h pos a s σ H _ I l) λm c⟨j,i,d,r,z,q⟩=>#[by rw[<-r.length];exact z,?_]);have o:i c.heap.objs.size=none:=d.hok.fresh (jJ _);refine#[.ref c.heap.objs.size,upd i c.heap.objs.size (.lst j),d.laid (t':=c.toks) (λb u e=>jG _ e) (jJ _) ?_,8,q _ o];exact#[z,m,0,r,jT _ rfl]
end
nonrec abbrev Sp:=List V->Hp->VK->XK->Prop
nonrec abbrev CXT:=List Env->Hp->Shared->XK->Value->Shared->Prop
structure Env0(P:Program)(w:World)(K:W.Frag)(mg:Str->Option Value)(base:Heap)(A:Around)(outer:List Env)(s:Shared)(H:Hp):Prop where
 frames:A.frames=some outer
 mod:Mod K mg base
 bs:∀b o,base.get? b=some o->s.heap.get? b=some o/\H b=none
 bsz:base.objs.size<=s.heap.objs.size
 funs:s.heap.FunFrames base outer
 frf:∀b∈frs outer,H b=none
 hok:HOk P w H s.heap
 bare:AllBare s.gens
abbrev CE(outer:List Env)(P:Program)(w:World)(H:Hp)(s:Shared)(Q:VK)(u:Value)(s':Shared):Prop:=
 ∃v H',s'.os=s.os/\AllBare s'.gens/\Un (frs outer) [] H H' s.heap s'.heap/\HOk P w H' s'.heap/\RelV v u/\Q v H'
abbrev CR(CX:CXT)(outer:List Env)(P:Program)(w:World)(H:Hp)(s:Shared)(Q:VK)(E:XK)(r:Result)(s':Shared):Prop:=
 match r with
 |.ok (.ret u)=>CE outer P w H s Q u s'
 |.ok _=>False
 |.error e=>CX outer H s E e s'
structure FnOk(P:Program)(w:World)(K:W.Frag)(mg:Str->Option Value)(base:Heap)(CX:CXT)(k:Nat)(f:Addr)(fd:FuncData)(ps:List Str)(sp:Sp):Prop where
 len:∀vs H Q E,sp vs H Q E->vs.length=ps.length
 run:∀(A:Around)(outer:List Env)(s:Shared)(H:Hp)(args:Args)(us:List Value)(vs:List V)(Q:VK)(E:XK),Room k A->Env0 P w K mg base A outer s H->BindsTo s fd args (ps.zip us)->Vals vs us->sp vs H Q E->
  codeAny (model P w) A (.call (.ref f) args) (CR CX outer P w H s Q E) s
def Env0.make{K:W.Frag}(e:Env0 P w K mg base A outer s H)(C:Addr)(us:List Value)(kw:List (Str×Value)):
  Env0 P w K mg base (A.under (.builtin "type.__call__" #[.ref C::us,kw])) outer s H:=#[by first|exact e.frames|(simpa[Around.under,Code.envs,Code.isFrame,pushEnvs]using e.frames),e.mod,e.bs,e.bsz,e.funs,e.frf,e.hok,e.bare]
section
variable{X:Cx}{pins:List (Addr×Obj)}{σ:St}{H:Hp}{s s':Shared}
def Inv.env0(I:Inv X pins σ H s):Env0 X.prog X.w X.K X.mg X.base X.A X.stack s H:=
 #[I.ok.frames,I.ok.mod,I.bs,jK I.ok.bsz I.sz,I.stack,I.stkFree,I.hok,I.bare]
def Inv.after(I:Inv X pins σ H s)(h:CE X.stack X.prog X.w H s Q u s'):EP X pins σ Q u s':=by
 let#[v,i,os,a,un,e,r,q]:=h;let#[j,g,d,t,c]:=s';obtain rfl:c=s.os:=os;exact#[v,i,I.call (h':=j) (g':=g) (d':=d) (t':=t) (ch:=[]) un e a (λb z=>absurd z (by simp)),r,q]
end
abbrev tCall(sp:Sp)(dvs:List V)(E:XK)(t:TA):TE:=λσ H Q=>t σ H λvs H1=>sp (vs++dvs) H1 Q E
inductive ItMeth(C:Addr)(m:Str)(sp:Sp)(dvs:List V)(E:XK)(t:TA)(σ:St)(Q:VK)(x:V)(H1:Hp):Prop
 |mk(a:_)(dx:_)(fs:_)(h1:x=.ref a)(h2:H1 a=some (.ins C dx fs))(h3:fs.lookup m=none)(h4:t σ H1 λvs H2=>sp (x::(vs++dvs)) H2 Q E):ItMeth C m sp dvs E t σ Q x H1
abbrev tMake(C:Addr)(sp:Sp)(dvs:List V)(E:XK)(t:TA):TE:=λσ H Q=>t σ H λvs H1=>∀x dx,H1 x=none->H1 dx=none->dx≠x->
 sp (.ref x::(vs++dvs)) (upd (upd H1 dx (.own x)) x (.ins C dx [])) (λv H2=>v=.non/\Q (.ref x) H2) E
abbrev Binds(K:W.Frag)(fd:FuncData)(ps:List Str)(ds:List Value):Prop:=
 ∀(s:Shared)(us:List Value),K.In s.heap->(us++ds).length=ps.length->BindsTo s fd #[us,[]] (ps.zip (us++ds))
def Binds.all{K:W.Frag}(h:∀us:List Value,us.length=ps.length->bindArgs fd #[us,[]]=pure (ps.zip us)):Binds K fd ps []:=λs us _ a=>by
 rw[kE]at a⊢;exact .of_eq (h us a)
abbrev dk(CX:CXT)(X:Cx)(E:XK):Prop:=∀(pins:List (Addr×Obj))(σ:St)(H:Hp)(s:Shared)(e:Value)(s':Shared),Inv X pins σ H s->CX X.stack H s E e s'->X.xe e s'
section
variable{X:Cx}{CX:CXT}{k:Nat}{f C:Addr}{fd:FuncData}{ps:List Str}{sp:Sp}{dvs:List V}{ds:List Value}{E:XK}{x m:Str}{p pos apos:Pos}{e o:Expr}{es:List Expr}{ta:TE}{t:TA}
def run_fn(F:FnOk X.prog X.w X.K X.mg X.base CX k f fd ps sp)(hr:Room k X.A)(hb:Binds X.K fd ps ds)(hd:Vals dvs ds)(hx:dk CX X E)
  (I:Inv X pins σ H s)(r:Vals vs us)(h:sp (vs++dvs) H Q E):wpAny (model X.prog X.w) X.A (call (.ref f) us) (EP X pins σ Q) X.xe s:=by
 have b:Vals (vs++dvs) (us++ds):=r.append hd;have c:(us++ds).length=ps.length:=by rw[<-b.length];exact F.len _ _ _ _ h
 refine wpAny_call (codeAny_mono (F.run X.A X.stack s H #[us,[]] (us++ds) (vs++dvs) Q E hr I.env0 (hb s us I.kIn c) b h) λr d a=>?_)
 cases r with
 |error e=>exact hx pins σ H s e d I a
 |ok fl=>
  cases fl with
  |ret u=>exact I.after a
  |next=>exact False.elim a
  |brk=>exact False.elim a
  |cont=>exact False.elim a
def pe_call(F:FnOk X.prog X.w X.K X.mg X.base CX k f fd ps sp)(hr:Room k X.A)(hg:Gl X x)(hm:X.mg x=some (.ref f))(hk:PySem.W.keepIn X.K (.ref f)=true)(hb:Binds X.K fd ps ds)(hd:Vals dvs ds)(hx:dk CX X E)
  (ha:PA X (e::es) t)(hdb:(x==("__debug__":Str))=false:=by decide)(he:starEach (e::es) X.env=(false,eval e X.env)::starEach es X.env:=by rfl)(hpl:(backTo pos (starEach es X.env)).any (·.1)=false:=by rfl):
  PE X (.Call (.Name x p) (e::es) [] pos) (tCall sp dvs E t):=by
 intro a s σ H Q I h;refine lO (dU I hg hm ?_ hdb);refine lE (h₀:=X.base) I.ok.mod.kin hk (thn (ha pos a s σ H _ I h) λd i⟨c,j,b,r,q⟩=>#[b.kIn,?_]) he hpl;exact run_fn F hr hb hd hx b r q
structure Mk(K:W.Frag)(C f:Addr):Prop where
 makes:PySem.W.makesIn K C=true
 init:PySem.W.findIn K (.ref C) "__init__"=some (some (.ref f))
 fn:PySem.W.isFn K (.ref f)=true
 kp:PySem.W.keepIn K (.ref C)=true
def run_make(M:Mk X.K C f)(F:FnOk X.prog X.w X.K X.mg X.base CX k f fd ps sp)(hr:Room (k+1) X.A)(hb:Binds X.K fd ps ds)(hd:Vals dvs ds)
  (hx:dk CX X E)(I:Inv X pins σ H s)(r:Vals vs us)
  (h:∀x dx,H x=none->H dx=none->dx≠x->sp (.ref x::(vs++dvs)) (upd (upd H dx (.own x)) x (.ins C dx [])) (λv H2=>v=.non/\Q (.ref x) H2) E):
  wpAny (model X.prog X.w) X.A (call (.ref C) us) (EP X pins σ Q) X.xe s:=by
 have c:=h (s.heap.objs.size+1) s.heap.objs.size (I.hok.fresh (Nat.le_succ _)) (I.hok.fresh (jJ _)) (km (Nat.lt_succ_self _));have b:=Inv.made (C:=C) I;have d:Vals (V.ref (s.heap.objs.size+1)::(vs++dvs)) (Value.ref (s.heap.objs.size+1)::(us++ds)):=.cons rfl (r.append hd)
 have l:(Value.ref (s.heap.objs.size+1)::us++ds).length=ps.length:=by
  have e:=d.length;rw[F.len _ _ _ _ c]at e;exact e.symm
 refine wpAny_call (make_map (f:=f) I.kIn M.makes M.init (beq_iff_eq.mp M.fn) (codeAny_mono (F.run _ X.stack _ _ #[Value.ref (s.heap.objs.size+1)::us,[]] (Value.ref (s.heap.objs.size+1)::(us++ds)) _ _ E (hr.make C us [])
  (b.env0.make C us []) (hb _ (Value.ref (s.heap.objs.size+1)::us) b.kIn l) d c) λr m a=>?_))
 cases r with
 |error e=>exact hx pins σ _ _ e m b a
 |ok fl=>
  cases fl with
  |ret u=>
   let#[v,j,i,p,o,q]:=b.after a;subst o;exact#[p,#[V.ref (s.heap.objs.size+1),j,i,8,q]]
  |next=>exact False.elim a
  |brk=>exact False.elim a
  |cont=>exact False.elim a
def pe_make(M:Mk X.K C f)(F:FnOk X.prog X.w X.K X.mg X.base CX k f fd ps sp)(hr:Room (k+1) X.A)(hg:Gl X x)(hm:X.mg x=some (.ref C))(hb:Binds X.K fd ps ds)(hd:Vals dvs ds)(hx:dk CX X E)
  (ha:PA X (e::es) t)(hdb:(x==("__debug__":Str))=false:=by decide)(he:starEach (e::es) X.env=(false,eval e X.env)::starEach es X.env:=by rfl)(hpl:(backTo pos (starEach es X.env)).any (·.1)=false:=by rfl):
  PE X (.Call (.Name x p) (e::es) [] pos) (tMake C sp dvs E t):=by
 intro a s σ H Q I h;refine lO (dU I hg hm ?_ hdb);refine lE (h₀:=X.base) I.ok.mod.kin M.kp (thn (ha pos a s σ H _ I h) λd i⟨c,j,b,r,q⟩=>#[b.kIn,?_]) he hpl;exact run_make M F hr hb hd hx b r q
def pe_make0(M:Mk X.K C f)(F:FnOk X.prog X.w X.K X.mg X.base CX k f fd ps sp)(hr:Room (k+1) X.A)(hg:Gl X x)(hm:X.mg x=some (.ref C))(hb:Binds X.K fd ps ds)(hd:Vals dvs ds)(hx:dk CX X E)
  (hdb:(x==("__debug__":Str))=false:=by decide):PE X (.Call (.Name x p) [] [] pos) (tMake C sp dvs E tNil):=by
 intro a s σ H Q I h;refine lO (dU I hg hm ?_ hdb);exact PySem.W.callWith_K0 I.kIn M.kp (run_make (us:=[]) M F hr hb hd hx I .nil h)
end
section
variable{X:Cx}{CX:CXT}{k:Nat}{f C:Addr}{fd:FuncData}{ps ks:List Str}{sp:Sp}{E:XK}{x m:Str}{p pos apos kpos:Pos}{e o:Expr}{es:List Expr}{kws:List Keyword}{te ta:TE}{t tk:TA}{nm:Option Str}
variable{g:List Value->List Value->List Value}{gV:List V->List V->List V}
end
structure FnScope(N P:List Str)(sc:Scope):Prop where
 kind:sc.kind=.function
 co:sc.isCoroutine=false
 gen:sc.isGenerator=false
 nd:N.Nodup
 pre:N.take P.length=P
 par:∀x∈P,sc.names.lookup x=some .local∨sc.names.lookup x=some .cell
 nofree:∀y∈sc.names,y.2≠.free
def bindL_out{kindOf:Str->Option NameKind}:∀{binds:List (Str×Value)}{m:Str->Option Value},(∀v,(x,v)∉binds)->bindL kindOf binds m x=m x
 |[],_,_=>rfl
 |(n,v)::r,m,h=>by
  unfold bindL;rw[bindL_out λw a=>h w (jW _ a)]
  split
  ·have:x≠n:=by rintro rfl;exact h v jX
   simp[this]
  ·rfl
def bindC_out{kindOf:Str->Option NameKind}:∀{binds:List (Str×Value)}{m:Str->Option Value},(∀v,(x,v)∉binds)->bindC kindOf binds m x=m x
 |[],_,_=>rfl
 |(n,v)::r,m,h=>by
  unfold bindC;rw[bindC_out λw a=>h w (jW _ a)]
  split
  ·rfl
  ·have:x≠n:=by rintro rfl;exact h v jX
   simp[this]
def bindL_get{kindOf:Str->Option NameKind}:∀{P:List Str}{vs:List Value}{i:Nat}{m:Str->Option Value},P.Nodup->P[i]?=some x->vs[i]?=some v->kindOf x=some .local->
  bindL kindOf (P.zip vs) m x=some v
 |[],_,_,_,_,h,_,_=>by simp at h
 |_::_,[],_,_,_,_,h,_=>by simp at h
 |p::P,w::vs,0,m,nd,h1,h2,hk=>by
  simp at h1 h2;subst h1;subst h2;show bindL kindOf ((p,w)::P.zip vs) m p=_;unfold bindL;rw[bindL_out λv a=>(lL.mp nd).1 (List.of_mem_zip a).1,if_pos hk];simp
 |p::P,w::vs,i+1,m,nd,h1,h2,hk=>by
  show bindL kindOf ((p,w)::P.zip vs) m x=_;unfold bindL;exact bindL_get (i:=i) (lL.mp nd).2 (by simpa using h1) (by simpa using h2) hk
def bindC_get{kindOf:Str->Option NameKind}:∀{P:List Str}{vs:List Value}{i:Nat}{m:Str->Option Value},P.Nodup->P[i]?=some x->vs[i]?=some v->kindOf x≠some .local->
  bindC kindOf (P.zip vs) m x=some v
 |[],_,_,_,_,h,_,_=>by simp at h
 |_::_,[],_,_,_,_,h,_=>by simp at h
 |p::P,w::vs,0,m,nd,h1,h2,hk=>by
  simp at h1 h2;subst h1;subst h2;show bindC kindOf ((p,w)::P.zip vs) m p=_;unfold bindC;rw[bindC_out λv a=>(lL.mp nd).1 (List.of_mem_zip a).1,if_neg hk];simp
 |p::P,w::vs,i+1,m,nd,h1,h2,hk=>by
  show bindC kindOf ((p,w)::P.zip vs) m x=_;unfold bindC;exact bindC_get (i:=i) (lL.mp nd).2 (by simpa using h1) (by simpa using h2) hk
abbrev eG(N:List Str)(vs:List V):St:=vs.map some++List.replicate (N.length-vs.length) none
abbrev bF(CX:CXT)(P:Program)(w:World)(K:W.Frag)(mg:Str->Option Value)(base:Heap)(N:List Str)(qual:Str)(scope:Scope)(f:Addr)(cd:Value)(A:Around)(outer:List Env)(s:Shared)(H:Hp)(E:XK):Cx where
 prog:=P
 w:=w
 K:=K
 mg:=mg
 base:=base
 A:=A.deeper (envOfC qual scope s.heap.objs.size f cd)
 N:=N
 s₀:=s
 H₀:=H
 env:=envOfC qual scope s.heap.objs.size f cd
 outer:=outer
 stack:=envOfC qual scope s.heap.objs.size f cd::outer
 ex:=[]
 calm:=true
 fn:=λ_=>true
 pn:=[]
 xe:=λe s'=>wpAny (model P w) (A.deeper (envOfC qual scope s.heap.objs.size f cd)) (leaving (envOfC qual scope s.heap.objs.size f cd) e) (λ_ s''=>CX outer H s E e s'') (λe' s''=>CX outer H s E e' s'') s'
def cell_has{sc:Scope}(h:sc.names.lookup x=some .cell):∃c,(cellsFrom n sc.names []).lookup x=some c:=by
 have q:=PySem.W.cellsFrom_some sc.names n [] (.inl h);exact Option.isSome_iff_exists.mp q
def inv_start{K:W.Frag}
  (S:FnScope N ps scope)(hd:A.handled=none)(e0:Env0 P w K mg base A outer s H)(hl:vs.length=ps.length)(r:Vals vs us)
  (x:InCallC s s.heap.objs.size (bindL (envOfC qual scope s.heap.objs.size f cd).kindOf (ps.zip us) λ_=>none) (cellsFrom (s.heap.objs.size+1) scope.names []) (bindC (envOfC qual scope s.heap.objs.size f cd).kindOf (ps.zip us) λ_=>none) s1):
  Inv (bF CX P w K mg base N qual scope f cd A outer s H E) [] (eG N vs) H s1:=by
 have I:ps.length<=N.length:=by have:=kI List.length S.pre;rw[kc]at this;lia
 let#[t,J,8,B]:=x.done;have j:∀b:Addr,b∉(bF CX P w K mg base N qual scope f cd A outer s H E).ex:=λb z=>absurd (show b∈([]:List Addr) from z) (by simp)
 refine#[#[e0.mod,S.kind,8,8,jJ _,λy z c t d=>?_,λy l=>?_,λy c _ h=>?_,λ_=>hd,Around.frames_deeper e0.frames,.inr #[8,8],λb z=>absurd z (j b),e0.bs,e0.bsz,λb _ _=>j b,λb z=>absurd z (j b),e0.funs,e0.frf],8,e0.bare,Un.kept B,#[_,x.toInCall.ns,λi y v t d L=>?_],λy c h=>#[_,x.cell y c h],e0.hok.fresh (jJ _),λy c h=>?_,λp o=>absurd (show p∈([]:List (Addr×Obj)) from o) (by simp),e0.hok.kept B,?_]
 ·exact name_of_addr x.apart (kY t) (kY d)
 ·have l:scope.names.lookup y=some .cell∨scope.names.lookup y=some .free:=l;rcases l with l|l
  ·exact cell_has l
  ·exact absurd rfl (S.nofree _ (kY l))
 ·exact Nat.le_of_lt (x.above y c (kY h))
 ·have hi:i<vs.length:=by
   unfold eG at d;by_cases hi:i<vs.length
   ·exact hi
   ·rw[kJ (by simpa using hi)]at d;rw[List.getElem?_replicate]at d
    split at d<;>cases d
  have G:vs[i]?=some v:=by
   unfold eG at d;rw[kS (by simpa using hi),jM]at d
   cases e:vs[i]? with
   |none=>rw[e]at d;cases d
   |some a=>rw[e]at d;cases d;rfl
  let#[u,D,F]:=r.get G
  have o:ps[i]?=some y:=by
   rw[<-S.pre,List.getElem?_take_of_lt ()];exact t
  have m:ps.Nodup:=by rw[<-S.pre];exact S.nd.sublist (List.take_sublist _ _)
  refine#[u,F,?_];rcases S.par y (jP o) with k|k
  ·exact .inl #[k,bindL_get m o D k]
  ·let#[c,e]:=cell_has (n:=s.heap.objs.size+1) k;refine .inr #[.inl k,c,e,?_];have q:=x.cell y c e;rw[bindC_get m o D (by show scope.names.lookup y≠_;rw[k];decide)]at q;exact q
 ·exact e0.hok.fresh (Nat.le_of_lt (x.above y c (kY h)))
 ·unfold eG;show _=N.length;rw[j5,jE,List.length_replicate]
  lia
def fn_of{K:W.Frag}{dV kV doc pm cdv ct oc:Value}
  (lk:K.lookup f=some #[oc,od,.func (PySem.W.fnOf name qual params body scope dV kV doc pm an cdv ct),osl])(hcd:PySem.W.codeIn K cdv qual=true)(S:FnScope N ps scope)
  (len:∀vs H Q E,sp vs H Q E->vs.length=ps.length)
  (hbody:∀(A:Around)(outer:List Env)(s:Shared)(H:Hp)(vs:List V)(Q:VK)(E:XK),Room k (A.deeper (envOfC qual scope s.heap.objs.size f cdv))->sp vs H Q E->
   ∃t,PSs (bF CX P w K mg base N qual scope f cdv A outer s H E) body t/\t {nx:=λ_ H'=>Q .non H',rt:=Q} (eG N vs) H):
  FnOk P w K mg base CX (k+1) f (PySem.W.fnOf name qual params body scope dV kV doc pm an cdv ct) ps sp:=by
 refine#[len,λA outer s H D U vs Q E p h O r d=>?_];have G:=len _ _ _ _ d;have B:K.In s.heap:=h.mod.kin.keeps λb o e=>(h.bs b o e).1;have m:s.heap.NoLimit:=h.mod.nolimit.keeps λb o e=>(h.bs b o e).1
 have a:∀y∈ps.zip U,scope.names.lookup y.1=some .local∨(scope.names.lookup y.1=some .cell/\((cellsFrom (s.heap.objs.size+1) scope.names []).lookup y.1).isSome=true):=λ⟨n,v⟩R=>by
  rcases S.par n (List.of_mem_zip R).1 with q|q
  ·exact .inl q
  ·exact .inr #[q,PySem.W.cellsFrom_some _ _ _ (.inl q)]
 refine codeAny_call_function p.depth (B _ _ lk) rfl S.co S.gen rfl (PySem.W.codeRec_of B hcd) (O _ _ _ _ ?_);refine wpAny_newFunctionEnv_cells S.kind a λX M z x=>?_;subst M;refine#[m.keeps x.toInCall.keep,codeAny_func ?_];let#[t,F,L]:=hbody A outer s H vs Q E (p.deeper _) d;have I:Inv (bF CX P w K mg base N qual scope f cdv A outer s H E) [] (eG N vs) H z:=inv_start S p.hd h G r x;refine kr (F [] z (eG N vs) H _ I L) (λT j c=>?_) λe j c=>c
 have fin:∀{i:St}{H':Hp}{v:V}{u:Value},Inv (bF CX P w K mg base N qual scope f cdv A outer s H E) [] i H' j->RelV v u->Q v H'->CE outer P w H s Q u j:=
  λ{i H' v u}J l q=>#[v,H',J.os,J.bare,J.base,J.hok,l,q]
 cases T with
 |ret u=>
  let#[v,i,H',J,l,q]:=c;exact fin J l q
 |next=>
  let#[i,H',J,q]:=c;exact fin (v:=V.non) (u:=Value.none) J rfl q
 |brk=>
  let#[_,_,_,q]:=c;exact False.elim q
 |cont=>
  let#[_,_,_,q]:=c;exact False.elim q
end L2
namespace L2
open PySem PySem.Spec PyProof.Rows
section
variable{X:Cx}{x:Str}{p pos:Pos}{e:Expr}{es:List Expr}{t:TA}{id T:String}{r:List V->Hp->VK->Prop}
abbrev tCB(r:List V->Hp->VK->Prop)(t:TA):TE:=λσ H Q=>t σ H λvs H1=>r vs H1 Q
def bC(hc:et X (.builtin id) r)(hg:Gl X x)(hm:X.mg x=none)(hv:bootBuiltins x=some (.builtin id))(ha:PA X (e::es) t)(hn:x≠"__name__":=by decide)(hdb:(x==("__debug__":Str))=false:=by decide)
  (he:starEach (e::es) X.env=(false,eval e X.env)::starEach es X.env:=by rfl)(hpl:(backTo pos (starEach es X.env)).any (·.1)=false:=by rfl):PE X (.Call (.Name x p) (e::es) [] pos) (tCB r t):=by
 intro a s σ H Q I h;refine lO (ld_blt I hg hm hv ?_ hn hdb);exact PyProof.Rows.callWith_builtin1 (thn (ha pos a s σ H _ I h) (by rintro d j⟨b,m,l,c,i⟩;exact hc a j σ m b d Q l c i)) he hpl
def bW(hc:et X (.type T) r)(hg:Gl X x)(hm:X.mg x=none)(hv:bootBuiltins x=some (.type T))(ha:PA X (e::es) t)(hn:x≠"__name__":=by decide)(hdb:(x==("__debug__":Str))=false:=by decide)
  (he:starEach (e::es) X.env=(false,eval e X.env)::starEach es X.env:=by rfl)(hpl:(backTo pos (starEach es X.env)).any (·.1)=false:=by rfl):PE X (.Call (.Name x p) (e::es) [] pos) (tCB r t):=by
 intro a s σ H Q I h;refine lO (ld_blt I hg hm hv ?_ hn hdb);exact PyProof.Rows.callWith_type1 (thn (ha pos a s σ H _ I h) (by rintro d j⟨b,m,l,c,i⟩;exact hc a j σ m b d Q l c i)) he hpl
end
end L2
namespace HT
open PySem PyProof.Rows
abbrev lexLt:List Int->List Int->Bool
 |[],[]=>false
 |[],_::_=>true
 |_::_,[]=>false
 |x::xs,y::ys=>if x=y then lexLt xs ys else decide (x<y)
section
open PySem.SeqAt
open PySem.AutoSeq1 (wpAny_loadPart')
open PySem.MeetsSeq PySem.MeetsSeq2 PySem.MeetsSeq3
end
section
variable{prog:Program}{w:World}{A:Around}{E:Value->Shared->Prop}{s:Shared}
abbrev sIx(n d:Nat):Option Int->Nat
 |none=>d
 |some v=>if v<0 then(v+(n:Int)).toNat else min v.toNat n
def sIx_none(n d:Nat):sIx n d none=d:=rfl
def sIx_nat(n d k:Nat):sIx n d (some (k:Int))=min k n:=by
 show(if(k:Int)<0 then((k:Int)+(n:Int)).toNat else min (k:Int).toNat n)=min k n;rw[if_neg (),Int.toNat_natCast]
end
end HT
namespace L2
open PySem PySem.Spec PyProof.Rows
nonrec abbrev TO:=St->Hp->(Option Int->Hp->Prop)->Prop
abbrev PO(X:Cx)(e:Option Expr)(t:TO):Prop:=
 ∀(pins:List (Addr×Obj))(s:Shared)(σ:St)(H:Hp)(Q:Option Int->Hp->Prop),Inv X pins σ H s->t σ H Q->
  wpAny (model X.prog X.w) X.A (evalPart e X.env) (λu s'=>∃o H',Inv X pins σ H' s'/\IsPart u o/\Q o H') X.xe s
abbrev tNoPart:TO:=λ_ H Q=>Q none H
abbrev tPart(t:TE):TO:=λσ H Q=>t σ H λx H1=>∃i,x=.int i/\Q (some i) H1
section
variable{X:Cx}{e:Expr}{te:TE}{lo hi:Option Expr}{tl th:TO}{pos p2:Pos}
def po_none:PO X none tNoPart:=by
 intro a s σ H Q I h;rw[evalPart_none];exact jN #[none,H,I,.none,h]
def gv(h:PE X e te):PO X (some e) (tPart te):=by
 intro a s σ H Q I j;rw[evalPart_some];refine thn (h a s σ H _ I j) λu m⟨x,l,d,b,c⟩=>?_;let#[i,8,q]:=c;let#[t,8]:=b;exact#[some i,l,d,.int i t,q]
abbrev SlR(X:Cx)(r:V->Option Int->Option Int->Hp->VK->Prop):Prop:=
 ∀(pins:List (Addr×Obj))(s:Shared)(σ:St)(H:Hp)(x:V)(v vl vu:Value)(lo hi:Option Int)(sl:Addr)(Q:VK),Inv X pins σ H s->RelV x v->s.heap.IsSliceOf sl vl vu .none->IsPart vl lo->IsPart vu hi->r x lo hi H Q->
  ∃T id,typeLookup (.type T) "__getitem__"=pure (some (.builtin id))/\s.TypeIs v T/\wpAny (model X.prog X.w) X.A (getItem v (.ref sl)) (EP X pins σ Q) X.xe s
abbrev tSl(r:V->Option Int->Option Int->Hp->VK->Prop)(te:TE)(tl th:TO):TE:=λσ H Q=>te σ H λx H1=>tl σ H1 λl H2=>th σ H2 λu H3=>r x l u H3 Q
def hJ(hr:SlR X r)(he:PE X e te)(hl:PO X lo tl)(hu:PO X hi th):PE X (.Subscript e (.Slice lo hi none p2) pos) (tSl r te tl th):=by
 intro a s σ H Q I h;refine Subscript_ (thn (he a s σ H _ I h) λv J⟨x,B,t,F,G⟩=>?_);refine wpAny_Slice (thn (hl a J σ B _ t G) λd E⟨l,O,M,y,p⟩=>thn (hu a E σ O _ M p) λi c⟨u,j,z,m,N⟩=>?_);rw[evalPart_none];refine jN ?_;have L:Inv X a σ j {c with heap:=c.heap.push {cls:=.type "slice",data:=.fields (List.toArray [d,i,.none])}}:=z.kept (t':=c.toks) λb P q=>jG _ q;let#[T,id,D,o,K]:=hr a {c with heap:=c.heap.push {cls:=.type "slice",data:=.fields (List.toArray [d,i,.none])}} σ j x v d i l u c.heap.objs.size Q L F (Heap.IsSliceOf.new ..) y m N;show wpAny (model X.prog X.w) X.A (subscriptTail e (.Slice lo hi none p2) v (.ref c.heap.objs.size)) (EP X a σ Q) X.xe {c with heap:=c.heap.push {cls:=.type "slice",data:=.fields (List.toArray [d,i,.none])}};exact tail_any (ops:=[.ref c.heap.objs.size,v]) o D K (by with_unfolding_all rfl)
abbrev cutV(xs:List V)(lo hi:Option Int):List V:=(xs.drop (HT.sIx xs.length 0 lo)).take (HT.sIx xs.length xs.length hi-HT.sIx xs.length 0 lo)
def cutV_length(xs:List V)(lo hi:Option Int):(cutV xs lo hi).length<=xs.length:=by
 unfold cutV;rw[kc,List.length_drop]
 lia
end
end L2
namespace L2
open PySem PySem.Spec PyProof.Rows
abbrev ixN(n:Nat)(i:Int):Option Nat:=if 0<=i then(if i<n then some i.toNat else none)else if-(n:Int)<=i then some (i+n).toNat else none
abbrev atI{α:Type}(xs:List α)(i:Int):Option α:=(ixN xs.length i).bind λj=>xs[j]?
def ixN_seq(h:ixN n i=some j):seqIndex? i n=some j/\j<n/\-(n:Int)<=i/\i<n:=by
 unfold ixN at h;by_cases h0:0<=i
 ·rw[if_pos h0]at h;by_cases h1:i<n
  ·rw[if_pos h1]at h;have e:i.toNat=j:=kh h;exact#[by rw[seqIndex_of h0 h1,e],4,4,h1]
  ·rw[if_neg h1]at h;cases h
 ·rw[if_neg h0]at h;by_cases h1:-(n:Int)<=i
  ·rw[if_pos h1]at h;have e:(i+n).toNat=j:=kh h;exact#[by rw[seqIndex_neg () h1,e],4,h1,4]
  ·rw[if_neg h1]at h;cases h
def atI_get(h:atI xs i=some v):∃j,seqIndex? i xs.length=some j/\xs[j]?=some v/\j<xs.length/\-(xs.length:Int)<=i/\i<xs.length:=by
 unfold atI at h
 cases e:ixN xs.length i with
 |none=>rw[e]at h;cases h
 |some j=>
  rw[e]at h;let#[c,d,b,a]:=ixN_seq e;exact#[j,c,h,d,b,a]
def iw{j:Nat}(h:xs[j]?=some v):atI xs (j:Int)=some v:=by
 have a:j<xs.length:=(jH.mp h).1
 have e:ixN xs.length (j:Int)=some j:=by
  unfold ixN;rw[if_pos (),if_pos ()];simp
 unfold atI;rw[e];exact h
abbrev PlainIx(b:Expr):Prop:=∀o i,subscripted b false o i=operate [o,i] (getItem o i)
abbrev IxR(X:Cx)(r:R2):Prop:=
 ∀(value slice:Expr)(pins:List (Addr×Obj))(s:Shared)(σ:St)(H:Hp)(x y:V)(v u:Value)(Q:VK),Inv X pins σ H s->RelV x v->RelV y u->r x y H Q->
  subscripted slice false v u=operate [v,u] (getItem v u)->wpAny (model X.prog X.w) X.A (subscriptTail value slice v u) (EP X pins σ Q) X.xe s
abbrev MtR(X:Cx)(id:String)(r:V->List V->Hp->VK->Prop):Prop:=
 ∀(pins:List (Addr×Obj))(s:Shared)(σ:St)(H:Hp)(x:V)(xs:List V)(v:Value)(us:List Value)(Q:VK),Inv X pins σ H s->RelV x v->Vals xs us->r x xs H Q->
  wpAny (model X.prog X.w) X.A (call (.builtin id) (v::us)) (EP X pins σ Q) X.xe s
section
variable{X:Cx}{a b:Expr}{ta tb:TE}{pos:Pos}
def aN(hr:IxR X r)(ha:PE X a ta)(hb:PE X b tb)(hs:PlainIx b):PE X (.Subscript a b pos) (tOp r ta tb):=by
 intro c s σ H Q I h;exact Subscript_ (binT ha hb I h λv u e x y l j d i q=>hr a b c e σ l x y v u Q j d i q (hs _ _))
inductive IrIxL(K:W.Frag)(x:V)(y:V)(H:Hp)(Q:VK):Prop
 |mk(p:_)(xs:_)(i:_)(v:_)(h1:x=.ref p)(h2:y=.int i)(h3:SqL K H p xs)(h4:atI xs i=some v)(h5:Q v H):IrIxL K x y H Q
abbrev rIxL(K:W.Frag):R2:=λx y H Q=>IrIxL K x y H Q
inductive IrIxT(K:W.Frag)(x:V)(y:V)(H:Hp)(Q:VK):Prop
 |mk(p:_)(xs:_)(i:_)(v:_)(h1:x=.ref p)(h2:y=.int i)(h3:SqT K H p xs)(h4:atI xs i=some v)(h5:Q v H):IrIxT K x y H Q
abbrev rIxT(K:W.Frag):R2:=λx y H Q=>IrIxT K x y H Q
abbrev rIxS:R2:=λx y H Q=>∃z i c,x=.str z/\y=.int i/\z.length<=sizeLine/\atI z.cps.toList i=some c/\Q (.str #[(List.toArray [c])]) H
def aU:IxR X (rIxL X.K):=by
 intro l o a s σ H x y v u Q I M N h B;let#[p,O,i,z,8,8,K,L,q]:=h
 cases M;let#[t,8]:=N;let#[d,r,e,S]:=I.list K;let#[j,b,E,R,J,D]:=atI_get L;let#[w,A,m]:=r.get E;have G:=r.length;have P:=line63;have fin:EP X a σ Q w s:=#[z,H,I,m,q];by_cases h0:0<=i
 ·have c:i.toNat=j:=by
   rw[seqIndex_of h0 D]at b;exact kh b
  exact item_listR e.isList h0 () (by rw[c];simpa using A) fin B
 ·have c:(i+(d.toArray.size:Int)).toNat=j:=by
   rw[seqIndex_neg () J]at b;rw[j0,<-G];exact kh b
  exact subscriptTail_builtinR (x:=w) e.isList.typeIs slot_list_getitem.lookup
   (wpAny_getItem_list_neg (Q:=λr F=>r=w/\EP X a σ Q r F) e.isList () (by rw[j0]<;>lia) () (by rw[c];simpa using A) #[8,fin]) B
def bA:IxR X (rIxT X.K):=by
 intro b d a s σ H x y v u Q I E F h J;let#[p,N,i,z,8,8,A,D,q]:=h
 cases E;let#[t,8]:=F;let#[B,r,e,R]:=I.tuple A;let#[j,K,l,P,M,L]:=atI_get D;let#[w,G,c]:=r.get l;have o:=r.length;have O:=line63;have fin:EP X a σ Q w s:=#[z,H,I,c,q]
 exact subscriptTail_builtinR (x:=w) e.typeIs slot_tuple_getitem.lookup
  (getItem_tuple (j:=j) (Q:=λr m=>r=w/\EP X a σ Q r m) e () () (by rw[j0,<-o];exact K) (by simpa using G) #[8,fin]) J
def ix_str:IxR X rIxS:=by
 intro b a d s σ H x y v u Q I w B h D;let#[z,i,c,8,8,J,A,q]:=h;let#[t,8]:=w;let#[K,8]:=B;let#[j,e,o,F,r,l]:=atI_get A;have p:z.cps.toList.length=z.length:=by simp[Str.length]
 rw[p]at e r l;have G:=line63
 exact tail_any (typeIs_str s z t) slot_str_getitem.lookup (getItem_str (c:=c) (by
  have E:decide (i< -(2^63:Int))=false:=jI ();have m:decide (i≥2^63)=false:=jI ();rw[E,m,Bool.or_false]) (by rw[e];simpa using o) #[.str #[(List.toArray [c])],H,I.tok _,#[9],q]) D
def slice_bounds(lo hi:Option Int)(n:Nat):(sliceBounds lo hi none n).1=((HT.sIx n 0 lo:Nat):Int)/\(sliceBounds lo hi none n).2.1=((HT.sIx n n hi:Nat):Int)/\(sliceBounds lo hi none n).2.2=1:=by
 refine#[?_,?_,8]
 ·cases lo with
  |none=>simp[sliceBounds,HT.sIx]
  |some i=>
   simp only[sliceBounds,HT.sIx,Option.getD_none,show(1:Int)>0 by decide,if_true];by_cases h:i<0
   ·simp only[h,if_true]<;>lia
   ·simp only[h,if_false]<;>lia
 ·cases hi with
  |none=>simp[sliceBounds,HT.sIx]
  |some i=>
   simp only[sliceBounds,HT.sIx,Option.getD_none,show(1:Int)>0 by decide,if_true];by_cases h:i<0
   ·simp only[h,if_true]<;>lia
   ·simp only[h,if_false]<;>lia
def slicePick_cut(its:List Value)(lo hi:Option Int):slicePick its.toArray lo hi none=((its.drop (HT.sIx its.length 0 lo)).take (HT.sIx its.length its.length hi-HT.sIx its.length 0 lo)).toArray:=by
 let#[b,c,a]:=slice_bounds lo hi its.toArray.size;unfold slicePick;rw[b,c,a];simp only[sliceRange_one,pick_run,j0]<;>rfl
inductive IrSlL(K:W.Frag)(x:V)(lo:Option Int)(hi:Option Int)(H:Hp)(Q:VK):Prop
 |mk(a:_)(xs:_)(h1:x=.ref a)(h2:SqL K H a xs)(h3:∀p,H p=none->Q (.ref p) (upd H p (.lst (cutV xs lo hi)))):IrSlL K x lo hi H Q
abbrev rSlL(K:W.Frag):V->Option Int->Option Int->Hp->VK->Prop:=λx lo hi H Q=>IrSlL K x lo hi H Q
def sl_list:SlR X (rSlL X.K):=by
 intro j s σ H x v A z e hi B Q I m w t l h;let#[a,c,8,y,q]:=h
 cases m;let#[p,r,i,u]:=I.list y;have d:=r.length;refine#["list",_,slot_list_getitem.lookup,i.isList.typeIs,?_];refine wpAny_getItem_list_slice i.isList w t l .none (by simp) ?_ (by rw[j0]<;>lia);rw[slicePick_cut,<-d];refine#[.ref s.heap.objs.size,_,I.laid (t':=s.toks) (o:=.lst (cutV c e hi)) (λb D q=>jG _ q) (jJ _) ?_,8,q _ (I.hok.fresh (jJ _))];exact#[jK (cutV_length c e hi) u,_,0,(r.drop (HT.sIx c.length 0 e)).take (HT.sIx c.length c.length hi-HT.sIx c.length 0 e),jT _ rfl]
abbrev dY:V->Bool
 |.non=>true
 |.bl _=>true
 |.int _=>true
 |.str _=>true
 |_=>false
abbrev eqV:V->V->Bool
 |.non,.non=>true
 |.bl a,.bl b=>a==b
 |.bl a,.int b=>(if a then 1 else 0)==b
 |.int a,.bl b=>a==(if b then 1 else 0)
 |.int a,.int b=>a==b
 |.str a,.str b=>a==b
 |_,_=>false
def eqAt_V(ry:RelV y u)(rx:RelV x v)(fy:dY y=true)(fx:dY x=true):SeqAt.EqAt A s u v (eqV y x):=by
 cases y with
 |non=>
  cases ry
  cases x with
  |non=>cases rx;exact SeqAt.EqAt.same _
  |bl b=>cases rx;exact SeqAt.EqAt.none_bool b
  |int b=>let#[t,8]:=rx;exact SeqAt.EqAt.none_int b t
  |str b=>let#[t,8]:=rx;exact SeqAt.EqAt.none_str b t
  |_=>exact absurd (show false=true from fx) j2
 |bl a=>
  cases ry
  cases x with
  |non=>cases rx;exact SeqAt.EqAt.bool_none a
  |bl b=>cases rx;exact SeqAt.EqAt.bool_bool a b
  |int b=>let#[t,8]:=rx;exact SeqAt.EqAt.bool_int a b t
  |str b=>let#[t,8]:=rx;exact SeqAt.EqAt.bool_str a b t
  |_=>exact absurd (show false=true from fx) j2
 |int a=>
  let#[c,8]:=ry
  cases x with
  |non=>cases rx;exact SeqAt.EqAt.int_none a c
  |bl b=>cases rx;exact SeqAt.EqAt.int_bool a c b
  |int b=>let#[t,8]:=rx;exact SeqAt.EqAt.int_int a c b t
  |str b=>let#[t,8]:=rx;exact SeqAt.EqAt.int_str a c b t
  |_=>exact absurd (show false=true from fx) j2
 |str a=>
  let#[c,8]:=ry
  cases x with
  |non=>cases rx;exact SeqAt.EqAt.str_none a c
  |bl b=>cases rx;exact SeqAt.EqAt.str_bool a c b
  |int b=>let#[t,8]:=rx;exact SeqAt.EqAt.str_int a c b t
  |str b=>let#[t,8]:=rx;exact SeqAt.EqAt.str_str a c b t
  |_=>exact absurd (show false=true from fx) j2
 |_=>exact absurd (show false=true from fy) j2
abbrev eqU(x:V)(u:Value):Bool:=match u with
 |.none=>eqV .non x
 |.bool b=>eqV (.bl b) x
 |.int i _=>eqV (.int i) x
 |.str z _=>eqV (.str z) x
 |_=>false
def eqU_of(r:RelV y u)(f:dY y=true):eqU x u=eqV y x:=by
 cases y with
 |non=>cases r;rfl
 |bl b=>cases r;rfl
 |int i=>let#[t,8]:=r;rfl
 |str z=>let#[t,8]:=r;rfl
 |_=>exact absurd (show false=true from f) j2
def any_eqU:∀{xs:List V}{us:List Value},Vals xs us->xs.all dY=true->us.any (eqU x)=xs.any λy=>eqV y x
 |_,_,.nil,_=>rfl
 |y::xs,u::us,.cons r t,f=>by
  rw[List.all_cons,lG]at f;rw[List.any_cons,List.any_cons,eqU_of r f.1,any_eqU t f.2]
def mem_eqAt(rx:RelV x v)(fx:dY x=true):∀{xs:List V}{us:List Value},Vals xs us->xs.all dY=true->∀u∈us,SeqAt.EqAt A s u v (eqU x u)
 |_,_,.nil,_=>λu a=>by cases a
 |y::xs,u::us,.cons r t,f=>λb a=>by
  rw[List.all_cons,lG]at f;rcases jR.mp a with rfl|a
  ·rw[eqU_of r f.1];exact eqAt_V r rx f.1 fx
  ·exact mem_eqAt rx fx t f.2 b a
abbrev inV(x:V)(xs:List V):Bool:=xs.any λy=>eqV y x
abbrev rIn(K:W.Frag)(neg:Bool):R2:=λx y H Q=>∃p xs,y=.ref p/\(SqL K H p xs∨SqT K H p xs)/\dY x=true/\xs.all dY=true/\Q (.bl (if neg then !inV x xs else inV x xs)) H
def im:OpR X (compareOp .In) (rIn X.K false):=by
 intro i s σ H x y v u Q I e l h;let#[p,o,8,b,j,fs,q]:=h
 cases l;rcases b with b|b
 ·let#[a,r,c,m]:=I.list b;refine SeqAt.in_listAt (eqU x) c.isList (λw d=>mem_eqAt e j r fs w (by simpa using d)) #[.bl _,H,I,8,?_];rw[show a.toArray.any (eqU x)=a.any (eqU x) by simp,any_eqU r fs];exact q
 ·let#[a,r,c,m]:=I.tuple b;refine SeqAt.in_tupleAt (eqU x) c (λw d=>mem_eqAt e j r fs w (by simpa using d)) #[.bl _,H,I,8,?_];rw[show a.toArray.any (eqU x)=a.any (eqU x) by simp,any_eqU r fs];exact q
def call_len_seq:et X (.builtin "len") (λxs H Q=>∃p ys,xs=[.ref p]/\(SqL X.K H p ys∨SqT X.K H p ys)/\Q (.int ys.length) H):=by
 intro i s σ H xs o Q I r h;let#[p,ys,8,b,q]:=h;let#[u,8,j]:=fS r
 cases j;have m:=line63;rcases b with b|b
 ·let#[c,e,d,l]:=I.list b;have a:=e.length;exact Calls.call_len_list d.isList (by simp only[j0]<;>lia) #[.int ys.length,H,I.tok _,#[s.toks+1,by rw[j0,a]],q]
 ·let#[c,e,d,l]:=I.tuple b;have a:=e.length;exact len_tuple d (by simp only[j0]<;>lia) #[.int ys.length,H,I.tok _,#[s.toks+1,by rw[j0,a]],q]
def call_len_str:et X (.builtin "len") (λxs H Q=>∃z,xs=[.str z]/\z.length<=sizeLine/\Q (.int z.length) H):=by
 intro a s σ H xs c Q I r h;let#[z,8,d,q]:=h;let#[u,8,t,8]:=fS r;have b:=line63;exact len_str () #[.int z.length,H,I.tok _,#[9],q]
def iP:et X (.type "tuple") (λxs H Q=>∃p ys,xs=[.ref p]/\((SqL X.K H p ys/\∀l,H l=none->Q (.ref l) (upd H l (.tup ys)))∨(SqT X.K H p ys/\Q (.ref p) H))):=by
 intro a s σ H xs A Q I r h;let#[p,ys,8,h]:=h;let#[u,8,x]:=fS r
 cases x;rcases h with⟨hq,q⟩|⟨hq,q⟩
 ·let#[c,j,i,v]:=I.list hq;have m:=j.length;refine call_tuple_list i.isList (λd z=>?_) (by simp only[j0]<;>lia);have t:Inv X a σ H {s with heap:=d}:=I.kept (t':=s.toks) z
  have y:Inv X a σ (upd H d.objs.size (.tup ys)) {s with heap:=d.push {cls:=.type "tuple",data:=.seq c.toArray}}:=
   t.laid (t':=s.toks) (λb o e=>jG _ e) (jJ _) (show ObjOk X.prog X.w _ _ _ (.tup ys) from#[v,c,j,IsTup.new _ _])
  exact#[.ref d.objs.size,_,y,8,q _ (t.hok.fresh (jJ _))]
 ·let#[c,j,i,v]:=I.tuple hq;exact call_tuple_same i #[.ref p,H,I,8,q]
abbrev tyV(K:W.Frag)(T:String)(x:V)(H:Hp):Prop:=match x with
 |.str _=>T="str"
 |.int _=>T="int"
 |.ref p=>(T="list"/\∃xs,SqL K H p xs)∨(T="tuple"/\∃o,K.lookup p=some o/\o.cls=.type "tuple"/\o.dict=none)∨
   (T="dict"/\((∃kvs,H p=some (.dK kvs))∨∃kvs,H p=some (.dT kvs)))∨(T="set"/\∃S n,H p=some (.set S n))
 |_=>False
def tyV_is(I:Inv X pins σ H s)(r:RelV x v)(ty:tyV X.K T x H):
  s.TypeIs v T/\∀a,v=.ref a->∃ob,s.heap.get? a=some ob/\ob.dict=none:=by
 cases x with
 |str z=>
  let#[t,8]:=r
  cases(show T="str"from ty);exact#[typeIs_str s z t,λ_ e=>nomatch e]
 |int i=>
  let#[t,8]:=r
  cases(show T="int"from ty);exact#[typeIs_int s i t,λ_ e=>nomatch e]
 |ref p=>
  cases r;rcases ty with⟨rfl,xs,hq⟩|⟨rfl,o,hk,hc,hd⟩|⟨rfl,hk⟩|⟨rfl,S,n,hk⟩
  ·let#[h,_,d,_]:=I.list hq;refine#[d.isList.typeIs,λa e=>?_]
   cases e;let#[o,n,e,c,hd,_]:=d;exact#[o,e,hd]
  ·refine#[#[o,I.kIn p o hk,hc],λa e=>?_]
   cases e;exact#[o,I.kIn _ o hk,hd]
  ·have z:∃o,s.heap.get? p=some o/\o.ExactDict:=by
    rcases hk with⟨kvs,hk⟩|⟨kvs,hk⟩
    ·let#[_,_,_,_,o,_,_,e,ex,_]:=I.hok p _ hk;exact#[o,e,ex]
    ·let#[_,_,_,_,o,_,_,e,ex,_]:=I.hok p _ hk;exact#[o,e,ex]
   let#[o,e,ex]:=z;refine#[#[o,e,ex.1],λa b=>?_]
   cases b;exact#[o,e,ex.2.1]
  ·let#[o,_,_,_,e,ex,_]:=I.hok p _ hk;refine#[#[o,e,ex.1],λa b=>?_]
   cases b;exact#[o,e,ex.2.1]
 |_=>exact False.elim ty
abbrev tBM0(K:W.Frag)(T:String)(r:V->List V->Hp->VK->Prop)(to:TE):TE:=λσ H Q=>to σ H λx H1=>tyV K T x H1/\r x [] H1 Q
abbrev tBM(K:W.Frag)(T:String)(r:V->List V->Hp->VK->Prop)(to:TE)(t:TA):TE:=λσ H Q=>to σ H λx H1=>tyV K T x H1/\t σ H1 λxs H2=>r x xs H2 Q
variable{o e:Expr}{es:List Expr}{to:TE}{t:TA}{name:Str}{apos cpos:Pos}{T id:String}{r:V->List V->Hp->VK->Prop}
def pe_bm0(pa:PlainAttrs T)(slot:Slot T name id)(hty:typeOf (.builtin id)=pure (.type "method_descriptor"))(hm:MtR X id r)(ho:PE X o to)
  (hbase:attributeBase o name X.env (eval o X.env)=eval o X.env:=by rfl)(hline:(apos.endLine==cpos.line)=true:=by rfl):PE X (.Call (.Attribute o name apos) [] [] cpos) (tBM0 X.K T r to):=by
 intro a s σ H Q I h;refine wpAny_Call_method0_late hbase hline (thn (ho a s σ H _ I h) λv j⟨x,l,c,b,ty,i⟩=>?_);let#[d,e]:=tyV_is c b ty;exact#[T,id,pa,slot,hty,d,e,Calls.callWith_builtin rfl (PySem.evalArgs_none (hm a j σ l x [] v [] Q c b .nil i))]
def dr(pa:PlainAttrs T)(slot:Slot T name id)(hty:typeOf (.builtin id)=pure (.type "method_descriptor"))(hm:MtR X id r)(ho:PE X o to)(ha:PA X (e::es) t)
  (hbase:attributeBase o name X.env (eval o X.env)=eval o X.env:=by rfl)
  (hfew:((backTo cpos (starEach (e::es) X.env)).all (λx=>!x.1)&&(backToKw cpos (keywordEach [] X.env)).all (λx=>x.1.isSome)
   &&decide ((e::es).length+([]:List Keyword).length+(if([]:List Keyword).isEmpty then 0 else 1)<30))=true:=by rfl)
  (hline:(apos.endLine==cpos.line)=true:=by rfl)(hs:starEach (e::es) X.env=(false,eval e X.env)::starEach es X.env:=by rfl)(hplain:(backTo cpos (starEach es X.env)).any (·.1)=false:=by rfl):
  PE X (.Call (.Attribute o name apos) (e::es) [] cpos) (tBM X.K T r to t):=by
 intro a s σ H Q I h;refine wpAny_Call_method_late hbase hfew hline rfl (thn (ho a s σ H _ I h) λv w⟨x,m,b,d,ty,u⟩=>?_);let#[A,j]:=tyV_is b d ty;refine#[T,id,pa,slot,hty,A,j,?_];have c:=ha cpos a w σ m _ b u;rw[hs]at c⊢;refine Calls.callWith_builtin (by show(false||(backTo cpos (starEach es X.env)).any (·.1))=false;rw[hplain]<;>rfl) (Calls.evalArgs_plain ?_);exact thn c (by rintro q p⟨i,B,y,z,l⟩;exact hm a p σ B x i v q Q y d z l)
end
end L2
namespace L2
open PySem PySem.Spec PyProof.Rows
abbrev MtM(X:Cx)(id:String)(r:V->List V->Hp->VK->Prop):Prop:=
 ∀(pins:List (Addr×Obj))(s:Shared)(σ:St)(H:Hp)(x:V)(xs:List V)(v:Value)(us:List Value)(Q:VK),Inv X pins σ H s->RelV x v->Vals xs us->r x xs H Q->
  wpAny (model X.prog X.w) X.A (call (.builtin id) (v::us)) (EP X pins σ Q) X.xe s
def Vals.one:∀{x:V}{us:List Value},Vals [x] us->∃u,us=[u]/\RelV x u
 |_,_,.cons r .nil=>#[9,r]
section
variable{X:Cx}{pins:List (Addr×Obj)}{σ:St}{H:Hp}{s:Shared}{l b:Addr}{xs ys zs:List V}
def Inv.lset{its its':List Value}(I:Inv X pins σ H s)(hH:H l=some (.lst xs))
  (e:s.heap.get? l=some {cls:=.type "list",data:=.seq its.toArray n})(hf:f its.toArray=its'.toArray)(hv:Vals ys its')(hz:ys.length<=sizeLine):
  Inv X pins σ (upd H l (.lst ys)) {s with heap:=s.heap.update l (Obj.mapSeq f),toks:=t'}:=by
 have q:=PySem.IsL.update e f;rw[hf]at q;refine I.write (x:=l) (e:=l) (by rw[hH];exact trivial) (.inl rfl) (λc u b a=>(kA s.heap (Obj.mapSeq f) (k7 b)).trans a) #[_,q] ?_;exact#[hz,its',_,hv,q]
def Inv.lnew(I:Inv X pins σ H s)(hv:Vals ys its)(hz:ys.length<=sizeLine):
  Inv X pins σ (upd H s.heap.objs.size (.lst ys)) {s with heap:=s.heap.push {cls:=.type "list",data:=.seq its.toArray},toks:=t'}:=
 I.laid (λ_ _ q=>jG _ q) (jJ _) #[hz,its,0,hv,jT _ rfl]
def Inv.fresh(I:Inv X pins σ H s):H s.heap.objs.size=none:=I.hok.fresh (jJ _)
def Inv.lstM(I:Inv X pins σ H s)(hH:H l=some (.lst xs)):xs.length<=sizeLine/\∃(its:List Value)(n:Nat),Vals xs its/\xs.length=its.length/\s.heap.get? l=some {cls:=.type "list",data:=.seq its.toArray n}:=by
 let#[z,its,n,r,e]:=I.hok l _ hH;exact#[z,its,n,r,r.length,e]
end
section
variable{X:Cx}
inductive IrAppend(x:V)(vs:List V)(H:Hp)(Q:VK):Prop
 |mk(l:_)(xs:_)(y:_)(h1:x=.ref l)(h2:vs=[y])(h3:H l=some (.lst xs))(h4:xs.length<sizeLine)(h5:Q .non (upd H l (.lst (xs++[y])))):IrAppend x vs H Q
abbrev rAppend:V->List V->Hp->VK->Prop:=λx vs H Q=>IrAppend x vs H Q
def bU:MtM X "list.append" rAppend:=by
 intro c s σ H x m v t Q I i j h;let#[l,p,y,8,8,b,w,q]:=h
 cases i;let#[u,8,d]:=j.one;let#[z,a,n,r,o,e]:=I.lstM b;refine call_meets F.slot_list_append #[_,e,8] F.entry_list_append (F.args_list_append_2 _ _) (PySem.list_append l a.toArray n u (by rw[j0];lia)) #[e,?_];refine#[.non,_,I.lset (its':=a++[u]) b e (by simp) (r.append (.cons d .nil)) ?_,8,q];rw[j5,List.length_singleton]
 lia
inductive IrCat(x:V)(y:V)(H:Hp)(Q:VK):Prop
 |mk(l:_)(b:_)(xs:_)(zs:_)(h1:x=.ref l)(h2:y=.ref b)(h3:H l=some (.lst xs))(h4:H b=some (.lst zs))(h5:xs.length+zs.length<=sizeLine)(h6:∀p,H p=none->Q (.ref p) (upd H p (.lst (xs++zs)))):IrCat x y H Q
abbrev rCat:R2:=λx y H Q=>IrCat x y H Q
def op_cat:OpR X (binaryOp .Add) rCat:=by
 intro d s σ H x y v u Q I o p h;let#[l,b,E,B,8,8,i,w,G,q]:=h
 cases o
 cases p;let#[z,c,n,r,D,e]:=I.lstM i;let#[J,a,F,A,m,j]:=I.lstM w;refine PySem.P.add_list e j ?_ (by rw[j0,j0];lia);have t:c.toArray++a.toArray=(c++a).toArray:=by simp
 rw[t];exact#[.ref _,_,I.lnew (t':=s.toks) (r.append A) (by rw[j5];lia),8,q _ I.fresh]
end
section
variable{prog:Program}{w:World}{A:Around}{E:Value->Shared->Prop}{s:Shared}
end
section
variable{X:Cx}
end
end L2
namespace Att
open PySem PySem.W PySem.Calls PyProof.Rows
def ints_of_wellAll:∀(ns:List Int)(vs:List Value),WellAll P h vs (ns.map WData.int)->IntsAre vs ns:=by
 intro ns
 induction ns with
 |nil=>
  intro vs w;rw[lD]at w
  cases w;exact .nil
 |cons n ns ih=>
  intro vs w;rw[kz]at w
  cases w with
  |cons a b=>
   cases a;exact .cons _ _ (ih _ b)
def script_of{l:OpenLaw}(hn:l.most=some n)
  (hpre:l.row.toRowW.claim.pre args=true)(hwl:WellAll P h vals args):
  ∃a vs ns,vals=[Value.ref a]/\args=[WData.list (ns.map WData.int)]/\h.get? a=some {cls:=.type "list",data:=.seq vs.toArray}/\IntsAre vs ns/\ns.length<=n:=by
 have i:WShape.hasAll [] args [.list .int]=true:=(pre_splitW hpre).1;have j:l.pre.holds [] {args:=args}=true:=(pre_splitW hpre).2;let#[d,r,8,m,p]:=hasAllW_cons i;obtain rfl:=hasAllW_nil p;let#[t,8,o]:=hasW_list m;let#[ns,8]:=items_int o
 have b:ns.length<=n:=by
  unfold OpenLaw.pre at j
  have e:(WTm.not (.lt (.lit (.int (n:Int))) (.len (.arg 0)))).holds [] {args:=[.list (ns.map .int)]}=true:=by
   have e:=(holds_andW j).1;rw[hn]at e;exact e
  have c:=condW_of e (w_not (w_lt w_lit (w_len_list (w_arg rfl))));rw[jE]at c;refine Nat.le_of_not_lt λq=>?_;have s:(n:Int)<((ns.length:Nat):Int):=by omega
  first
   |(rw[jL s]at c;exact absurd c (by decide))
   |(simp at c;lia)
 cases hwl with
 |cons w1 w2=>
  cases w2
  cases w1 with
  |list ho hall=>exact#[_,_,ns,8,8,ho,ints_of_wellAll ns _ hall,b]
def post_true(l:OpenLaw)(args:List WData):l.row.toRowW.claim.post args (.bool true) args=true:=
 postW_of (r:=l.row.toRowW) (X:=(true==true))
  (show WShape.has [] (.bool true) .bool=true by first|rfl|decide|simp[WShape.has,WShape.arms,WShape.armsAll])
  (show(WTm.eq .res (.lit (.bool true))).value [] {args:=args,res:=some (.bool true),after:=args}=some (.bool (true==true)) from w_eq_bool (w_res rfl) w_lit) rfl
section
variable{prog:Program}{w:World}{A:Around}{E:Value->Shared->Prop}{s:Shared}{K:Frag}
end
end Att
namespace L2
open PySem PySem.Spec PyProof.Rows
def vals_ints:∀{vs:List Value}{ns:List Int},IntsAre vs ns->Vals (ns.map V.int) vs
 |_,_,.nil=>.nil
 |_,_,.cons n t h=>.cons #[t,8] (vals_ints h)
abbrev Only(H:Hp):Prop:=∀b,H b=none∨∃o xs,H b=some (.frz o (.lst xs))
def law_call{K:W.Frag}
  (KX:K.In s₁.heap)(hns:s₁.heap.Ns mainGlobals mg)(hb:s₁.heap.Ns builtinsNs mb)(hbb:∀x:Str,x≠"__name__"->mb x=bootBuiltins x)(hlim:s₁.heap.NoLimit)(hsr:s₁.heap.NoSeer)(hg:s₁.gens=(List.toArray []))
  (ha:s₁.heap.get? a=some {cls:=.type "list",data:=.seq vs.toArray})(hi:IntsAre vs ns)(hl:ns.length<=sizeLine)(hr:Room k callerA)
  (F:∀base:Heap,K.In base->base.Ns mainGlobals mg->FnOk P w K mg base CX k fa fd [x] sp)(hbind:∀(s:Shared)(u:Value),BindsTo s fd #[[u],[]] [(x,u)])
  (hsp:∀H:Hp,Only H->SqL K H a (ns.map V.int)->sp [.ref a] H (λv _=>v=.bl true) λ_ _ _=>False)
  (hCX:∀H e s',CX [] H s₁ (λ_ _ _=>False) e s'->False):
  codeAny (model P w) callerA (.call (.ref fa) #[[.ref a],[]]) (λr s'=>r=.ok (.ret (.bool true))/\OldK s₁.heap s'.heap/\s'.os=s₁.os/\AllBare s'.gens) s₁:=by
 have L:=vals_ints hi;have t:=hi.length
 have j:∀H:Hp,Only H->SqL K H a (ns.map V.int)->HOk P w H s₁.heap->(∀b,H b≠none->b=a)->(H a≠none->K.lookup a=none)->
   codeAny (model P w) callerA (.call (.ref fa) #[[.ref a],[]]) (λr s'=>r=.ok (.ret (.bool true))/\OldK s₁.heap s'.heap/\s'.os=s₁.os/\AllBare s'.gens) s₁:=by
  intro H N O A I X;have c:∀{b:Addr}{o:Obj},s₁.heap.get? b=some o->H b=none->(hidT s₁.heap H).get? b=some o:=λe n=>hidT_get e n
  have J:∀{b:Addr}{o:Obj}{G:Array DictEntry}{E:Nat},s₁.heap.get? b=some o->o.data=.dict G E->H b=none:=λ{b o G E}e d=>by
   cases q:H b with
   |none=>rfl
   |some u=>
    have B:b=a:=I b (by rw[q];simp);subst B;rw[ha]at e;cases e;have U:Data.seq vs.toArray _=Data.dict G E:=d
    cases U
  have i:∀{b:Addr}{m:Str->Option Value},s₁.heap.Ns b m->(hidT s₁.heap H).Ns b m:=λ{b m}⟨o,G,E,e,d,r⟩=>#[o,G,E,c e (J e d),d,r]
  have y:K.In (hidT s₁.heap H):=λb o e=>c (KX b o e) (by
   cases q:H b with
   |none=>rfl
   |some u=>
    have B:b=a:=I b (by rw[q];simp);subst B;rw[X (by rw[q];simp)]at e;cases e)
  have W:Mod K mg (hidT s₁.heap H):=#[y,i hns,#[mb,i hb,hbb],let⟨mc,h1,h2⟩:=hlim;#[mc,i h1,h2],#[let⟨mc,h1,h2⟩:=hsr.statics;#[mc,i h1,h2],let⟨mc,h1,h2⟩:=hsr.mods;#[mc,i h1,h2],let⟨mc,h1,h2⟩:=hsr.imp;#[mc,i h1,h2],let⟨mc,bm,ob,h1,h2,h3,h4,h5⟩:=hsr.main;#[mc,bm,ob,i h1,h2,c h3 (by
   cases q:H bm with
   |none=>rfl
   |some u=>
    have B:bm=a:=I bm (by rw[q];simp);subst B;rw[ha]at h3;cases h3;injection h4 with z;exact absurd z (by decide)),h4,h5]]]
  have Z:Env0 P w K mg (hidT s₁.heap H) callerA [] s₁ H:=#[8,W,λb o e=>of_hidT e,Nat.le_of_eq (hidT_size _ _),trivial,λb hb=>absurd (show b∈([]:List Addr) from hb) (by simp),A,.of_eq hg];refine codeAny_mono ((F _ y (i hns)).run callerA [] s₁ H #[[.ref a],[]] [.ref a] [.ref a] _ _ hr Z (hbind s₁ (.ref a)) (.cons rfl .nil) (hsp H N O)) λr s' h=>?_
  cases r with
  |error e=>exact(hCX H e s' h).elim
  |ok fl=>
   cases fl with
   |next=>exact False.elim h
   |brk=>exact False.elim h
   |cont=>exact False.elim h
   |ret u=>
    let#[v,H',Y,D,un,l,S,q]:=h;have Q:v=.bl true:=q;subst Q;obtain rfl:u=Value.bool true:=S;refine#[8,OldK.of_keep λb o e=>?_,Y,D]
    cases q:H b with
    |none=>exact un.keep b o e q (by intro z;exact absurd (show b∈([]:List Addr) from z) (by simp)) (by simp)
    |some u=>
     rcases N b with z|⟨ob,xs,z⟩
     ·rw[q]at z;cases z
     ·have R:=un.frzs b ob _ z;let#[M,_]:=A b _ z;let#[T,_]:=l b _ R;rw[e]at M;cases M;exact T
 cases hk:K.lookup a with
 |some o=>
  have e:=KX a o hk;rw[ha]at e
  cases e;refine j (λ_=>none) (λ_=>.inl rfl) (.inr #[_,vs.toArray,_,hk,8,8,8,by rw[j0,t];exact hl,by simpa using L]) (λb u z=>by have p:(none:Option HO)=some u:=z;cases p) (λb z=>absurd rfl z) λz=>absurd rfl z
 |none=>
  refine j (λb=>if b=a then some (.frz {cls:=.type "list",data:=.seq vs.toArray} (.lst (ns.map V.int))) else none) (λb=>?_) (.inl (.inr #[{cls:=.type "list",data:=.seq vs.toArray},if_pos rfl])) (λb u z=>?_) (λb z=>?_) λ_=>hk
  ·by_cases hb:b=a
   ·exact .inr #[_,_,if_pos hb]
   ·exact .inl (if_neg hb)
  ·by_cases hb:b=a
   ·have p:=(if_pos hb).symm.trans z
    cases p;subst hb;exact#[ha,by rw[jE];exact hl,vs,_,L,ha]
   ·have p:=(if_neg hb).symm.trans z
    cases p
  ·by_cases hb:b=a
   ·exact hb
   ·exact absurd (if_neg hb) z
end L2
namespace L2
open PySem PySem.Spec PyProof.Rows
end L2
namespace L2
open PySem PySem.Spec PyProof.Rows
abbrev aY(s:Stmt)(j:Nat):Stmt:=match s with
 |.ClassDef _ _ _ body _ _ _ _ _ _ _=>body.getD j (.Pass #[0,0,0,0])
 |_=>.Pass #[0,0,0,0]
abbrev em(s:Stmt):Arguments:=match s with
 |.FunctionDef _ a _ _ _ _ _ _ _ _=>a
 |_=>{posonlyargs:=[],args:=[],vararg:=none,kwonlyargs:=[],kw_defaults:=[],kwarg:=none,defaults:=[]}
abbrev cE(s:Stmt):List Stmt:=match s with
 |.FunctionDef _ _ b _ _ _ _ _ _ _=>b
 |_=>[]
abbrev aH(s:Stmt):Scope:=match s with
 |.FunctionDef _ _ _ _ _ _ sc _ _ _=>sc
 |_=>{kind:=.function,names:=[],isGenerator:=false,isCoroutine:=false}
nonrec abbrev CX0:CXT:=λ_ _ _ _ _ _=>False
nonrec abbrev E0:XK:=λ_ _ _=>False
def aL:dk CX0 X E0:=λ_ _ _ _ _ _ _ h=>h.elim
structure Fun(K:W.Frag)(x qual:Str)(st:Stmt)(f:Addr)(fd:FuncData):Prop where
 ex:∃(oc:Value)(od:Option Addr)(kV doc pm:Value)(an:Option Addr)(cdv ct:Value)(osl:Array (Option Value)),
  fd=PySem.W.fnOf x qual (em st) (cE st) (aH st) .none kV doc pm an cdv ct/\K.lookup f=some #[oc,od,.func fd,osl]/\PySem.W.codeIn K cdv qual=true
 kp:PySem.W.keepIn K (.ref f)=true
section
variable{P:Program}{w:World}{K:W.Frag}{mg:Str->Option Value}{base:Heap}
def Fun.ok{st:Stmt}(F:Fun K x qual st f fd)(S:FnScope N ps (aH st))(len:∀vs H Q E,sp vs H Q E->vs.length=ps.length)
  (hbody:∀(cdv:Value)(A:Around)(outer:List Env)(s:Shared)(H:Hp)(vs:List V)(Q:VK)(E:XK),Room k (A.deeper (envOfC qual (aH st) s.heap.objs.size f cdv))->sp vs H Q E->
   ∃t,PSs (bF CX0 P w K mg base N qual (aH st) f cdv A outer s H E).nox (cE st) t/\t {nx:=λ_ H'=>Q .non H',rt:=Q} (eG N vs) H):FnOk P w K mg base CX0 (k+1) f fd ps sp:=by
 let#[m,l,kV,d,o,p,cdv,j,e,8,c,b]:=F.ex;refine fn_of c b S len λA outer s H vs Q E i a=>?_;let#[t,h,q]:=hbody cdv A outer s H vs Q E i a;exact#[t,h.nox,q]
def Fun.binds{st:Stmt}(F:Fun K x qual st f fd)
  (h:∀(kV doc pm:Value)(an:Option Addr)(cdv ct:Value)(us:List Value),us.length=ps.length->bindArgs (PySem.W.fnOf x qual (em st) (cE st) (aH st) .none kV doc pm an cdv ct) #[us,[]]=pure (ps.zip us)):Binds K fd ps []:=by
 let#[e,c,kV,doc,pm,an,cdv,ct,a,8,d,b]:=F.ex;exact .all (h kV doc pm an cdv ct)
def fun_mk{st:Stmt}{kV doc pm cdv ct:Value}(l:K.lookup f=some #[oc,od,.func (PySem.W.fnOf x qual (em st) (cE st) (aH st) .none kV doc pm an cdv ct),osl])
  (c:PySem.W.codeIn K cdv qual=true)(k:PySem.W.keepIn K (.ref f)=true):Fun K x qual st f (PySem.W.fnOf x qual (em st) (cE st) (aH st) .none kV doc pm an cdv ct):=#[#[oc,od,kV,doc,pm,an,cdv,ct,osl,8,l,c],k]
end
def cA(hr:Room k A):A.units+1<cLine:=j8 (Nat.add_le_add_left (by decide:1<=64) _) hr.units
def bB(h:n<=1000):n<sizeLine:=j8 h (by decide)
section
variable{X:Cx}
def pv(i:Nat)(hN:X.N[i]?=some x:=by rfl)(hv:Vis X.env.scope x:=by first|exact Or.inl rfl|exact Or.inr (Or.inl rfl)|exact Or.inr (Or.inr rfl))(hd:(x==("__debug__":Str))=false:=by decide)
  (hcd:(x==("__classdict__":Str))=false:=by decide):PE X (.Name x pos) (i9 i):=pe_var hN hv hd hcd
end
def iteF{A B:Prop}(h:B):if false=true then A else B:=by
 rw[if_neg j2];exact h
def iteT{A B:Prop}(h:A):if true=true then A else B:=by
 rw[if_pos rfl];exact h
def ite2{c A B:Prop}[Decidable c](h1:c->A)(h2:¬c->B):if c then A else B:=by
 by_cases h:c
 ·rw[if_pos h];exact h1 h
 ·rw[if_neg h];exact h2 h
def iO{c A B:Prop}[Decidable c](hc:c)(h:B):if(!decide c)=true then A else B:=by
 rw[jL hc];exact iteF h
abbrev Same(H H':Hp):Prop:=∀b o,H b=some o->H' b=some o
def Same.refl(H:Hp):Same H H:=λ_ _ h=>h
def Same.trans(a:Same H H1)(b:Same H1 H2):Same H H2:=λc o h=>b c o (a c o h)
def Same.free(e:Same H H')(h:H' l=Option.none):H l=Option.none:=by
 cases q:H l with
 |none=>rfl
 |some o=>
  rw[e l o q]at h
  cases h
def Same.seq{K:W.Frag}(e:Same H H')(h:SqL K H a xs):SqL K H' a xs:=by
 rcases h with(h|⟨o,h⟩)|h
 ·exact .inl (.inl (e _ _ h))
 ·exact .inl (.inr #[o,e _ _ h])
 ·exact .inr h
end L2
set_option maxHeartbeats 4000000
set_option exponentiation.threshold 300
namespace L2
open PySem PySem.Spec PyProof.Rows
section
variable{X:Cx}
def bits_le(h:k.natAbs<2^n):Builtin.Int.intBits k<=n:=by
 unfold Builtin.Int.intBits
 split
 ·exact jZ _
 ·rename_i a
  have b:k.natAbs≠0:=by
   intro z;apply a
   have:k=0:=by lia
   simp[this]
  have:k.natAbs.log2<n:=(Nat.log2_lt b).mpr h
  lia
abbrev CMulB(i j:Int):Prop:=i.natAbs<2^9000/\j.natAbs<2^9000
def CMulB.ok(h:CMulB i j):IntMulOk i j:=by
 refine IntMulOk.of_bits (jK (bits_le h.1) (by decide)) (jK (bits_le h.2) (by decide))
def dR:OpR X (binaryOp .Mult) (rI CMulB λi j=>.int (i*j)):=opI λ_ _ _ _ _ _ _ a q=>mul_int q a.ok
abbrev CDivB(_ j:Int):Prop:=j≠0/\j.natAbs<2^9000
def CDivB.ok(h:CDivB i j):Builtin.divisionGoesByPylong i j=false:=
 PyProof.noPylong_of_log2 ((Nat.log2_lt (by have:=h.1;lia)).mpr h.2)
def bZ:OpR X (binaryOp .FloorDiv) (rI CDivB λi j=>.int (i.fdiv j)):=opI λ_ _ _ _ _ _ _ a q=>floordiv_int a.1 q (.inl a.ok)
inductive IrIsI(K:W.Frag)(c:Value)(vs:List V)(H:Hp)(Q:VK):Prop
 |mk(x:_)(y:_)(t:_)(b:_)(h1:vs=[x,y])(h2:(∀u,RelV y u->u=c))(h3:TyOf K H x t)(h4:PySem.W.kitOne K t c=some b)(h5:Q (.bl b) H):IrIsI K c vs H Q
abbrev rIsI(K:W.Frag)(c:Value):List V->Hp->VK->Prop:=λvs H Q=>IrIsI K c vs H Q
def fu:et X (.builtin "isinstance") (rIsI X.K c):=by
 intro a s σ H j l Q I r h;let#[x,y,t,b,8,d,ty,e,q]:=h
 cases r with
 |cons r1 r2=>
  cases r2 with
  |cons r3 r4=>
   cases r4
   have:=d _ r3
   subst this;exact isinst_ok I r1 ty e λi=>#[.bl b,H,I.tok i,8,q]
end
section
variable{X:Cx}
abbrev bV(X:Cx)(pins:List (Addr×Obj))(N':List Str)(scope:Scope)(cl:List (Str×Addr))(C:Addr)(fp:List Addr)(s:Shared)(H:Hp):Cx:=
 {X with N:=N',s₀:=s,H₀:=H,env:=compEnvC scope cl C X.env,outer:=X.stack,stack:=X.stack,ex:=fp,fn:=λ_=>false,pn:=X.pn++pins,xe:=λ_ _=>False}
structure Clos(X:Cx)(scope:Scope)(cl:List (Str×Addr)):Prop where
 clos:closureFor scope X.env=pure cl
 sub:∀y c,cl.lookup y=some c->X.env.cells.lookup y=some c
 has:∀y,((relabel scope X.env).names.lookup y=some .cell∨(relabel scope X.env).names.lookup y=some .free)->∃c,cl.lookup y=some c
def relabel_none(hf:∀x∈scope.names,x.2≠.free):relabel scope env=scope:=by
 unfold relabel
 have:(scope.names.map λ(n,k)=>if(k==NameKind.free&&env.scope.kind==.function&&env.kindOf n==some .cell)then(n,NameKind.cell)else(n,k))=scope.names:=by
  refine map_eq_self λx b=>?_;let#[n,k]:=x;have a:(k==NameKind.free)=false:=by simpa using hf _ b
  simp[a]
 rw[this]
def Clos.none(hf:∀x∈scope.names,x.2≠.free)(hc:∀x∈scope.names,x.2≠.cell):Clos X scope []:=by
 refine#[closureFor_none hf,λy c h=>by simp at h,λy h=>?_];rw[relabel_none hf]at h;rcases h with h|h
 ·exact absurd rfl (hc _ (kY h))
 ·exact absurd rfl (hf _ (kY h))
abbrev Reads(X:Cx)(scope:Scope)(rest:List Str)(sel:St->St):Prop:=
 ∀σ,(sel σ).length=rest.length/\∀(i:Nat)(y:Str)(v:V),rest[i]?=some y->(sel σ)[i]?=some (some v)->∃j:Nat,X.N[j]?=some y/\σ[j]?=some (some v)/\X.env.scope.names.lookup y=some .cell/\(relabel scope X.env).names.lookup y=some .cell
end
end L2
namespace L2
open PySem PySem.Spec PyProof.Rows
def ifV{A B:Prop}(h1:k=m->A)(h2:k≠m->B):if decide (V.int k=V.int m)=true then A else B:=by
 by_cases h:k=m
 ·rw[if_pos (by rw[h];exact jL rfl)];exact h1 h
 ·rw[if_neg (by rw[jI (by intro z;exact h (V.int.inj z))];decide)];exact h2 h
def ifB{c A B:Prop}[Decidable c](h1:c->A)(h2:¬c->B):if decide c=true then A else B:=by
 by_cases h:c
 ·rw[if_pos (jL h)];exact h1 h
 ·rw[if_neg (by rw[jI h];decide)];exact h2 h
def bT{A B:Prop}(h:c=true)(a:A):if c=true then A else B:=by
 rw[if_pos h];exact a
def aX{A B:Prop}(h:c=false)(b:B):if c=true then A else B:=by
 rw[if_neg (by rw[h];decide)];exact b
def neV(h:k≠m):decide (V.int k=V.int m)=false:=jI (by intro z;exact h (V.int.inj z))
end L2
namespace L2
open PySem PySem.Spec PyProof.Rows
section
variable{X:Cx}{st:Stmt}{rest:List Stmt}{t u:TS}
abbrev tCut(t u:TS):TS:=λD σ H=>∃M:St->Hp->Prop,t {D with nx:=M} σ H/\∀σ' H',M σ' H'->u D σ' H'
def bH(h1:PS X st t)(h2:PSs X rest u):PSs X (st::rest) (tCut t u):=by
 intro a s σ H D I⟨M,h,i⟩;refine wpAny_execs_cons (thn (h1 a s σ H {D with nx:=M} I h) λf e q=>?_)
 cases f with
 |next=>
  let#[c,b,d,q]:=q;exact h2 a e c b D d (i c b q)
 |ret v=>exact q
 |brk=>exact q
 |cont=>exact q
end
def dX(M:St->Hp->Prop)(h1:t {D with nx:=M} σ H)(h2:∀U:TS,U=u->∀σ' H',M σ' H'->U D σ' H'):tCut t u D σ H:=#[M,h1,h2 u rfl]
def jv{p:Prop}(h:p):p:=h
abbrev rLen(K:W.Frag):List V->Hp->VK->Prop:=λxs H Q=>∃p ys,xs=[.ref p]/\(SqL K H p ys∨SqT K H p ys)/\Q (.int ys.length) H
def eY:et X (.builtin "len") (rLen X.K):=call_len_seq
end L2
namespace L2
open PySem
abbrev iR(h:Heap)(e:Addr)(vs:Array Value):Option Addr->Prop
 |none=>vs[1]?=some .none
 |some T=>vs[1]?=some (.ref T)/\T≠e/\∃oT ts,h.get? T=some oT/\oT.data=.fields ts/\ts[3]?=some .none
structure Noted(l:List Env)(e:Addr)(oe:Obj)(vs:Array Value)(tr:Option Addr)(h h':Heap):Prop where
 exc:∃vs' T,h'.get? e=some {oe with data:=.fields vs'}/\vs'[0]?=vs[0]?/\h.objs.size<=T/\iR h' e vs' (some T)
 keep:∀b o,b≠e->tr≠some b->b∉l.filterMap (·.frame)->h.get? b=some o->h'.get? b=some o
 slot:∀b o,b≠e->tr≠some b->b∈l.filterMap (·.frame)->h.get? b=some o->∃sl,h'.get? b=some {o with slots:=sl}
section
variable{M:Model}{A:Around}{E:Value->Shared->Prop}{s:Shared}{base:Heap}{env:Env}{outer:List Env}{L e:Addr}{oe:Obj}{vs:Array Value}{Q:Unit->Shared->Prop}
def jr(hd:o.data=.fields ws)(f:Array Value->Array Value):Obj.mapFields f o={o with data:=.fields (f ws)}:=by
 let#[c,d,a,b]:=o
 cases hd;rfl
def iZ(hfr:A.frames=some (env::outer))(hl:s.heap.FunFrames base (env::outer))(hf:env.frame=some L)
  (he:s.heap.get? e=some oe)(hd:oe.data=.fields vs)(hsz:1<vs.size)(h:∀h',Noted (env::outer) e oe vs none s.heap h'->Q Unit.unit {s with heap:=h'}):
  wpAny M A (do let a<-frameOf env;let pl<-entryPlaceOf L hadNext;let b<-EntryCells.newEntry head a .none (rawInt L) .none pl;setField (.ref e) 1 b) (λ_ s'=>wpAny M A (setFlight (.ref e) none) Q E s') E s:=by
 have ne:∀b∈(env::outer).filterMap (·.frame),b≠e:=λb r z=>by
  let#[_,o,G,t]:=hl.mem r;rw[z,he]at G
  cases G;exact t vs hd
 refine jD (wpAny_frameOf_fun hfr hl hf λc d=>jD (wpAny_entryPlaceOf λpl w=>?_));unfold EntryCells.newEntry newFields;refine jD (wpAny_newObj_type ?_ (w.sizeOk5 _ _ _ _ _));have H:c.get? e=some oe:=(d.2.1 e λr=>ne e r rfl).trans he;generalize l:({cls:=.type "traceback",dict:=none,data:=.fields ([head,.ref L,.none,rawInt L,.none]++(if pl.isEmpty then List.replicate 6 Value.none else pl)).toArray}:Obj)=j;have fr:j.isFreed=false:=by rw[<-l];rfl
 obtain⟨v,i,J⟩:∃v:Array Value,j.data=.fields v/\3<v.size:=by
  refine#[_,by rw[<-l],?_];simp only[j0,j5,jU,List.length_nil]
  lia
 have F:=jG (h:=c) j H;refine lJ F hd hsz ?_;have u:c.objs.size≠e:=k8 (jO H);have y:=kT hd (·.setIfInBounds 1 (Value.ref c.objs.size));have I:=kZ (Obj.mapFields (·.setIfInBounds 1 (Value.ref c.objs.size))) F (lM y);have D:=(kA (c.push j) (Obj.mapFields (·.setIfInBounds 1 (Value.ref c.objs.size))) (k7 u)).trans (jT c fr);unfold setFlight;refine jD (kK I y (x:=.ref c.objs.size) (by simp[hsz]) ?_);rw[if_pos (show(Value.ref c.objs.size !=Value.none)=true from by simp)];refine lJ D i J (h _ ?_)
 have m:∀b o,b≠e->c.get? b=some o->(((c.push j).update e (Obj.mapFields (·.setIfInBounds 1 (Value.ref c.objs.size)))).update c.objs.size (Obj.mapFields (·.setIfInBounds 3 Value.none))).get? b=some o:=λb o p q=>by
  rw[kA _ _ (k8 (jO q)),kA _ _ (k7 p)];exact jG _ q
 have B:=(kA ((c.push j).update e (Obj.mapFields (·.setIfInBounds 1 (Value.ref c.objs.size)))) (Obj.mapFields (·.setIfInBounds 3 Value.none)) u).trans I;have K:=kZ (Obj.mapFields (·.setIfInBounds 3 Value.none)) D (lM (kT i _));refine#[#[_,c.objs.size,by rw[jr hd]at B;exact B,by rw[Array.getElem?_setIfInBounds_ne (by decide)],?_,by simp[hsz],u,_,_,K,kT i _,by simp[J]],λb o nb _ p q=>?_,λb o nb _ p q=>?_]
 ·exact Nat.le_of_eq d.1.symm
 ·exact m b o nb ((d.2.1 b p).trans q)
 ·let#[O,N]:=d.2.2 b o q;exact#[O,m b _ nb N]
def noted_ok(hfr:A.frames=some (env::outer))(hl:s.heap.FunFrames base (env::outer))(hf:env.frame=some L)
  (he:s.heap.get? e=some oe)(hd:oe.data=.fields vs)(ht:iR s.heap e vs tr)(h:∀h',Noted (env::outer) e oe vs tr s.heap h'->Q Unit.unit {s with heap:=h'}):
  wpAny M A (noteFrame (.ref e) env) (λ_ s'=>wpAny M A (setFlight (.ref e) none) Q E s') E s:=by
 unfold noteFrame;simp only[hf]
 cases tr with
 |none=>
  have ht:vs[1]?=some .none:=ht;refine jD (kK he hd ht ?_);rw[if_neg (by decide)];exact iZ hfr hl hf he hd (kB.mp ht).1 h
 |some T=>
  let#[t,x,F,D,l,m,r]:=ht;refine jD (kK he hd t ?_);rw[if_pos (show(Value.ref T !=Value.none)=true from by simp)];refine jD (kK l m r ?_);rw[if_neg (show¬((Value.none==rawInt L)=true) from by simp[rawInt])];refine jD (lJ l m (kB.mp r).1 ?_);have c:∀b,b≠T->(s.heap.update T (Obj.mapFields (·.setIfInBounds 3 Value.none))).get? b=s.heap.get? b:=λb a=>kA _ _ (k7 a)
  have y:∀b o,s.heap.get? b=some o->(∀ws,o.data≠.fields ws)->b≠T:=λb o a i q=>by
   rw[q,l]at a
   cases a;exact i D m
  refine iZ hfr (hl.of_keeps λb o a i=>#[o,(c b (y b o a i)).trans a,8]) hf ((c e (k7 x)).trans he) hd (kB.mp t).1 λh' N=>h h' #[?_,?_,?_]
  ·let#[d,v,w,u,p,B]:=N.exc;exact#[d,v,w,u,by rw[Heap.size_after_update]at p;exact p,B]
  ·intro b o nb j a q;exact N.keep b o nb (by intro z;cases z) a ((c b λz=>j (by rw[z])).trans q)
  ·intro b o nb j a q;exact N.slot b o nb (by intro z;cases z) a ((c b λz=>j (by rw[z])).trans q)
def leaving_ok(hfr:A.frames=some (env::outer))(hl:s.heap.FunFrames base (env::outer))(hf:env.frame=some L)
  (he:s.heap.get? e=some oe)(hd:oe.data=.fields vs)(ht:iR s.heap e vs tr)(h:∀h',Noted (env::outer) e oe vs tr s.heap h'->Q Unit.unit {s with heap:=h'}):
  wpAny M A (leaving env (.ref e)) Q E s:=by
 unfold leaving;exact jD (noted_ok hfr hl hf he hd ht h)
end
end L2
namespace L2
open PySem PySem.Spec PyProof.Rows
section
variable{P:Program}{w:World}{H:Hp}{h:Heap}{a:Addr}{o:HO}
def ObjOk.there(x:ObjOk P w H h a o):∃ob,h.get? a=some ob:=by
 cases o with
 |lst xs=>let#[_,_,_,_,e]:=x;exact#[_,e]
 |tup xs=>let#[_,_,_,#[_,e,_]]:=x;exact#[_,e]
 |dK kvs=>let#[_,_,_,_,o,_,_,e,_]:=x;exact#[_,e]
 |dT kvs=>let#[_,_,_,_,o,_,_,e,_]:=x;exact#[_,e]
 |set S n=>let#[o,_,_,_,e,_]:=x;exact#[_,e]
 |ins C dx fs=>let#[_,_,_,e,_]:=x;exact#[_,e]
 |own y=>exact x
 |xd fs=>let#[_,#[_,_,_,e,_],_]:=x;exact#[_,e]
 |rng lo hi=>let#[_,_,_,e]:=x;exact#[_,e]
 |frz ob u=>let#[e,_]:=x;exact#[_,e]
 |tbl ps=>exact#[_,(show h.get? a=some _ from x)]
 |met f y=>exact#[_,(show h.get? a=some _ from x)]
 |ext φ=>let#[_,e,_]:=x;exact e
def HOk.noObj(x:HOk P w H h)(e:h.get? a=none):H a=none:=by
 cases q:H a with
 |none=>rfl
 |some o=>
  let#[b,z]:=(x a o q).there;rw[e]at z
  cases z
end
section
variable{X:Cx}{pins:List (Addr×Obj)}{σ:St}{H H':Hp}{s s':Shared}{h':Heap}
abbrev Off(X:Cx)(pins:List (Addr×Obj))(b:Addr):Prop:=
 X.s₀.heap.get? b=none/\b≠X.env.locals/\b∉X.fs/\(∀x c,X.env.cells.lookup x=some c->c≠b)/\∀p∈X.pn++pins,p.1≠b
def Inv.off(I:Inv X pins σ H s)(hex:X.ex=[])(hb:s.heap.get? b=none):Off X pins b:=by
 have a:∀{c:Addr}{o:Obj},s.heap.get? c=some o->c≠b:=λe z=>by rw[z,hb]at e;cases e
 refine#[?_,λz=>?_,λz=>?_,λx c e=>?_,λp d=>a (I.pin p d).1]
 ·cases q:X.s₀.heap.get? b with
  |none=>rfl
  |some o=>
   let#[h,e]:=I.base.there b o q (by rw[hex];simp);rw[hb]at e
   cases e
 ·let#[m,#[o,_,_,e,_],_]:=I.loc;exact a e z.symm
 ·let#[_,o,e,_]:=I.funs.mem z;exact a e rfl
 ·let#[v,o,q,_]:=I.cell x c e;exact a q
def Inv.stepO{ch:List Addr}(I:Inv X pins σ H s)(hch:∀b∈ch,Off X pins b)
  (keep:∀b o,b≠X.env.locals->b∉X.fs->b∉ch->s.heap.get? b=some o->H b=none->h'.get? b=some o)
  (slot:∀b o,b≠X.env.locals->b∈X.fs->b∉ch->s.heap.get? b=some o->H b=none->∃sl,h'.get? b=some {o with slots:=sl})(free:∀b o,b∉ch->s.heap.get? b=some o->H b=none->H' b=none)
  (there:∀b o,b∉ch->s.heap.get? b=some o->∃o',h'.get? b=some o')
  (tups:∀b xs,H b=some (.tup xs)->H' b=some (.tup xs))(frzs:∀b o u,H b=some (.frz o u)->H' b=some (.frz o u))(tbls:∀b ps,H b=some (.tbl ps)->∃more,H' b=some (.tbl (ps++more)))
  (ns:∀m,s.heap.Ns X.env.locals m->h'.Ns X.env.locals m)(hok:HOk X.prog X.w H' h'):
  Inv X pins σ H' {s with heap:=h'}:=by
 have B:∀b o,X.s₀.heap.get? b=some o->b≠X.env.locals:=λb o e=>km (j7 (jO e) I.ok.above);have w:∀b o,X.s₀.heap.get? b=some o->b∉ch:=λb o e y=>by rw[(hch b y).1]at e;cases e
 have h:∀x c,X.env.cells.lookup x=some c->∀v,s.heap.IsCell c v->h'.IsCell c v:=λx c e v⟨o,A,hd⟩=>by
  have a:c∉ch:=λz=>(hch c z).2.2.2.1 x c e rfl;by_cases hc:c∈X.fs
  ·let#[sl,q]:=slot c o (I.cne x c e) hc a A (I.freeC x c e);exact#[_,q,hd]
  ·exact#[o,keep c o (I.cne x c e) hc a A (I.freeC x c e),hd]
 refine#[I.ok,I.os,I.bare,#[λb o e n y j=>?_,λb o e n y j=>?_,λb o e n j=>?_,λb o e j=>?_,λb xs e=>tups b xs (I.base.tups b xs e),λb o xs e=>frzs b o xs (I.base.frzs b o xs e),λb ps e=>?_],?_,λx c e=>?_,?_,λx c e=>?_,λp F=>?_,hok,I.len]
 ·exact keep b o (B b o e) y (w b o e) (I.base.keep b o e n y j) (I.base.free b o e n j)
 ·let#[sl,t]:=I.base.slot b o e n y j;let#[E,D]:=slot b _ (B b o e) y (w b o e) t (I.base.free b o e n j);exact#[E,D]
 ·let#[o',t]:=I.base.there b o e j;exact free b o' (w b o e) t (I.base.free b o e n j)
 ·let#[o',t]:=I.base.there b o e j;exact there b o' (w b o e) t
 ·let#[M,t]:=I.base.tbls b ps e;let#[N,D]:=tbls b _ t;exact#[M++N,by rw[D,Array.append_assoc]]
 ·let#[m,K,J]:=I.loc;refine#[m,ns m K,λi x v t D L=>?_];let#[u,r,l]:=J i x v t D L;refine#[u,r,?_];rcases l with l|⟨k,c,e,z⟩
  ·exact .inl l
  ·exact .inr #[k,c,e,h x c e _ z]
 ·let#[v,z]:=I.cell x c e;exact#[v,h x c e v z]
 ·let#[m,#[o,_,_,A,_],_]:=I.loc;exact free _ o (λz=>(hch _ z).2.1 rfl) A I.free
 ·let#[v,o,A,hd]:=I.cell x c e;exact free c o (λz=>(hch c z).2.2.2.1 x c e rfl) A (I.freeC x c e)
 ·let#[e,n,ne,G,d]:=I.pin p F;have a:p.1∉ch:=λz=>(hch p.1 z).2.2.2.2 p F rfl;exact#[keep p.1 p.2 ne G a e n,free p.1 p.2 a e n,ne,G,d]
def Inv.noted(I:Inv X pins σ H s)(hH:H e=none)(ho:Off X pins e)(ht:∀T,tr=some T->H T=none/\Off X pins T)
  (N:Noted X.stack e oe vs tr s.heap h'):Inv X pins σ H {s with heap:=h'}:=by
 have any:∀b o,b∉e::tr.toList->s.heap.get? b=some o->∃p,h'.get? b=some {o with slots:=p}:=λb o d q=>by
  have l:b≠e:=λz=>d (by rw[z];exact jX);have j:tr≠some b:=λz=>d (jW _ (by rw[z];simp));by_cases hs:b∈frs X.stack
  ·exact N.slot b o l j hs q
  ·exact#[o.slots,N.keep b o l j hs q]
 have A:∀b o,b≠X.env.locals->b∉X.fs->b∉e::tr.toList->s.heap.get? b=some o->h'.get? b=some o:=λb o i d a q=>
  N.keep b o (λz=>a (by rw[z];exact jX)) (λz=>a (jW _ (by rw[z];simp))) (λz=>(jR.mp (I.stkSub b z)).elim i d) q
 have h:∀b∈e::tr.toList,H b=none/\Off X pins b:=λb d=>by
  rcases jR.mp d with z|z
  ·rw[z];exact#[hH,ho]
  ·exact ht b (by simpa using z)
 refine I.stepO (ch:=e::tr.toList) (λb d=>(h b d).2) (λb o i d a q _=>A b o i d a q) (λb o _ _ a q _=>any b o a q) (λ_ _ _ _ n=>n)
  (λb o a q=>let⟨_,z⟩:=any b o a q;#[_,z]) (λ_ _ q=>q) (λ_ _ _ q=>q) (λb ps q=>#[(List.toArray []),by rw[q];simp]) (λm x=>?_) (λb u q=>?_)
 ·let#[o,y,w,g,r]:=x;let#[p,t]:=any _ o (λz=>(h _ z).2.2.1 rfl) g;exact#[_,y,w,t,r]
 ·refine(I.hok b u q).stay (λc v a g=>?_) (λ_ z=>z) λ_ _ z=>z
  have trk:H c≠none:=by
   rcases a with z|z
   ·rw[z,q];simp
   ·rw[z];simp
  refine N.keep c v (λz=>trk (by rw[z];exact hH)) (λz=>trk (ht c z).1) (λz=>trk (I.stkFree c z)) g
abbrev XFly(X:Cx)(pins:List (Addr×Obj))(H:Hp)(h:Heap)(x:Addr)(cls:Value)(d:Option Addr):Prop:=
 H x=none/\Off X pins x/\∃vs sl tr,h.get? x=some #[cls,d,.fields vs,sl]/\iR h x vs tr/\∀T,tr=some T->H T=none/\Off X pins T
abbrev XP(X:Cx)(pins:List (Addr×Obj))(σ:St)(E:XK)(e:Value)(s':Shared):Prop:=∃x cls d H',e=.ref x/\Inv X pins σ H' s'/\XFly X pins H' s'.heap x cls d/\E cls d H'
abbrev Fly(g:Heap)(H:Hp)(h:Heap)(x:Addr)(cls:Value)(d:Option Addr):Prop:=
 g.get? x=none/\H x=none/\∃vs sl tr,h.get? x=some #[cls,d,.fields vs,sl]/\iR h x vs tr/\∀T,tr=some T->g.get? T=none/\H T=none
abbrev CX1(P:Program)(w:World):CXT:=λouter H s E e s'=>∃x cls d H',e=.ref x/\s'.os=s.os/\AllBare s'.gens/\Un (frs outer) [] H H' s.heap s'.heap/\HOk P w H' s'.heap/\Fly s.heap H' s'.heap x cls d/\E cls d H'
def XP.of_call(hex:X.ex=[])(I:Inv X pins σ H s)(h:CX1 X.prog X.w X.stack H s E e s'):XP X pins σ E e s':=by
 let#[x,i,d,r,8,m,a,un,c,#[p,t,l,v,u,w,o,j],q]:=h;exact#[x,i,d,r,8,I.call' m un c a (λb z=>absurd z (by simp)),#[t,I.off hex p,l,v,u,w,o,λT z=>#[(j T z).2,I.off hex (j T z).1]],q]
end
section
variable{P:Program}{w:World}{K:W.Frag}{mg:Str->Option Value}{base:Heap}{N:List Str}{qual:Str}{scope:Scope}{f:Addr}{cd:Value}{A:Around}{outer:List Env}{s₀:Shared}{H₀:Hp}{E:XK}
def xe_of(h:XP (bF (CX1 P w) P w K mg base N qual scope f cd A outer s₀ H₀ E) pins σ E e s'):
  (bF (CX1 P w) P w K mg base N qual scope f cd A outer s₀ H₀ E).xe e s':=by
 let#[x,b,d,p,8,I,#[c,j,u,r,y,s,m,t],q]:=h;refine leaving_ok (L:=s₀.heap.objs.size) I.ok.frames I.stack rfl s rfl m λB i=>?_;have J:=I.noted c j t i;let#[a,T,g1,_,l,o]:=i.exc;refine#[x,b,d,p,8,J.os,J.bare,J.base,J.hok,#[j.1,c,a,r,some T,g1,o,λv z=>?_],q]
 cases z;exact#[(I.off rfl (lg l)).1,I.hok.fresh l]
def pass1:dk (CX1 P w) (bF (CX1 P w) P w K mg base N qual scope f cd A outer s₀ H₀ E) E:=λ_ _ _ _ _ _ I h=>xe_of (XP.of_call rfl I h)
def Fun.okX{st:Stmt}(F:Fun K x qual st f fd)(S:FnScope N ps (aH st))(len:∀vs H Q E,sp vs H Q E->vs.length=ps.length)
  (hbody:∀(cdv:Value)(A:Around)(outer:List Env)(s:Shared)(H:Hp)(vs:List V)(Q:VK)(E:XK),Room k (A.deeper (envOfC qual (aH st) s.heap.objs.size f cdv))->sp vs H Q E->
   ∃t,PSs (bF (CX1 P w) P w K mg base N qual (aH st) f cdv A outer s H E) (cE st) t/\t {nx:=λ_ H'=>Q .non H',rt:=Q} (eG N vs) H):FnOk P w K mg base (CX1 P w) (k+1) f fd ps sp:=by
 let#[l,j,kV,d,m,o,cdv,i,e,8,c,b]:=F.ex;exact fn_of c b S len λA outer s H vs Q E h a=>hbody cdv A outer s H vs Q E h a
end
end L2
namespace L2
open PySem PySem.Spec PyProof.Rows
@[reducible]def bmV:List Value:=[.type "ValueError",.type "Exception",.type "BaseException",.type "object"]
def exc_obj{K:W.Frag}(X:K.In h)(q:PySem.W.excIn K C bmB newId=true):
  ∃bm N nm qn bs hd sn sub ab col dd k0 k1 k2 k3 k5 mN,h.get? C=some (excClassObj nm qn C N bs bm hd sn sub ab col dd k0 k1 k2 k3 k5 newId)/\h.Ns N mN/\mN "__init__"=none/\OwnTail h bmB bm:=by
 unfold PySem.W.excIn at q
 split at q
 case h_2=>cases q
 case h_1 dd cd sl lk=>
  split at q
  case h_2=>cases q
  case h_1 C' bm k0 k1 k2 k3 n k5 hm d=>
   simp only[lG,beq_iff_eq,Bool.not_eq_true']at q;let#[#[#[#[#[o,e],a],i],b],c]:=q;subst o e;let#[nm,bs,m,j,qn,hd,sn,sub,ab,col,del]:=cd;dsimp only at hm a b c;subst hm a;let#[l]:=sl;have d:l=_:=d;subst d;exact#[bm,j,nm,qn,bs,hd,sn,sub,ab,col,dd,k0,k1,k2,k3,k5,_,X _ _ lk,.of_isNs (PySem.W.isNs_of_in X b),PySem.W.nsMap_none_of_in X b c,PySem.W.tail_of_in X i]
section
variable{X:Cx}{E:XK}
abbrev XOut(X:Cx)(E:XK):Prop:=∀pins σ e s',XP X pins σ E e s'->X.xe e s'
def xout1{K:W.Frag}:
  XOut (bF (CX1 P w) P w K mg base N qual scope f cd A outer s₀ H₀ E) E:=λ_ _ _ _ h=>xe_of h
abbrev tRaise(C:Addr)(E:XK)(t:TA):TS:=λ_ σ H=>t σ H λvs H1=>vs.length<=sizeLine/\E (.ref C) none H1
def jl(hxe:XOut X E)(hex:X.ex=[])(hh:X.A.handled=none)(hg:Gl X x)(hm:X.mg x=some (.ref C))
  (O:PySem.W.excIn X.K C bmV "ValueError.__new__"=true)(ha:PA X (e::es) t)(he:starEach (e::es) X.env=(false,eval e X.env)::starEach es X.env:=by rfl)(hpl:(backTo cpos (starEach es X.env)).any (·.1)=false:=by rfl)
  (hd:(x==("__debug__":Str))=false:=by decide):PS X (.Raise (some (.Call (.Name x np) (e::es) [] cpos)) none pos) (tRaise C E t):=by
 intro a s σ H D I h;let#[bm,N,nm,o,bs,j,sn,sub,ab,col,dd,k0,k1,k2,k3,k5,mN,u,v,i,T]:=exc_obj I.ok.mod.kin O
 refine wpAny_Raise_call_subT (C:=C) (nm:=nm) (q:=o) (N:=N) (bs:=bs) (bm:=bm) (hdct:=j) (sn:=sn) (sub:=sub) (ab:=ab) (col:=col) (dd:=dd) (k0:=k0) (k1:=k1) (k2:=k2) (k3:=k3) (k5:=k5)
  PySem.F.excBase_ValueError (mN:=mN) (T.hasType rfl) hh (by rw[he];show(false||(backTo cpos (starEach es X.env)).any (·.1))=false;rw[hpl];rfl) i (dU I hg hm #[8,?_] hd)
 have c:=ha cpos a s σ H _ I h;rw[he]at c⊢;refine Calls.evalArgs_plain (thn c λA p⟨w,m,b,r,l,q⟩=>#[8,by rw[<-r.length];exact l,b.bk _ _ u,v.keeps b.bk,T.keeps b.bk,λB y d=>?_]);let#[t',g1,_,_]:=d.there;exact hxe a σ _ _ #[y,.ref C,none,m,8,b.kept (t':=p.toks) d.keeps,#[b.hok.noObj d.new,b.off hex d.new,_,_,none,g1,8,λT z=>by cases z],q]
abbrev PX(X:Cx)(e:Expr)(t:XK->TE):Prop:=
 ∀(pins:List (Addr×Obj))(s:Shared)(σ:St)(H:Hp)(Q:VK)(E:XK),Inv X pins σ H s->t E σ H Q->wpAny (model X.prog X.w) X.A (eval e X.env) (EP X pins σ Q) (XP X pins σ E) s
abbrev PSX(X:Cx)(st:List Stmt)(t:XK->TS):Prop:=
 ∀(pins:List (Addr×Obj))(s:Shared)(σ:St)(H:Hp)(D:Ends)(E:XK),Inv X pins σ H s->t E D σ H->wpAny (model X.prog X.w) X.A (execs st X.env) (SP X pins D) (XP X pins σ E) s
variable{k:Nat}{f C:Addr}{fd:FuncData}{ps:List Str}{sp:Sp}{dvs:List V}{ds:List Value}{x m:Str}{p pos apos:Pos}{e o:Expr}{es:List Expr}{ta:TE}{t:TA}
def run_fnX(F:FnOk X.prog X.w X.K X.mg X.base (CX1 X.prog X.w) k f fd ps sp)(hr:Room k X.A)(hb:Binds X.K fd ps ds)(hd:Vals dvs ds)(hex:X.ex=[])
  (I:Inv X pins σ H s)(r:Vals vs us)(h:sp (vs++dvs) H Q E):wpAny (model X.prog X.w) X.A (call (.ref f) us) (EP X pins σ Q) (XP X pins σ E) s:=by
 have b:Vals (vs++dvs) (us++ds):=r.append hd;have c:(us++ds).length=ps.length:=by rw[<-b.length];exact F.len _ _ _ _ h
 refine wpAny_call (codeAny_mono (F.run X.A X.stack s H #[us,[]] (us++ds) (vs++dvs) Q E hr I.env0 (hb s us I.kIn c) b h) λr d a=>?_)
 cases r with
 |error e=>exact XP.of_call hex I a
 |ok fl=>
  cases fl with
  |ret u=>exact I.after a
  |next=>exact False.elim a
  |brk=>exact False.elim a
  |cont=>exact False.elim a
def px_call(F:FnOk X.prog X.w X.K X.mg X.base (CX1 X.prog X.w) k f fd ps sp)(hr:Room k X.A)(hg:Gl X x)(hm:X.mg x=some (.ref f))(hk:PySem.W.keepIn X.K (.ref f)=true)(hb:Binds X.K fd ps ds)(hd:Vals dvs ds)(hex:X.ex=[])
  (ha:PA X.nox (e::es) t)(hdb:(x==("__debug__":Str))=false:=by decide)(he:starEach (e::es) X.env=(false,eval e X.env)::starEach es X.env:=by rfl)(hpl:(backTo pos (starEach es X.env)).any (·.1)=false:=by rfl):
  PX X (.Call (.Name x p) (e::es) [] pos) (λE=>tCall sp dvs E t):=by
 intro a s σ H Q E I h;refine lO (dU I hg hm ?_ hdb);refine lE (h₀:=X.base) I.ok.mod.kin hk (kr (ha pos a s σ H _ (I.wish _) h) (λd i⟨c,j,b,r,q⟩=>#[b.kIn,?_]) λ_ _ z=>z.elim) he hpl;exact run_fnX F hr hb hd hex b.unwish r q
abbrev PSx(X:Cx)(st:Stmt)(t:XK->TS):Prop:=
 ∀(pins:List (Addr×Obj))(s:Shared)(σ:St)(H:Hp)(D:Ends)(E:XK),Inv X pins σ H s->t E D σ H->wpAny (model X.prog X.w) X.A (exec st X.env) (SP X pins D) (XP X pins σ E) s
def psx_set(hN:X.N.Nodup)(hi:X.N[i]?=some y)(hx:Loc X.env.scope y)(he:PX X e te)(hs:swapsWith e (some (.Name y pos')) pos.line X.env=pure false:=by rfl)
  (hf:X.fn y=true∨X.env.scope.names.lookup y=some .local:=by first|exact .inl rfl|exact .inr rfl|assumption):PSx X (.Assign [.Name y pos'] e pos) (λE=>tAsg (te E) (gName i)):=by
 intro a s σ H D E I h;refine wpAny_Assign_Name (thn (he a s σ H _ E I h) λv o⟨y,l,j,b,c⟩=>?_) hs;exact fU j hN hi hx b (λm d=>#[_,l,d,c]) hf
def pssx_one{st:Stmt}{t:XK->TS}(h1:PSx X st t):PSX X [st] t:=by
 intro a s σ H D E I h;refine wpAny_execs_cons (thn (h1 a s σ H D E I h) λf b q=>?_)
 cases f with
 |next=>exact wpAny_execs_nil q
 |ret v=>exact q
 |brk=>exact q
 |cont=>exact q
end
section
variable{X:Cx}
nonrec abbrev Cx.hnd(X:Cx)(x:Addr):Cx:={X with A:=X.A.mark (some (.ref x)),calm:=false,xe:=λ_ _=>False}
def Cx.Ok.hnd(ok:X.Ok):(X.hnd x).Ok:=#[ok.mod,ok.kind,ok.glob,ok.blt,ok.above,ok.inj,ok.has,ok.cab,(λz=>nomatch z),ok.frames,ok.stk,ok.exf,ok.bs,ok.bsz,ok.noex,ok.exfs,ok.funs,ok.frf]
variable{pins:List (Addr×Obj)}{σ:St}{H:Hp}{s:Shared}{x:Addr}
def Inv.hnd(I:Inv X pins σ H s):Inv (X.hnd x) pins σ H s:=#[I.ok.hnd,I.os,I.bare,I.base,I.loc,I.cell,I.free,I.freeC,I.pin,I.hok,I.len]
def Inv.unhnd(ok:X.Ok)(I:Inv (X.hnd x) pins σ H s):Inv X pins σ H s:=#[ok,I.os,I.bare,I.base,I.loc,I.cell,I.free,I.freeC,I.pin,I.hok,I.len]
def SP.unhnd(ok:X.Ok)(h:SP (X.hnd x) pins D f s'):SP X pins D f s':=by
 cases f with
 |next=>let#[a,b,I,q]:=h;exact#[a,b,I.unhnd ok,q]
 |brk=>let#[a,b,I,q]:=h;exact#[a,b,I.unhnd ok,q]
 |cont=>let#[a,b,I,q]:=h;exact#[a,b,I.unhnd ok,q]
 |ret u=>let#[v,a,b,I,r,q]:=h;exact#[v,a,b,I.unhnd ok,r,q]
abbrev XO(x C:Addr)(d:Option Addr):HO:=.ext λh=>∃vs sl,h.get? x=some #[.ref C,d,.fields vs,sl]
def Inv.track(I:Inv X pins σ H s)(hn:H x=none)(ho:Off X pins x)(new:ObjOk X.prog X.w (upd H x o) s.heap x o):Inv X pins σ (upd H x o) s:=by
 have ne:∀b u,H b=some u->b≠x:=λb u e z=>by rw[z,hn]at e;cases e
 have h:∀b,b≠x->H b=none->upd H x o b=none:=λb d e=>by rw[aG d];exact e
 refine#[I.ok,I.os,I.bare,#[I.base.keep,I.base.slot,λb u e n l=>h b (λz=>by rw[z,ho.1]at e;cases e) (I.base.free b u e n l),I.base.there,λb i e=>?_,λb u v e=>?_,λb ps e=>?_],
  I.loc,I.cell,h _ (k7 ho.2.1) I.free,λy c e=>h c (ho.2.2.2.1 y c e) (I.freeC y c e),λp j=>?_,λb u e=>?_,I.len]
 ·have q:=I.base.tups b i e;rw[aG (ne b _ q)];exact q
 ·have q:=I.base.frzs b u v e;rw[aG (ne b _ q)];exact q
 ·let#[a,q]:=I.base.tbls b ps e;exact#[a,by rw[aG (ne b _ q)];exact q]
 ·let#[e,n,r]:=I.pin p j;exact#[e,h p.1 (ho.2.2.2.2 p j) n,r]
 ·by_cases d:b=x
  ·subst d;rw[aC]at e
   cases e;exact new
  ·rw[aG d]at e;exact(I.hok b u e).stay (λ_ _ _ q=>q) (λc q=>by rw[aG (ne c _ q)];exact q) λc i q=>by rw[aG (ne c _ q)];exact q
def excMatches_K{K:W.Frag}(X:K.In s.heap)(he:s.heap.get? e=some #[.ref C,d,dt,sl])
  (h1:PySem.W.instIn K (.ref C') (.type "tuple")=some false)(h2:PySem.W.clsIn K C'=some cd)(h3:PySem.W.subIn K (.ref C') (.type "BaseException")=some true)(h4:PySem.W.subIn K (.ref C) (.ref C')=some b)(q:Q b s):
  wpAny M A (excMatches (.ref e) (.ref C')) Q E s:=by
 have c:PySem.W.Looks M s.heap (isExcClass (.ref C')) true:=by
  unfold isExcClass;refine PySem.W.Looks.andThen (a:=true) ?_ (PySem.W.looks_subIn X h3);unfold PySem.W.clsIn at h2
  split at h2
  ·rename_i h;intro m o l j k i;unfold isType loadHead;exact jD (wpAny_loadPart (k _ _ (X _ _ h)) (jN i))
  ·cases h2
 have ty:PySem.W.Looks M s.heap (typeOf (.ref e)) (.ref C):=(PySem.W.Looks.ld he).andThen .now;unfold excMatches;refine jD ((PySem.W.looks_instIn X h1).here ?_);simp only[lF,if_false];refine jD (jN ?_);simp only[List.forIn_cons,List.forIn_nil];refine jD (jD ?_);refine jD (c.here ?_);simp only[Bool.not_true,lF,if_false];refine jN (jN (jD (ty.here (jD (jD (jD ((PySem.W.looks_subIn X h4).here ?_)))))))
 cases b with
 |true=>exact jN (jN (jN q))
 |false=>exact jN (jN (jN q))
def flight_same(he:s.heap.get? x=some #[c,d,.fields vs,sl])(ht:iR s.heap x vs (some T))(q:Q Unit.unit s):wpAny M A (setFlight (.ref x) none) Q E s:=by
 let#[i,_,j,h,e,a,b]:=ht;refine wpAny_setFlight_none he rfl i e a (kB.mp b).1 ?_;rw[Heap.update_setField_same s.heap T j h 3 .none e a b];exact q
def ik(I:Inv X pins σ H s)(hN:X.N.Nodup)(hi:X.N[i]?=some n)(hk:X.env.scope.names.lookup n=some .local)
  (h:∀s',Inv X pins (σ.set i none) H s'->Q Unit.unit s'):wpAny M A (do bindName X.env n .none;unbindBehindTheSuite X.env n pos) Q E s:=by
 let#[m,G,K]:=id I.loc;have t:(X.env.scope.kind==.class||(X.env.scope.kind==.module&&X.env.locals !=X.env.globals))=false:=by rw[I.ok.kind];rfl
 have D:i<σ.length:=by rw[I.len];exact(jH.mp hi).1
 have cne:=I.cne;let#[Z,_,_,O,_]:=id G;have a:∀b o,X.s₀.heap.get? b=some o->b≠X.env.locals:=λb o e=>km (j7 (jO e) I.ok.above);refine wpAny_nameGoes_keeps hk G t λh' v F l=>h _ #[I.ok,I.os,I.bare,#[λb o e n B w=>?_,λb o e n B w=>?_,I.base.free,λb o e w=>?_,I.base.tups,I.base.frzs,I.base.tbls],#[_,F,λj y L r x R=>?_],λy c e=>?_,I.free,I.freeC,λp Y=>?_,λb u e=>?_,by simpa using I.len]
 ·exact(l.2 b (a b o e)).trans (I.base.keep b o e n B w)
 ·let#[U,r]:=I.base.slot b o e n B w;exact#[U,(l.2 b (a b o e)).trans r]
 ·let#[W,r]:=I.base.there b o e w;exact#[W,(l.2 b (a b o e)).trans r]
 ·by_cases hj:j=i
  ·subst hj;rw[List.getElem?_set_self D]at x
   cases x
  ·rw[List.getElem?_set_ne (k7 hj)]at x;let#[N,S,q]:=K j y L r x R;refine#[N,S,?_];rcases q with⟨k,e⟩|⟨k,c,e,z⟩
   ·refine .inl #[k,?_]
    have:y≠n:=λe=>hj (nodup_ix hN r (e▸hi))
    simp[this,e]
   ·exact .inr #[k,c,e,z.sameBut l (cne y c e)]
 ·let#[J,z]:=I.cell y c e;exact#[J,z.sameBut l (cne y c e)]
 ·let#[e,n,ne,P,d]:=I.pin p Y;exact#[(l.2 p.1 ne).trans e,n,ne,P,d]
 ·refine(I.hok b u e).stay (λc J T q=>(l.2 c ?_).trans q) (λ_ q=>q) λ_ _ q=>q;rintro rfl;rcases T with z|z
  ·rw[<-z,I.free]at e;cases e
  ·rw[I.free]at z;cases z
abbrev XHeld(X:Cx)(pins:List (Addr×Obj))(H:Hp)(h:Heap)(x:Addr)(cls:Value)(d:Option Addr):Prop:=
 H x=none/\Off X pins x/\∃vs sl T,h.get? x=some #[cls,d,.fields vs,sl]/\iR h x vs (some T)/\H T=none/\Off X pins T
nonrec abbrev TH:=Ends->St->Value->Option Addr->Hp->Prop
abbrev PH(X:Cx)(hs:List ExceptHandler)(t:TH):Prop:=
 ∀(pins:List (Addr×Obj))(s:Shared)(σ:St)(H:Hp)(D:Ends)(x:Addr)(cls:Value)(d:Option Addr),Inv X pins σ H s->XHeld X pins H s.heap x cls d->t D σ cls d H->
  wpAny (model X.prog X.w) X.A (handleBy (.ref x) X.env hs) (SP X pins D) X.xe s
structure Catches(K:W.Frag)(C:Addr):Prop where
 tu:PySem.W.instIn K (.ref C) (.type "tuple")=some false
 cl:∃cd,PySem.W.clsIn K C=some cd
 ex:PySem.W.subIn K (.ref C) (.type "BaseException")=some true
abbrev hNever:TH:=λ_ _ _ _ _=>False
def ph_never:PH X hs hNever:=λ_ _ _ _ _ _ _ _ _ _ h=>h.elim
abbrev hAs(K:W.Frag)(C':Addr)(i:Nat)(t:TS)(tr:TH):TH:=λD σ cls d H=>∃C b,cls=.ref C/\PySem.W.subIn K (.ref C) (.ref C')=some b/\
 if b=true then∀x,H x=none->t {nx:=λσ' H'=>D.nx (σ'.set i none) H',rt:=D.rt,bk:=λσ' H'=>D.bk (σ'.set i none) H',ct:=λσ' H'=>D.ct (σ'.set i none) H'} (σ.set i (some (.ref x))) (upd H x (XO x C d)) else tr D σ cls d H
def ph_as{rest:List ExceptHandler}(hg:Gl X y)(hm:X.mg y=some (.ref C'))(hc:Catches X.K C')(hN:X.N.Nodup)(hi:X.N[i]?=some n)(hk:X.env.scope.names.lookup n=some .local)
  (hsu:∀x,PSs (X.hnd x) (b₀::suite) t)(hr:PH X rest tr)(hd:(y==("__debug__":Str))=false:=by decide):PH X (.ExceptHandler (some (.Name y np)) (some n) (b₀::suite) pos::rest) (hAs X.K C' i t tr):=by
 intro a s σ H D x Q d I G h;let#[C,b,8,o,q]:=h;let#[F,K,M,R,T,p,O,W]:=id G;let#[U,w]:=hc.cl;refine wpAny_handleBy_cons (codeAny_handlers_test (dU (X:=X.hnd x) I.hnd hg hm (excMatches_K I.kIn p hc.tu w hc.ex o ?_) hd)) (by intro z;cases z)
 cases b with
 |false=>exact hr a s σ H D x _ d I G q
 |true=>
  have J:Inv X a σ (upd H x (XO x C d)) s:=I.track F K #[#[M,R,p],#[_,p],(by rintro Z S⟨r,A,e⟩k;exact#[r,A,k _ e])];refine codeAny_handlers_suite_as (flight_same p O (fU (v:=.ref x) J hN hi (.inl hk) rfl (λP N=>?_) (.inr hk)));refine kr (hsu x a P _ _ _ N.hnd (q x F)) (λf Y z=>?_) λ_ _ z=>z.elim;have z:=z.unhnd I.ok
  cases f with
  |next=>let#[E,c,l,j]:=z;exact ik l hN hi hk λB m=>#[_,c,m,j]
  |brk=>let#[E,c,l,j]:=z;exact ik l hN hi hk λB m=>#[_,c,m,j]
  |cont=>let#[E,c,l,j]:=z;exact ik l hN hi hk λB m=>#[_,c,m,j]
  |ret u=>let#[v,E,c,l,L,j]:=z;exact ik l hN hi hk λB m=>#[v,_,c,m,L,j]
abbrev tTry(tb:XK->TS)(th:TH):TS:=λD σ H=>tb (λcls d H'=>th D σ cls d H') D σ H
def ps_try(hb:PSX X body tb)(hh:PH X (h₀::hs) th)(hex:X.ex=[]:=by rfl)(hstk:X.stack=X.env::X.outer:=by rfl)(hfr:X.env.frame=some X.env.locals:=by rfl):
  PS X (.Try body (h₀::hs) [] [] pos) (tTry tb th):=by
 intro a s σ H D I h;refine wpAny_Try_except (kr (hb a s σ H D _ I h) (λf t q=>?_) λe t q=>?_)
 ·cases f with
  |next=>exact wpAny_execs_nil q
  |ret v=>exact q
  |brk=>exact q
  |cont=>exact q
 ·let#[x,i,d,r,8,b,#[j,l,z,u,A,w,o,y],q]:=q;refine noted_ok (env:=X.env) (outer:=X.outer) (by rw[<-hstk];exact b.ok.frames) (by rw[<-hstk];exact b.stack) hfr w rfl o λB N=>?_;have J:=b.noted j l y (by rw[hstk];exact N);let#[c,T,g1,_,m,p]:=N.exc;exact hh a _ σ r D x i d J #[j,l,c,u,T,g1,p,b.hok.fresh m,b.off hex (lg m)] q
end
end L2
namespace L2
open PySem PySem.Spec PyProof.Rows
abbrev FnB(P:Program)(w:World)(K:W.Frag)(mg:Str->Option Value)(base:Heap)(CX:CXT)(x:Str)(k:Nat)(ps:List Str)(sp:Sp):Prop:=
 ∃f fd,mg x=some (.ref f)/\PySem.W.keepIn K (.ref f)=true/\Binds K fd ps []/\FnOk P w K mg base CX k f fd ps sp
abbrev MtB(P:Program)(w:World)(K:W.Frag)(mg:Str->Option Value)(base:Heap)(CX:CXT)(C:Addr)(m:Str)(k:Nat)(ps:List Str)(sp:Sp):Prop:=
 ∃f fd,Meth K C m f/\Binds K fd ps []/\FnOk P w K mg base CX k f fd ps sp
abbrev MkB(P:Program)(w:World)(K:W.Frag)(mg:Str->Option Value)(base:Heap)(CX:CXT)(C:Addr)(k:Nat)(ps:List Str)(dvs:List V)(sp:Sp):Prop:=
 ∃f fd ds,Mk K C f/\Binds K fd ps ds/\Vals dvs ds/\FnOk P w K mg base CX k f fd ps sp
def FnOk.up{K:W.Frag}(F:FnOk P w K mg base CX0 k f fd ps sp):FnOk P w K mg base CX k f fd ps sp:=
 #[F.len,λA a s H b o c Q E l m d i j=>codeAny_mono (F.run A a s H b o c Q E l m d i j) λr p h=>by
  cases r with
  |error e=>exact False.elim h
  |ok fl=>cases fl<;>exact h]
section
variable{P:Program}{w:World}{K:W.Frag}{mg:Str->Option Value}{base:Heap}{CX:CXT}{x m:Str}{C:Addr}{k:Nat}{ps:List Str}{sp:Sp}{dvs:List V}
def FnB.up(h:FnB P w K mg base CX0 x k ps sp):FnB P w K mg base CX x k ps sp:=by
 let#[f,fd,a,b,c,d]:=h;exact#[f,fd,a,b,c,d.up]
end
section
variable{X:Cx}{CX:CXT}{k j:Nat}{C:Addr}{ps:List Str}{sp:Sp}{dvs:List V}{E:XK}{x m:Str}{p pos apos:Pos}{e o:Expr}{es:List Expr}{ta:TE}{t:TA}
def aZ(F:FnB X.prog X.w X.K X.mg X.base CX x k ps sp)(hr:Room j X.A)(hx:dk CX X E)(ha:PA X (e::es) t)(hj:k<=j:=by decide)(hg:Gl X x:=by rfl)(hdb:(x==("__debug__":Str))=false:=by decide)
  (he:starEach (e::es) X.env=(false,eval e X.env)::starEach es X.env:=by rfl)(hpl:(backTo pos (starEach es X.env)).any (·.1)=false:=by rfl):PE X (.Call (.Name x p) (e::es) [] pos) (tCall sp [] E t):=by
 let#[f,h,a,b,c,d]:=F;exact pe_call d (hr.mono hj) hg a b c .nil hx ha hdb he hpl
def pe_mk(F:MkB X.prog X.w X.K X.mg X.base CX C k ps dvs sp)(hr:Room j X.A)(hm:X.mg x=some (.ref C))(hx:dk CX X E)(ha:PA X (e::es) t)(hj:k+1<=j:=by decide)(hg:Gl X x:=by rfl)(hdb:(x==("__debug__":Str))=false:=by decide)
  (he:starEach (e::es) X.env=(false,eval e X.env)::starEach es X.env:=by rfl)(hpl:(backTo pos (starEach es X.env)).any (·.1)=false:=by rfl):PE X (.Call (.Name x p) (e::es) [] pos) (tMake C sp dvs E t):=by
 let#[f,h,ds,a,b,c,d]:=F;exact pe_make a d (hr.mono hj) hg hm b c hx ha hdb he hpl
def px_fn(F:FnB X.prog X.w X.K X.mg X.base (CX1 X.prog X.w) x k ps sp)(hr:Room j X.A)(ha:PA X.nox (e::es) t)(hj:k<=j:=by decide)(hg:Gl X x:=by rfl)(hex:X.ex=[]:=by rfl)(hdb:(x==("__debug__":Str))=false:=by decide)
  (he:starEach (e::es) X.env=(false,eval e X.env)::starEach es X.env:=by rfl)(hpl:(backTo pos (starEach es X.env)).any (·.1)=false:=by rfl):PX X (.Call (.Name x p) (e::es) [] pos) (λE=>tCall sp [] E t):=by
 let#[f,h,a,b,c,d]:=F;exact px_call d (hr.mono hj) hg a b c .nil hex ha hdb he hpl
end
abbrev FDe(K:W.Frag)(mg:Str->Option Value)(x:Str)(st:Stmt)(ps:List Str):Prop:=∃f fd,Fun K x x st f fd/\mg x=some (.ref f)/\Binds K fd ps []
abbrev MDe(K:W.Frag)(C:Addr)(x qual:Str)(st:Stmt)(ps:List Str):Prop:=∃f fd,Fun K x qual st f fd/\Meth K C x f/\Binds K fd ps []
section
variable{P:Program}{w:World}{K:W.Frag}{mg:Str->Option Value}{base:Heap}{x qual:Str}{C:Addr}{st:Stmt}{N ps:List Str}{k:Nat}{sp:Sp}
def FDe.ok(F:FDe K mg x st ps)(S:FnScope N ps (aH st))(len:∀vs H Q E,sp vs H Q E->vs.length=ps.length)
  (hbody:∀(f:Addr)(cdv:Value)(A:Around)(outer:List Env)(s:Shared)(H:Hp)(vs:List V)(Q:VK)(E:XK),Room k (A.deeper (envOfC x (aH st) s.heap.objs.size f cdv))->sp vs H Q E->
   ∃t,PSs (bF CX0 P w K mg base N x (aH st) f cdv A outer s H E).nox (cE st) t/\t {nx:=λ_ H'=>Q .non H',rt:=Q} (eG N vs) H):FnB P w K mg base CX0 x (k+1) ps sp:=
 let⟨f,fd,a,b,c⟩:=F
 #[f,fd,b,a.kp,c,a.ok S len (hbody f)]
def MDe.ok(F:MDe K C x qual st ps)(S:FnScope N ps (aH st))(len:∀vs H Q E,sp vs H Q E->vs.length=ps.length)
  (hbody:∀(f:Addr)(cdv:Value)(A:Around)(outer:List Env)(s:Shared)(H:Hp)(vs:List V)(Q:VK)(E:XK),Room k (A.deeper (envOfC qual (aH st) s.heap.objs.size f cdv))->sp vs H Q E->
   ∃t,PSs (bF CX0 P w K mg base N qual (aH st) f cdv A outer s H E).nox (cE st) t/\t {nx:=λ_ H'=>Q .non H',rt:=Q} (eG N vs) H):MtB P w K mg base CX0 C x (k+1) ps sp:=
 let⟨f,fd,a,b,c⟩:=F
 #[f,fd,b,c,a.ok S len (hbody f)]
def FDe.okX(F:FDe K mg x st ps)(S:FnScope N ps (aH st))(len:∀vs H Q E,sp vs H Q E->vs.length=ps.length)
  (hbody:∀(f:Addr)(cdv:Value)(A:Around)(outer:List Env)(s:Shared)(H:Hp)(vs:List V)(Q:VK)(E:XK),Room k (A.deeper (envOfC x (aH st) s.heap.objs.size f cdv))->sp vs H Q E->
   ∃t,PSs (bF (CX1 P w) P w K mg base N x (aH st) f cdv A outer s H E) (cE st) t/\t {nx:=λ_ H'=>Q .non H',rt:=Q} (eG N vs) H):FnB P w K mg base (CX1 P w) x (k+1) ps sp:=
 let⟨f,fd,a,b,c⟩:=F
 #[f,fd,b,a.kp,c,a.okX S len (hbody f)]
def MDe.okX(F:MDe K C x qual st ps)(S:FnScope N ps (aH st))(len:∀vs H Q E,sp vs H Q E->vs.length=ps.length)
  (hbody:∀(f:Addr)(cdv:Value)(A:Around)(outer:List Env)(s:Shared)(H:Hp)(vs:List V)(Q:VK)(E:XK),Room k (A.deeper (envOfC qual (aH st) s.heap.objs.size f cdv))->sp vs H Q E->
   ∃t,PSs (bF (CX1 P w) P w K mg base N qual (aH st) f cdv A outer s H E) (cE st) t/\t {nx:=λ_ H'=>Q .non H',rt:=Q} (eG N vs) H):MtB P w K mg base (CX1 P w) C x (k+1) ps sp:=
 let⟨f,fd,a,b,c⟩:=F
 #[f,fd,b,c,a.okX S len (hbody f)]
end
abbrev FunG(K:W.Frag)(x qual:Str)(st:Stmt)(f:Addr)(fd:FuncData):Prop:=∃(oc:Value)(od:Option Addr)(dV kV doc pm:Value)(an:Option Addr)(cdv ct:Value)(osl:Array (Option Value)),
  fd=PySem.W.fnOf x qual (em st) (cE st) (aH st) dV kV doc pm an cdv ct/\K.lookup f=some #[oc,od,.func fd,osl]/\PySem.W.codeIn K cdv qual=true
structure FunD(K:W.Frag)(x qual:Str)(st:Stmt)(f:Addr)(fd:FuncData)(ds:Array Value):Prop where
 ex:∃(oc:Value)(od:Option Addr)(T:Addr)(kV doc pm:Value)(an:Option Addr)(cdv ct:Value)(osl:Array (Option Value))(o:Obj)(n:Nat),
  fd=PySem.W.fnOf x qual (em st) (cE st) (aH st) (.ref T) kV doc pm an cdv ct/\K.lookup f=some #[oc,od,.func fd,osl]/\PySem.W.codeIn K cdv qual=true/\K.lookup T=some o/\o.data=.seq ds n
section
variable{P:Program}{w:World}{K:W.Frag}{mg:Str->Option Value}{base:Heap}{x qual:Str}{C:Addr}{st:Stmt}{f:Addr}{fd:FuncData}{ds:Array Value}{N ps:List Str}{k:Nat}{sp:Sp}
def FunD.gen(F:FunD K x qual st f fd ds):FunG K x qual st f fd:=by
 let#[oc,od,T,kV,doc,pm,an,cdv,ct,osl,_,_,e,l,c,_]:=F.ex;exact#[oc,od,.ref T,kV,doc,pm,an,cdv,ct,osl,e,l,c]
def Fun.gen(F:Fun K x qual st f fd):FunG K x qual st f fd:=by
 let#[oc,od,kV,doc,pm,an,cdv,ct,osl,e,l,c]:=F.ex;exact#[oc,od,.none,kV,doc,pm,an,cdv,ct,osl,e,l,c]
def FunD.binds(F:FunD K x qual st f fd ds)
  (h:∀(T:Addr)(kV doc pm:Value)(an:Option Addr)(cdv ct:Value)(us:List Value),(us++es).length=ps.length->∃k,bindArgs (PySem.W.fnOf x qual (em st) (cE st) (aH st) (.ref T) kV doc pm an cdv ct) #[us,[]]=seqItems? (.ref T)>>=k/\k (some ds)=pure (ps.zip (us++es))):Binds K fd ps es:=by
 let#[m,l,T,kV,doc,pm,an,cdv,ct,d,o,n,8,j,e,lt,hd]:=F.ex;intro s us c b;let#[k,i,a]:=h T kV doc pm an cdv ct us b;exact PySem.W.binds_K c rfl lt hd i a
def funD_mk{kV doc pm cdv ct:Value}(l:K.lookup f=some #[oc,od,.func (PySem.W.fnOf x qual (em st) (cE st) (aH st) (.ref T) kV doc pm an cdv ct),osl])
  (c:PySem.W.codeIn K cdv qual=true)(t:K.lookup T=some o)(hd:o.data=.seq ds n):FunD K x qual st f (PySem.W.fnOf x qual (em st) (cE st) (aH st) (.ref T) kV doc pm an cdv ct) ds:=#[#[oc,od,T,kV,doc,pm,an,cdv,ct,osl,o,n,8,l,c,t,hd]]
def FunG.ok(F:FunG K x qual st f fd)(S:FnScope N ps (aH st))(len:∀vs H Q E,sp vs H Q E->vs.length=ps.length)
  (hbody:∀(cdv:Value)(A:Around)(outer:List Env)(s:Shared)(H:Hp)(vs:List V)(Q:VK)(E:XK),Room k (A.deeper (envOfC qual (aH st) s.heap.objs.size f cdv))->sp vs H Q E->
   ∃t,PSs (bF CX0 P w K mg base N qual (aH st) f cdv A outer s H E).nox (cE st) t/\t {nx:=λ_ H'=>Q .non H',rt:=Q} (eG N vs) H):FnOk P w K mg base CX0 (k+1) f fd ps sp:=by
 let#[o,l,m,kV,d,p,r,cdv,j,e,8,c,b]:=F;refine fn_of c b S len λA outer s H vs Q E i a=>?_;let#[t,h,q]:=hbody cdv A outer s H vs Q E i a;exact#[t,h.nox,q]
abbrev IDe(K:W.Frag)(C:Addr)(qual:Str)(st:Stmt)(ps:List Str)(dvss:List (List V)):Prop:=∃f fd,FunG K "__init__" qual st f fd/\Mk K C f/\∀dvs∈dvss,∃es,Vals dvs es/\Binds K fd ps es
def IDe.ok(F:IDe K C qual st ps dvss)(S:FnScope N ps (aH st))(len:∀vs H Q E,sp vs H Q E->vs.length=ps.length)
  (hbody:∀(f:Addr)(cdv:Value)(A:Around)(outer:List Env)(s:Shared)(H:Hp)(vs:List V)(Q:VK)(E:XK),Room k (A.deeper (envOfC qual (aH st) s.heap.objs.size f cdv))->sp vs H Q E->
   ∃t,PSs (bF CX0 P w K mg base N qual (aH st) f cdv A outer s H E).nox (cE st) t/\t {nx:=λ_ H'=>Q .non H',rt:=Q} (eG N vs) H):∀dvs∈dvss,MkB P w K mg base CX0 C (k+1) ps dvs sp:=λdvs hd=>
 let⟨f,fd,a,b,c⟩:=F
 let⟨es,v,d⟩:=c dvs hd
 #[f,fd,es,b,d,v,a.ok S len (hbody f)]
end
end L2
namespace L2
open PySem PySem.Spec PyProof.Rows PySem.W PySem.Calls
def weight_mem:∀(ns:List Int)(n:Int),n∈ns->Builtin.Int.intBits n<=WData.weightAll (ns.map WData.int)
 |m::r,n,h=>by
  rw[kz];show Builtin.Int.intBits n<=WData.weight (.int m)+1+WData.weightAll (r.map WData.int);rcases jR.mp h with z|z
  ·subst z
   have:WData.weight (.int n)=Builtin.Int.intBits n:=by
    simp only[WData.weight,Builtin.Int.intBits]
   omega
  ·have:=weight_mem r n z
   omega
def bits_of_lay{ns:List Int}(h:WData.layableAll [WData.list (ns.map WData.int)]=true):∀n∈ns,Builtin.Int.intBits n<=2^20:=λn a=>by
 have d:(WData.list (ns.map WData.int)).layable=true:=by
  unfold WData.layableAll at h;simpa using h
 have b:=(layableW_iff.mp d).2.2;have c:=weight_mem ns n a;exact jK c b
def walk_ofB{l:PySem.W.OpenLaw}{XP:(Str->Option Value)->Heap->Prop}{K:Params->W.Frag}{CX:World->CXT}{sp:World->Sp}
  (hn:l.most=some n)(hn2:n<=sizeLine)(hdf:d.params.defaults=[])(hi:importsNone q=true)(hr:Room k callerA)
  (hY:∀(w:World)(h:Heap),YP w h->(K w.params).In h)
  (F:∀(w:World)(mg:Str->Option Value)(fa:Addr)(h:Heap),(K w.params).In h->h.Ns mainGlobals mg->mg d.name=some (.ref fa)->
   ∃fd:FuncData,(∀(s:Shared)(u:Value),BindsTo s fd #[[u],[]] [(x,u)])/\
    ∀base:Heap,(K w.params).In base->base.Ns mainGlobals mg->FnOk l.prog w (K w.params) mg base (CX w) k fa fd [x] (sp w))
  (hsp:∀(w:World)(H:Hp)(a:Addr)(ns:List Int),ns.length<=n->(∀i∈ns,Builtin.Int.intBits i<=2^20)->Only H->SqL (K w.params) H a (ns.map V.int)->sp w [.ref a] H (λv _=>v=.bl true) λ_ _ _=>False)
  (hCX:∀(w:World)(H:Hp)(s:Shared)(e:Value)(s':Shared),CX w [] H s (λ_ _ _=>False) e s'->False):
  PySem.W.WalkO q loose XP YP l.row.toRowW d [] (λf vs=>PySem.call f vs):=by
 intro w s₀ U mg mb G Y fa o pm cd M W kV ho hd S B A Q E I as y p aa z ab;obtain rfl:W=.none:=Dflts.none B hdf;obtain rfl:kV=.none:=Dflts.noKw B;let#[a,vs,ns,8,8,t,j,c]:=Att.script_of hn y z;have m:=bits_of_lay p;have D:=hY w _ Y;let#[fd,O,R]:=F w mg fa _ D G.T.g A;refine enter_call (codeAny_mono (law_call D G.T.g G.T.b G.T.builtins G.T.nolimit (G.T.seer hi) Q t j (jK c hn2) hr R O (λH Z P=>hsp w H a ns c m Z P) λH e s'=>hCX w H U e s') λr s' L=>?_);let#[8,J,X,h4]:=L;exact#[.inl #[.bool true,.bool true,[],8,λ_=>rfl,.bool true,Att.post_true l _,λ_=>#[List.Pairwise.nil,λ_ N=>(nomatch N)]],J,X,h4]
section
variable{X:Cx}
def du:OpR X (binaryOp .Mult) (rI IntMulOk λi j=>.int (i*j)):=opI λ_ _ _ _ _ _ _ a q=>mul_int q a
end
def mulOk_bits(h:Builtin.Int.intBits i+Builtin.Int.intBits j<=2^27):IntMulOk i j:=by
 have:Builtin.Int.intTooBig (Builtin.Int.intBits i+Builtin.Int.intBits j)=false:=by
  unfold Builtin.Int.intTooBig bitsLine;exact jI ()
 unfold IntMulOk;rw[this];simp
end L2
namespace L2
open PySem PySem.Spec PyProof.Rows
section
variable{prog:Program}{w:World}{A:Around}{E:Value->Shared->Prop}{s:Shared}{K:W.Frag}{x D:Addr}{ox:Obj}{od:Option Obj}{name:Str}
structure ExA(K:W.Frag)(D:Addr):Prop where
 ga:PySem.W.findIn K (.ref D) "__getattribute__"=some (some (.builtin "BaseException.__getattribute__"))
 gh:PySem.W.findIn K (.ref D) "__getattr__"=some none
 be:PySem.W.mroIn K D (.type "BaseException")=some true
 ca:PySem.W.findIn K (.ref D) "__class__"=some (some (.builtin "object.__class__"))
 gs:PySem.W.specialIn K (.builtin "object.__class__") "__get__"=some (some (.builtin "getset_descriptor.__get__"))
 tk:PySem.W.takesIn K (.builtin "object.__class__")=some true
 ob:PySem.W.mroIn K D (.type "object")=some true
 cl:∃cd,PySem.W.clsIn K D=some cd
def exc_check(a:ExA K D)(X:K.In s.heap)(I:PySem.W.InstAt s.heap x ox D od)(hq:Q Unit.unit s):wpAny (model prog w) A (checkBuiltinCall "BaseException.__getattribute__" #[[.ref x,nameV],[]]) Q E s:=by
 have e:builtinKind "BaseException.__getattribute__"=some .slot:=by decide+kernel
 have b:splitId "BaseException.__getattribute__"=some ("BaseException","__getattribute__"):=by decide+kernel
 have j:=F.args_bexc_ga (.ref x) nameV;have c:PySem.W.Looks (model prog w) s.heap (isInstance (.ref x) (.type "BaseException")) true:=I.type.andThen (PySem.W.looks_mroIn X a.be);let#[h,g,d,t,i]:=s;simp only[checkBuiltinCall,e,b];refine jD (c.at ?_)
 repeat(first|assumption|wp_step)
def exc_call_val(a:ExA K D)(X:K.In s.heap)(I:PySem.W.InstAt s.heap x ox D od)(hf:PySem.W.findObj K D od name=some (.value v))(hq:R (.ok (.ret v)) s):
  codeAny (model prog w) A (.call (.builtin "BaseException.__getattribute__") #[[.ref x,.str name tk],[]]) R s:=by
 refine codeAny_call_builtin F.excAttr_ValueError.ga.plain F.entry_bexc_ga (exc_check a X I ?_);have b:=I.type (M:=model prog w);have c:=PySem.W.looks_find (M:=model prog w) X I hf;let#[e,g,d,t,h]:=s;refine jD (jN ?_);refine jD (jN ?_);refine jD (b.at (jD (c.at ?_)));exact jN hq
def exc_call_cls(a:ExA K D)(X:K.In s.heap)(I:PySem.W.InstAt s.heap x ox D od)(hq:R (.ok (.ret (.ref D))) s):
  codeAny (model prog w) A (.call (.builtin "BaseException.__getattribute__") #[[.ref x,.str "__class__" tk],[]]) R s:=by
 refine codeAny_call_builtin F.excAttr_ValueError.ga.plain F.entry_bexc_ga (exc_check a X I ?_)
 have b:PySem.W.findObj K D od "__class__"=some (.bind (.builtin "getset_descriptor.__get__") (.builtin "object.__class__")):=by
  let#[l,h]:=a.cl;unfold PySem.W.findObj;rw[h,Option.bind_some,a.ca,Option.bind_some];simp[a.gs,a.tk]
 have c:=I.type (M:=model prog w);have j:=PySem.W.looks_find (M:=model prog w) X I b;let#[e,g,d,t,i]:=s;refine jD (jN ?_);refine jD (jN ?_);refine jD (c.at (jD (j.at ?_)));refine jD (wpAny_holding (wpAny_call (PySem.W.class_get (s:=#[e,g,d,t,i]) X I a.ob ?_)));exact jN hq
def exc_by{fill expr:Bool}(a:ExA K D)(X:K.In s.heap)(I:PySem.W.InstAt s.heap x ox D od)(hv:PySem.W.handedIn v=true)
  (h:∀(A:Around)(R:Result->Shared->Prop),R (.ok (.ret v)) s->codeAny (model prog w) A (.call (.builtin "BaseException.__getattribute__") #[[.ref x,.str name tk],[]]) R s)(q:Q v s):
  wpAny (model prog w) A (getAttrBy (.ref x) (.str name tk) fill expr) Q E s:=by
 have i:=I.type (M:=model prog w);have l:=PySem.W.looks_findIn (M:=model prog w) X a.ga;have j:=PySem.W.looks_findIn (M:=model prog w) X a.gh;have e:=F.excAttr_ValueError.ga.bind (.ref x);let#[m,g,d,t,o]:=s;unfold getAttrBy;refine wpAny_holding (jD (i.at (jD (l.at ?_))));have b:(Value.builtin "BaseException.__getattribute__"==Value.builtin "object.__getattribute__")=false:=by decide+kernel
 have c:(expr&&onTheHeap (Value.builtin "BaseException.__getattribute__"))=false:=by cases expr<;>rfl
 dsimp only;rw[b,Bool.and_false];simp only[lF,if_false];unfold getAttrByItsOwn hookBefore callGetattribute boundAndCalled;rw[c];simp only[lF,if_false,onTheHeap,if_true];refine jD (j.at ?_);refine jD (wpAny_attempt (wpAny_holding ?_));rw[e];refine jD (jN ?_);refine wpAny_call (h _ _ ?_);exact PySem.W.handed_on hv q
def exc_cls(a:ExA K D)(X:K.In s.heap)(I:PySem.W.InstAt s.heap x ox D od)(h:Q (some (.ref D)) {s with toks:=s.toks+1}):wpAny (model prog w) A (getAttr? (.ref x) "__class__") Q E s:=by
 let#[b,g,d,t,c]:=s;unfold getAttr? getAttrBy?;refine jD (wpAny_mkText (jD (wpAny_attempt ?_)));exact exc_by (s:=#[b,g,d,t+1,c]) a X I rfl (λA R q=>exc_call_cls (s:=#[b,g,d,t+1,c]) a X I q) (jN h)
def kitx_exc(a:ExA K D):PySem.W.KitX K (.ref x) (.ref D) (λh=>∃ox od,PySem.W.InstAt h x ox D od)where
 ty:=(by rintro _ _ _⟨_,_,I⟩;exact I.type)
 it:=λ_ _ X _=>by
  let#[c,b]:=a.cl;unfold PySem.W.clsIn at b
  split at b
  ·rename_i p m l j i;intro w u v t k q;unfold isType loadHead;exact jD (wpAny_loadPart (k _ _ (X _ _ i)) (jN q))
  ·cases b
 ne:=λh r s o n y X d=>by
  let#[c,b]:=a.cl;refine Bool.eq_false_iff.mpr λq=>?_;have e:D=r:=Value.ref.inj (beq_iff_eq.mp q);subst e;unfold PySem.W.clsIn at b
  split at b
  ·rename_i p m l j i;have z:=(X _ _ i).symm.trans d
   cases z
  ·cases b
 ca:=λX⟨_,_,I⟩k=>exc_cls a X I k
end
section
variable{X:Cx}
abbrev XAt(H:Hp)(x D:Addr):Prop:=H x=some (XO x D none)
def XAt.mono(h:XAt H x D)(s:Same H H'):XAt H' x D:=s _ _ h
abbrev rIsX(K:W.Frag)(c:Value):List V->Hp->VK->Prop:=λvs H Q=>∃x D y b,vs=[.ref x,y]/\(∀u,RelV y u->u=c)/\XAt H x D/\ExA K D/\PySem.W.kitOne K (.ref D) c=some b/\Q (.bl b) H
def eN:et X (.builtin "isinstance") (rIsX X.K c):=by
 intro a s σ H o p Q I r h;let#[x,D,y,b,8,d,l,j,e,q]:=h
 cases r with
 |cons r1 r2=>
  cases r2 with
  |cons r3 r4=>
   cases r4
   have:=d _ r3
   subst this
   cases r1;let#[#[m,t,g],_]:=(show ObjOk X.prog X.w H s.heap x (XO x D none) from I.hok x _ l);exact kP (kitx_exc j) I.kIn #[_,none,g,8,8,True.intro] e (λz=>nomatch z) λi=>#[.bl b,H,I.tok i,8,q]
abbrev jA:List V->List V->Bool
 |[],[]=>true
 |x::xs,y::ys=>eqV x y&&jA xs ys
 |_,_=>false
def eqVs_len:∀{xs ys:List V},xs.length≠ys.length->jA xs ys=false
 |[],[],h=>absurd rfl h
 |[],_::_,_=>rfl
 |_::_,[],_=>rfl
 |x::xs,y::ys,h=>by
  show(eqV x y&&jA xs ys)=false;rw[eqVs_len (λz=>h (kI (·+1) z)),Bool.and_false]
abbrev jC(xs ys:List V)(j:Nat):Bool:=match xs[j]?,ys[j]? with|some x,some y=>eqV x y|_,_=>true
def eqVs_all:∀{xs ys:List V},xs.length=ys.length->(List.range xs.length).all (jC xs ys)=jA xs ys
 |[],[],_=>rfl
 |x::xs,y::ys,h=>by
  rw[jU,List.range_succ_eq_map,List.all_cons,List.all_map];show(eqV x y&&_)=(eqV x y&&jA xs ys);rw[<-eqVs_all (Nat.succ.inj h)];rfl
def dF(r:Vals xs us):∀{j:Nat}{x:V}{u:Value},xs[j]?=some x->us[j]?=some u->RelV x u:=by
 induction r with
 |nil=>intro j x u h;cases h
 |cons r1 _ ih=>
  intro j x u b a
  cases j with
  |zero=>cases b;cases a;exact r1
  |succ j=>exact ih b a
inductive IrEqL(K:W.Frag)(x:V)(y:V)(H:Hp)(Q:VK):Prop
 |mk(p:_)(q:_)(xs:_)(ys:_)(h1:x=.ref p)(h2:y=.ref q)(h3:SqL K H p xs)(h4:SqL K H q ys)(h5:xs.all dY=true)(h6:ys.all dY=true)(h7:Q (.bl (jA xs ys)) H):IrEqL K x y H Q
def gO:bootBuiltins "ValueError"=some (.type "ValueError"):=by decide+kernel
end
end L2
namespace L2
open PySem PySem.Spec PyProof.Rows
inductive ItMethD(P:Program)(w:World)(K:W.Frag)(mg:Str->Option Value)(base:Heap)(CX:CXT)(m:Str)(j:Nat)(E:XK)(t:TA)(σ:St)(Q:VK)(x:V)(H1:Hp):Prop
 |mk(a:_)(C:_)(dx:_)(fs:_)(k:_)(ps:_)(sp:_)(h1:x=.ref a)(h2:H1 a=some (.ins C dx fs))(h3:fs.lookup m=none)(h4:Cls K C)(h5:k<=j)(h6:MtB P w K mg base CX C m k ps sp)(h7:t σ H1 λvs H2=>sp ((.ref a::vs)++[]) H2 Q E):ItMethD P w K mg base CX m j E t σ Q x H1
abbrev tMethD(P:Program)(w:World)(K:W.Frag)(mg:Str->Option Value)(base:Heap)(CX:CXT)(m:Str)(j:Nat)(E:XK)(ta:TE)(t:TA):TE:=λσ H Q=>ta σ H λx H1=>ItMethD P w K mg base CX m j E t σ Q x H1
structure ClsRd(K:W.Frag)(C:Addr):Prop where
 rd:PySem.W.readsIn K C (.type "type")=true
 sg:PySem.W.specialIn K (.ref C) "__getattribute__"=some (some (.builtin "type.__getattribute__"))
abbrev CfB(P:Program)(w:World)(K:W.Frag)(mg:Str->Option Value)(base:Heap)(CX:CXT)(C:Addr)(m:Str)(k:Nat)(ps:List Str)(sp:Sp):Prop:=
 ∃f fd,ClsRd K C/\PySem.W.findCls K (.ref C) (.type "type") m=some (.val (.ref f))/\PySem.W.keepIn K (.ref f)=true/\Binds K fd ps []/\FnOk P w K mg base CX k f fd ps sp
section
variable{X:Cx}{CX:CXT}{k j:Nat}{C:Addr}{ps:List Str}{sp:Sp}{E:XK}{x m:Str}{p pos apos:Pos}{e o:Expr}{es:List Expr}{ta:TE}{t:TA}
def eD(he:PE X o ta)(hr:Room j X.A)(hx:dk CX X E)(ha:PA X (e::es) t)
  (hst:starEach (e::es) X.env=(false,eval e X.env)::starEach es X.env:=by rfl)(hpl:(backTo pos (starEach es X.env)).any (·.1)=false:=by rfl)
  (ht:eval (.Call (.Attribute o m apos) (e::es) [] pos) X.env=(do
   let ov<-eval o X.env
   standAt apos.atName
   let(f,first)<-holding [ov] (getMethod ov m pl)
   callWith pos f first (backTo pos (starEach (e::es) X.env)) (backToKw pos (keywordEach [] X.env))):=by rfl):PE X (.Call (.Attribute o m apos) (e::es) [] pos) (tMethD X.prog X.w X.K X.mg X.base CX m j E ta t):=by
 intro b s σ H Q I h;refine lA (pl:=pl) (thn (he b s σ H _ I h) λu z⟨x,w,i,D,a,C,M,fs,k,ps,K,ex,A,l,c,v,⟨f,G,d,y,F⟩,q⟩=>?_) ht;subst ex;obtain rfl:u=Value.ref a:=D;refine fo i A c d l ?_;refine lE (first:=[.ref a]) (h₀:=X.base) I.ok.mod.kin d.kp (thn (ha pos b z σ w _ i q) λus L⟨vs,J,p,r,B⟩=>#[p.kIn,?_]) hst hpl;exact run_fn (us:=.ref a::us) (vs:=.ref a::vs) F (hr.mono v) y .nil hx p (.cons rfl r) B
def cD(he:PE X o ta)(hr:Room j X.A)(hx:dk CX X E)
  (ht:eval (.Call (.Attribute o m apos) [] [] pos) X.env=(do
   let ov<-eval o X.env
   standAt apos.atName
   let(f,first)<-holding [ov] (getMethod ov m pl)
   callWith pos f first (backTo pos (starEach [] X.env)) (backToKw pos (keywordEach [] X.env))):=by rfl):PE X (.Call (.Attribute o m apos) [] [] pos) (tMethD X.prog X.w X.K X.mg X.base CX m j E ta tNil):=by
 intro b s σ H Q I h;refine lA (pl:=pl) (thn (he b s σ H _ I h) λu w⟨x,v,d,t,a,C,A,fs,k,ps,z,ex,r,l,c,i,⟨f,y,e,p,F⟩,q⟩=>?_) ht;subst ex;obtain rfl:u=Value.ref a:=t;refine fo d r c e l ?_;exact PySem.W.callWith_K0 (first:=[.ref a]) d.kIn e.kp (run_fn (us:=[.ref a]) (vs:=[.ref a]) F (hr.mono i) p .nil hx d (.cons rfl .nil) q)
def pe_cf(F:CfB X.prog X.w X.K X.mg X.base CX C m k ps sp)(hr:Room j X.A)(hm:X.mg x=some (.ref C))(hx:dk CX X E)(ha:PA X (e::es) t)(hj:k<=j:=by decide)(hg:Gl X x:=by rfl)(hdb:(x==("__debug__":Str))=false:=by decide)
  (hst:starEach (e::es) X.env=(false,eval e X.env)::starEach es X.env:=by rfl)(hpl:(backTo pos (starEach es X.env)).any (·.1)=false:=by rfl)
  (ht:eval (.Call (.Attribute (.Name x np) m apos) (e::es) [] pos) X.env=(do
   let ov<-eval (.Name x np) X.env
   standAt apos.atName
   let(f,first)<-holding [ov] (getMethod ov m pl)
   callWith pos f first (backTo pos (starEach (e::es) X.env)) (backToKw pos (keywordEach [] X.env))):=by rfl):PE X (.Call (.Attribute (.Name x np) m apos) (e::es) [] pos) (tCall sp [] E t):=by
 intro a s σ H Q I h;let#[f,v,c,l,p,o,F]:=F;refine lA (pl:=pl) (dU I hg hm ?_ hdb) ht;refine PySem.W.method_cls I.kIn c.sg (PySem.W.cls_value I.kIn c.rd l rfl ?_);have i:=I.tok (s.toks+1);refine lE (first:=[]) (h₀:=X.base) I.ok.mod.kin p (thn (ha pos a _ σ H _ i h) λus q⟨vs,u,b,r,d⟩=>#[b.kIn,?_]) hst hpl;exact run_fn (us:=us) (vs:=vs) F (hr.mono hj) o .nil hx b r d
abbrev rRepS:R2:=λx y H Q=>∃z n,x=.str z/\y=.int n/\z.length=1/\n.natAbs<1000/\Q (.str (Txt.mul z n)) H
def iU:OpR X (binaryOp .Mult) rRepS:=by
 intro a s σ H x y v u Q I c d h;let#[z,n,8,8,b,j,q]:=h;let#[t,8]:=c;let#[e,8]:=d;refine SB.mul #[?_,λi _=>?_,λi _=>?_] λe l=>#[.str _,H,I.tok _,#[9],q]
 ·simp;omega
 ·rw[b]
  have:(1:Int)<=(2^63-1)/n:=Int.le_ediv_of_mul_le (by omega) (by omega)
  omega
 ·rw[b];unfold Builtin.Str.tooLong;simp only[j1,gt_iff_lt,decide_eq_false_iff_not];omega
end
section
variable{P:Program}{w:World}{K:W.Frag}{mg:Str->Option Value}{base:Heap}{x qual:Str}{C:Addr}{st:Stmt}{N ps:List Str}{k:Nat}{sp:Sp}
abbrev CDe(K:W.Frag)(C:Addr)(qual:Str)(st:Stmt)(ps:List Str):Prop:=∃f fd,FunG K "__init__" qual st f fd/\ClsRd K C/\PySem.W.findCls K (.ref C) (.type "type") "__init__"=some (.val (.ref f))/\PySem.W.keepIn K (.ref f)=true/\Binds K fd ps []
def CDe.ok(F:CDe K C qual st ps)(S:FnScope N ps (aH st))(len:∀vs H Q E,sp vs H Q E->vs.length=ps.length)
  (hbody:∀(f:Addr)(cdv:Value)(A:Around)(outer:List Env)(s:Shared)(H:Hp)(vs:List V)(Q:VK)(E:XK),Room k (A.deeper (envOfC qual (aH st) s.heap.objs.size f cdv))->sp vs H Q E->
   ∃t,PSs (bF CX0 P w K mg base N qual (aH st) f cdv A outer s H E).nox (cE st) t/\t {nx:=λ_ H'=>Q .non H',rt:=Q} (eG N vs) H):CfB P w K mg base CX0 C "__init__" (k+1) ps sp:=
 let⟨f,fd,a,b,c,d,e⟩:=F
 #[f,fd,b,c,d,e,a.ok S len (hbody f)]
end
end L2
namespace L2
open PySem PySem.Spec PyProof.Rows
section
variable{prog:Program}{w:World}{A:Around}{E:Value->Shared->Prop}{s:Shared}
end
section
variable{X:Cx}{pos:Pos}
end
end L2
namespace L2
open PySem PySem.Spec PyProof.Rows
abbrev i3(P:Program)(w:World)(K:W.Frag)(mg:Str->Option Value)(base:Heap)(qual:Str)(st:Stmt)(N:List Str)(k:Nat)(sp:Sp):Prop:=
 ∀(f:Addr)(cdv:Value)(A:Around)(outer:List Env)(s:Shared)(H:Hp)(vs:List V)(Q:VK)(E:XK),Room k (A.deeper (envOfC qual (aH st) s.heap.objs.size f cdv))->sp vs H Q E->
  ∃t,PSs (bF CX0 P w K mg base N qual (aH st) f cdv A outer s H E).nox (cE st) t/\t {nx:=λ_ H'=>Q .non H',rt:=Q} (eG N vs) H
end L2
namespace L2
open PySem PySem.Spec PyProof.Rows
section
variable{prog:Program}{w:World}{A:Around}{E:Value->Shared->Prop}{h:Heap}{g:Array GenState}{d:Drawn}{t:Nat}{os:OsState}
variable{nm q:Str}{C N:Addr}{bs bm bmB:List Value}{hdct:Bool}{sn:List Str}{sub:List Value}{ab:Bool}{col:Option Bool}{dd:Option Addr}{k0 k1 k2 k3 k5:Option Value}{B newId initId:String}
def type_call_initT(F:ExcBaseFacts B newId initId bmB)(T:OwnTail h bmB bm){rest:List Value}
  (hC:h.get? C=some (excClassObj nm q C N bs bm hdct sn sub ab col dd k0 k1 k2 k3 k5 newId))(hn:h.Ns N mN)(hi:mN "__init__"=some (.ref fI))
  (hfI:h.get? fI=some oI)(hfc:oI.cls=.type "function")
  (hq:∀h' e,Heap.MadeExcOf h h' e (.ref C) rest->
   wpAny (model prog w) A (call (.ref fI) (.ref e::rest)) (λr s'=>r=.none/\Q (.done (.ret (.ref e))) s') E #[h',g,d,t,os])(hrest:rest.length<=sizeLine:=by size_fits):
  wpAny (model prog w) A (Builtin.«type.__call__» #[.ref C::rest,[]]) Q E #[h,g,d,t,os]:=by
 repeat(first|with_reducible refine wpAny_loadPart_at hC ?_|with_reducible refine wpAny_madeBy_exc hC ?_|wp_step)
 refine codeAny_call_builtin_code (Code.quiet_builtin _ F.quiet) (wpAny_check_new_subT F T hC ?_);refine codeAny_exc_new_subT F T hC ?_ hrest;show wpAny _ _ _ _ _ _
 have c:=jG {cls:=.ref C,data:=.fields (List.toArray [.ref h.objs.size,.none,.none,.none,.bool false,.none])}
  (jG {cls:=.type "tuple",data:=.seq rest.toArray} hC)
 have i:=jG {cls:=.ref C,data:=.fields (List.toArray [.ref h.objs.size,.none,.none,.none,.bool false,.none])}
  (jG {cls:=.type "tuple",data:=.seq rest.toArray} hfI)
 have j:((h.push {cls:=.type "tuple",data:=.seq rest.toArray}).push {cls:=.ref C,data:=.fields (List.toArray [.ref h.objs.size,.none,.none,.none,.bool false,.none])}).Ns N mN:=
  let⟨o,es,ep,e,r⟩:=hn;#[o,es,ep,jG _ (jG _ e),r]
 have a:((h.push {cls:=.type "tuple",data:=.seq rest.toArray}).push
   {cls:=.ref C,data:=.fields (List.toArray [.ref h.objs.size,.none,.none,.none,.bool false,.none])}).get? (h.objs.size+1)=some
   {cls:=.ref C,data:=.fields (List.toArray [.ref h.objs.size,.none,.none,.none,.bool false,.none])}:=by heap_get
 have l:(Value.ref C::bm).contains (.ref C)=true:=by simp
 have u:=T.keeps (h':=(h.push {cls:=.type "tuple",data:=.seq rest.toArray}).push {cls:=.ref C,data:=.fields (List.toArray [.ref h.objs.size,.none,.none,.none,.bool false,.none])})
  λb o e=>jG _ (jG _ e)
 unfold isInstance
 repeat(first|with_reducible refine wpAny_loadPart_at a ?_|(with_reducible refine wpAny_isSubtype_exc c ?_;rw[l])|wp_step)
 show wpAny _ _ (typeLookup (.ref C) _) _ _ _;refine wpAny_typeLookup_tail c j u F.mroIs F.init.lookup ?_;rw[hi];refine wpAny_holding (jD ?_);unfold bindSpecial;refine jD (wpAny_typeOf (T:="function") #[_,i,hfc] ?_);rw[if_pos (by decide)];refine jN (jD (kr (hq _ (h.objs.size+1) #[λb o m=>jG _ (jG _ m),lg (Nat.le_succ _),h.objs.size,a,lg (jJ _),?_]) (λr s' s=>?_) λ_ _ x=>x))
 ·exact jG _ (Heap.get?_push_at rfl rfl)
 ·let#[8,p]:=s
  wp_walk
  exact p
def call_initT(F:ExcBaseFacts B newId initId bmB)(T:OwnTail h bmB bm){rest:List Value}
  (hC:h.get? C=some (excClassObj nm q C N bs bm hdct sn sub ab col dd k0 k1 k2 k3 k5 newId))(hn:h.Ns N mN)(hi:mN "__init__"=some (.ref fI))
  (hfI:h.get? fI=some oI)(hfc:oI.cls=.type "function")
  (hq:∀h' e,Heap.MadeExcOf h h' e (.ref C) rest->
   wpAny (model prog w) (A.under (.builtin "type.__call__" #[.ref C::rest,[]])) (call (.ref fI) (.ref e::rest)) (λr s'=>r=.none/\Q (.ref e) s') E #[h',g,d,t,os])(hrest:rest.length<=sizeLine:=by size_fits):
  wpAny (model prog w) A (call (.ref C) rest) Q E #[h,g,d,t,os]:=by
 have i:=tc_lookup;have b:=tc_bind (.ref C);have c:(#[h,g,d,t,os]:Shared).TypeIs (.ref C) "type":=#[_,hC,8];refine wpAny_call (codeAny_of_tree ?_);show wpAny _ _ (callAny (.ref C) _) _ _ _
 repeat(any_goals(first|assumption|with_reducible refine wpAny_loadPart_at hC ?_|wp_step))
 refine#[8,?_];refine codeAny_call_builtin_at (Code.quiet_builtin _ (by decide+kernel)) entry_typeCall (wpAny_check_type_call_sub hC (type_call_initT (hrest:=hrest) F T hC hn hi hfI hfc λh' e a=>?_));exact hq h' e a
end
end L2
namespace L2
open PySem PySem.Spec PyProof.Rows
open Builtin Builtin.ObjectAttr
section
def refuse_bmV(self:Value):refuseLoop self "__setattr__" bmV=pure Unit.unit:=by kernel_rfl
structure ExI(K:W.Frag)(C:Addr):Prop where
 cl:∃(cd:ClassData)(tl:List Addr),PySem.W.clsIn K C=some cd/\cd.mro=tl.map Value.ref++bmV/\cd.hasDict=true
 sa:PySem.W.findIn K (.ref C) "__setattr__"=some (some (.builtin "object.__setattr__"))
def refuse_tail(self:Value):∀tl:List Addr,refuseLoop self "__setattr__" (tl.map Value.ref++bmV)=pure Unit.unit
 |[]=>refuse_bmV self
 |a::tl=>by
  rw[kz,List.cons_append,refuseLoop_ref];exact refuse_tail self tl
variable{prog:Program}{w:World}{A:Around}{E:Value->Shared->Prop}{s:Shared}{K:W.Frag}{x C:Addr}{o:Obj}{od:Option Obj}{name:Str}{v:Value}
def exc_open{tk:Tok}{R:Result->Shared->Prop}(X:K.In s.heap)(I:PySem.W.InstAt s.heap x o C od)(F:ExI K C)(n:NoAttr K C name)
  (h:∀b,wpAny (model prog w) A.in1 (storeInOwnDict (.ref x) (.ref C) (.str name tk) name v b)
   (λfin s'=>match fin with|.done f=>R (.ok f) s'|.again c'=>c'.quiet=true/\codeAny (model prog w) A c' R s') (λe s'=>R (.error e) s') s):
  codeAny (model prog w) A (.call (.builtin "object.__setattr__") #[[.ref x,.str name tk,v],[]]) R s:=by
 have d:=PySem.F.store_object;let#[m,y,q,p,hd]:=F.cl;have l:m.mro.contains (.type "object")=true:=by rw[p];simp
 have ne:m.mro.isEmpty=false:=by rw[p];simp
 have sub:PySem.W.Looks (model prog w) s.heap (isInstance (.ref x) (.type "object")) true:=I.type.andThen (PySem.W.looks_mroIn X (by unfold PySem.W.mroIn;rw[q,Option.bind_some,if_neg (by rw[ne];decide),l]));refine codeAny_call_builtin d.slot.plain d.entry (@PySem.W.check_slot (model prog w) _ _ s "object.__setattr__" "object" "__setattr__" (.ref x) [.str name tk,v] [] _ d.kind d.split sub (d.args (.ref x) (.str name tk) v) ?_);let#[c,u,i]:=Option.bind_eq_some_iff.mp n.taker;have j:PySem.W.Looks (model prog w) s.heap (mroOf (.ref C)) m.mro:=(PySem.W.looks_clsIn X q).andThen .now
 have t:PySem.W.Looks (model prog w) s.heap (storeTaker? c) none:=by
  cases c with
  |none=>cases i;exact .now
  |some a=>
   let#[b,r,i]:=kq.mp i;refine(PySem.W.looks_takesIn X r).andThen ?_
   cases b with
   |true=>cases i
   |false=>exact .now
 rw[PySem.W.osa_eq,refuse_eq];refine jD (jD (I.type.here (jD (j.here ?_))));rw[p,refuse_tail];refine jN (jD (I.type.here (jD ((PySem.W.looks_findIn X u).here (jD (t.here ?_))))));exact h _
def exc_set0(X:K.In s.heap)(F:ExI K C)(n:NoAttr K C name)(hx:s.heap.get? x=some o)(hc:o.cls=.ref C)(hnc:∀c,o.data≠.cls c)(hdn:o.dict=none)
  (hq:∀h' tk',h'.get? x=some {cls:=o.cls,dict:=some s.heap.objs.size,data:=o.data,slots:=o.slots}->h'.Ns1 s.heap.objs.size (λy=>if y=name then some v else none)->
   (∀b ob,b≠x->s.heap.get? b=some ob->h'.get? b=some ob)->Q Unit.unit {s with heap:=h',toks:=tk'}):
  wpAny (model prog w) A (setAttr (.ref x) name v) Q E s:=by
 have l:PySem.W.notCls o=true:=by
  unfold PySem.W.notCls
  split
  ·rename_i c e;exact absurd e (hnc c)
  ·rfl
 have I:PySem.W.InstAt s.heap x o C none:=#[hx,hc,l,by rw[hdn];trivial];refine PySem.W.set_plain X I F.sa (exc_open (s:={s with toks:=s.toks+1}) X I F n λb=>?_);let#[R,P,r,S,hd]:=F.cl;let#[h,g,d,t,Z]:=s;dsimp only at hx X hq;have j:(h.push {cls:=.type "dict",data:=.dict (List.toArray [])}).get? x=some o:=jG _ hx;have a:x≠h.objs.size:=km (jO hx);unfold storeInOwnDict ownDictForStores instanceDict;refine jD (jN (jD (jD (wpAny_loadPart hx ?_))));rw[hc];refine jD ((PySem.W.looks_clsIn X r).at ?_);rw[hd,hdn];simp only[Bool.not_true,lF,if_false];have B:typeHasDict (.ref C)=true:=by simp[typeHasDict]
 rw[B];simp only[Bool.not_true,Bool.or_self,lF,if_false];refine jD (wpAny_alloc' (jD (wpAny_update' j (jN ?_))))
 have m:((h.push {cls:=.type "dict",data:=.dict (List.toArray [])}).update x λo=>{cls:=o.cls,dict:=some h.objs.size,data:=o.data,slots:=o.slots}).get? h.objs.size
   =some {cls:=.type "dict",data:=.dict (List.toArray [])}:=
  (Heap.get?_update_ne _ _ _ _ a.symm).trans (Heap.get?_push_at rfl rfl)
 have hnd:((h.push {cls:=.type "dict",data:=.dict (List.toArray [])}).update x λo=>{cls:=o.cls,dict:=some h.objs.size,data:=o.data,slots:=o.slots}).Ns h.objs.size (λ_=>none):=
  #[_,(List.toArray []),_,m,8,λe L=>absurd L (by simp),λ_=>rfl]
 show wpAny _ _ (storeInDict h.objs.size (.str name t) name v) _ _ _;unfold storeInDict newKeyGuard;refine jD (jN (jD (wpAny_nsSet1 (Heap.Ns1.of_empty hnd) λh' i J=>?_)));let#[U,M,O,G,u,q]:=i.count (Within.cons name v Within.nil);refine jD (wpAny_lookBehind G (by rw[u];exact pastItsLine_dict (jK q (by rw[jU,List.length_nil,sizeLine_eq];lia))) ?_);refine jN (hq h' _ ?_ i (λb ob p H=>?_))
 ·refine(J.2 x a).trans (kZ _ j ?_);have z:=(Heap.get?_some_iff.mp hx).2;let#[Y,T,D,N]:=o
  cases D<;>first|rfl|exact z
 ·exact(J.2 b (km (jO H))).trans ((Heap.get?_update_ne _ _ _ _ p).trans (jG _ H))
def exc_base_init{rest:List Value}
  (F:ExcBaseFacts B newId initId bmB)(T:OwnTail s.heap bmB bm)(hC:s.heap.get? C=some (excClassObj nm q C N bs bm hdct sn sub ab col dd k0 k1 k2 k3 k5 newId))(he:s.heap.get? e=some #[.ref C,de,.fields (List.toArray [.ref t0,.none,.none,.none,.bool false,.none]),(List.toArray [])])
  (hq:∀h' t1,h'.get? e=some #[.ref C,de,.fields (List.toArray [.ref t1,.none,.none,.none,.bool false,.none]),(List.toArray [])]->(∀b ob,b≠e->s.heap.get? b=some ob->h'.get? b=some ob)->Q .none {s with heap:=h'})(hrest:rest.length<=sizeLine):
  wpAny (model prog w) A (call (.builtin initId) (.ref e::rest)) Q E s:=by
 let#[h,g,d,t,c]:=s;dsimp only at hC he hq T;refine wpAny_call (codeAny_call_builtin F.init.plain F.initEntry (wpAny_check_init_subT F T hC he rfl ?_))
 wp_walk
 refine hq _ h.objs.size ?_ λb ob a e=>?_
 ·rw[kZ _ (jG _ he) rfl];rfl
 ·rw[kA _ _ (k7 a)];exact jG _ e
def iT(hbase:bm.contains (.type "BaseException")=true)(hh:A.handled=none)
  (h:wpAny M A y (λv s₁=>∃e t de,v=.ref e/\s₁.heap.get? C=some (excClassObj nm q C N bs bm hdct sn sub ab col dd k0 k1 k2 k3 k5 newId)/\
   s₁.heap.get? e=some #[.ref C,de,.fields (List.toArray [.ref t,.none,.none,.none,.bool false,.none]),(List.toArray [])]/\E (.ref e) s₁) E s):
  wpAny M A (raiseStmt env (some y) none) Q E s:=by
 have a:(Value.ref C::bm).contains (.type "BaseException")=true:=by rw[List.contains_cons,hbase,Bool.or_true]
 unfold raiseStmt;refine jD (kr h (λv s₁ c=>?_) λ_ _ x=>x);let#[e,t,de,8,b,j,i]:=c;let#[o,g,d,m,l]:=s₁
 repeat(first|with_reducible refine wpAny_loadPart_at j ?_|with_reducible refine wpAny_loadPart_at b ?_|(with_reducible refine wpAny_isSubtype_exc b ?_;rw[a])|wp_step)
 exact wpAny_raiseNew_none hh i
abbrev excFI(K:W.Frag)(C:Addr)(bmB:List Value)(newId:String):Option Addr:=match K.lookup C with
 |some ⟨.type "type",_,.cls cd,sl⟩=>(match cd.mro,sl.toList with
  |.ref C'::bm,[_,_,_,_,some (.builtin n),_]=>if(C'==C&&n==newId&&!cd.hasDel&&PySem.W.tailIn K bmB bm&&PySem.W.nsOkIn K cd.ns)=true then(match PySem.W.nsIn K cd.ns "__init__"with|some (some (.ref f))=>some f|_=>none)else none
  |_,_=>none)
 |_=>none
def ns_of(X:K.In h)(G:h.Ns N mg)(e:PySem.W.nsIn K N n=some (some v)):mg n=some v:=by
 let#[o,m,s,b,hd,_,a]:=G;unfold PySem.W.nsIn at e
 split at e
 ·rename_i c d j r p q
  have:=X _ _ q
  rw[b]at this
  cases this
  cases hd
  split at e
  ·rename_i l i
   cases e;rw[<-a];unfold nsFind findBy;rw[<-Array.find?_toList,i];rfl
  ·split at e<;>cases e
 ·cases e
def exc_objI(X:K.In h)(q:excFI K C bmB newId=some f):
  ∃bm N nm qn bs hd sn sub ab col dd k0 k1 k2 k3 k5 mN,h.get? C=some (excClassObj nm qn C N bs bm hd sn sub ab col dd k0 k1 k2 k3 k5 newId)/\h.Ns N mN/\mN "__init__"=some (.ref f)/\OwnTail h bmB bm:=by
 unfold excFI at q
 split at q
 case h_2=>cases q
 case h_1 dd cd sl lk=>
  split at q
  case h_2=>cases q
  case h_1 C' bm k0 k1 k2 k3 n k5 hm c=>
   split at q
   case isFalse=>cases q
   case isTrue hq=>
    simp only[lG,beq_iff_eq,Bool.not_eq_true']at hq;let#[#[#[#[m,d],a],e],b]:=hq;subst m d
    split at q
    case h_2=>cases q
    case h_1 f' hi=>
     cases q;let#[nm,bs,j,i,qn,hd,sn,sub,ab,col,del]:=cd;dsimp only at hm a b hi;subst hm a;let#[l]:=sl;have c:l=_:=c;subst c;exact#[bm,i,nm,qn,bs,hd,sn,sub,ab,col,dd,k0,k1,k2,k3,k5,_,X _ _ lk,.of_isNs (PySem.W.isNs_of_in X b),ns_of X (.of_isNs (PySem.W.isNs_of_in X b)) hi,PySem.W.tail_of_in X e]
end
end L2
namespace L2
open PySem PySem.Spec PyProof.Rows
section
variable{prog:Program}{w:World}{A:Around}{E:Value->Shared->Prop}{s:Shared}{env:Env}
variable{nm q:Str}{C N:Addr}{bs bm bmB:List Value}{hdct:Bool}{sn:List Str}{sub:List Value}{ab:Bool}{col:Option Bool}{dd:Option Addr}{k0 k1 k2 k3 k5:Option Value}{B newId initId:String}
def Raise_call_initT(F:ExcBaseFacts B newId initId bmB)
  (hbase:bm.contains (.type "BaseException")=true)(hh:A.handled=none)(hplain:(backTo cpos (starEach args env)).any (·.1)=false)(hi:mN "__init__"=some (.ref fI))(hfc:oI.cls=.type "function")
  (h:wpAny (model prog w) A (eval (.Name x np) env) (λf s₁=>f=.ref C/\wpAny (model prog w) A (evalArgs (.ref C) true (backTo cpos (starEach args env)) [])
   (λa s₂=>a.kw=[]/\a.pos.length<=sizeLine/\s₂.heap.get? C=some (excClassObj nm q C N bs bm hdct sn sub ab col dd k0 k1 k2 k3 k5 newId)/\s₂.heap.Ns N mN/\OwnTail s₂.heap bmB bm/\s₂.heap.get? fI=some oI/\
    ∀h' e,Heap.MadeExcOf s₂.heap h' e (.ref C) a.pos->wpAny (model prog w) (A.under (.builtin "type.__call__" #[.ref C::a.pos,[]])) (call (.ref fI) (.ref e::a.pos))
     (λr s'=>r=.none/\(∃t de,s'.heap.get? C=some (excClassObj nm q C N bs bm hdct sn sub ab col dd k0 k1 k2 k3 k5 newId)/\s'.heap.get? e=some #[.ref C,de,.fields (List.toArray [.ref t,.none,.none,.none,.bool false,.none]),(List.toArray [])])/\E (.ref e) s') E {s₂ with heap:=h'}) E s₁) E s):
  wpAny (model prog w) A (exec (.Raise (some (.Call (.Name x np) args [] cpos)) none pos) env) Q E s:=by
 rw[arm_exec_Raise]
 first
  |refine jD (lH (iT (C:=C) (nm:=nm) (q:=q) (N:=N) (bs:=bs) (bm:=bm) (hdct:=hdct) (sn:=sn) (sub:=sub) (ab:=ab) (col:=col) (dd:=dd) (k0:=k0) (k1:=k1) (k2:=k2) (k3:=k3) (k5:=k5) (newId:=newId) hbase hh (jD (kr (wpAny_Call_ofName (kr h (λf s₁ c=>?_) λ_ _ x=>x)) (λv p i=>jD (lH (jN i))) λ_ _ x=>x))))
  |(simp only[evalOpt,Option.map];refine jD (lH (iT (C:=C) (nm:=nm) (q:=q) (N:=N) (bs:=bs) (bm:=bm) (hdct:=hdct) (sn:=sn) (sub:=sub) (ab:=ab) (col:=col) (dd:=dd) (k0:=k0) (k1:=k1) (k2:=k2) (k3:=k3) (k5:=k5) (newId:=newId) hbase hh (jD (kr (wpAny_Call_ofName (kr h (λf s₁ c=>?_) λ_ _ x=>x)) (λv p i=>jD (lH (jN i))) λ_ _ x=>x)))))
  |(refine jD (lH (iT (C:=C) (nm:=nm) (q:=q) (N:=N) (bs:=bs) (bm:=bm) (hdct:=hdct) (sn:=sn) (sub:=sub) (ab:=ab) (col:=col) (dd:=dd) (k0:=k0) (k1:=k1) (k2:=k2) (k3:=k3) (k5:=k5) (newId:=newId) hbase hh ?_));refine jD (kr (wpAny_Call_ofName (kr h (λf s₁ c=>?_) λ_ _ x=>x)) (λv p i=>jD (lH (jN i))) λ_ _ x=>x))
 let#[8,c]:=c;unfold callWith;refine jD (wpAny_holding (kr c (λa s₂ j=>jD (lH ?_)) λ_ _ x=>x));let#[o,m]:=a;let#[l,b,u,y,T,G,j]:=j;obtain rfl:m=[]:=l;let#[K,g,d,I,J]:=s₂;simp only[hplain];refine jD (wpAny_keeperOf_exc u ?_);refine jD (call_initT (hrest:=b) F T u y hi G hfc λh' e D=>kr (j h' e D) (λr s' z=>?_) λ_ _ z=>z);let#[8,#[t,de,g1,H],z]:=z;exact#[8,jD (wpAny_holding (wpAny_point (jN #[e,t,de,8,g1,H,z])))]
end
abbrev XI(e C:Addr)(d:Option Addr):HO:=.ext λh=>∃t,h.get? e=some #[.ref C,d,.fields (List.toArray [.ref t,.none,.none,.none,.bool false,.none]),(List.toArray [])]
abbrev del(H:Hp)(e:Addr):Hp:=λb=>if b=e then none else H b
section
variable{X:Cx}{pins:List (Addr×Obj)}{σ:St}{H:Hp}{s:Shared}{x:Addr}
def XI.ok(e:h.get? x=some #[.ref C,d,.fields (List.toArray [.ref t,.none,.none,.none,.bool false,.none]),(List.toArray [])]):ObjOk P w H h x (XI x C d):=
 #[#[t,e],#[_,e],(by rintro _ _⟨b,a⟩k;exact#[b,k _ a])]
def Inv.forget(I:Inv X pins σ H s)(hx:H x=some (.ext φ)):Inv X pins σ (del H x) s:=by
 have h:∀b,H b=none->del H x b=none:=λb e=>by unfold del;split;rfl;exact e
 have d:∀b u,H b=some u->(∀φ,u≠.ext φ)->del H x b=some u:=λb u e ne=>by
  unfold del;rw[if_neg]
  ·exact e
  ·rintro rfl;rw[hx]at e
   cases e;exact ne _ rfl
 refine#[I.ok,I.os,I.bare,#[I.base.keep,I.base.slot,λb u e n hx=>h b (I.base.free b u e n hx),I.base.there,λb i e=>d b _ (I.base.tups b i e) (by nofun),λb u v e=>d b _ (I.base.frzs b u v e) (by nofun),λb ps e=>?_],
  I.loc,I.cell,h _ I.free,λy c e=>h _ (I.freeC y c e),λp l=>?_,λb u e=>?_,I.len]
 ·let#[a,q]:=I.base.tbls b ps e;exact#[a,d b _ q (by nofun)]
 ·let#[e,n,r]:=I.pin p l;exact#[e,h _ n,r]
 ·have j:H b=some u:=by
   unfold del at e
   split at e
   ·cases e
   ·exact e
  exact(I.hok b u j).stay (λ_ _ _ q=>q) (λc q=>d c _ q (by nofun)) λc i q=>d c _ q (by nofun)
end
end L2
namespace L2
open PySem PySem.Spec PyProof.Rows
abbrev XiB(P:Program)(w:World)(K:W.Frag)(mg:Str->Option Value)(base:Heap)(C:Addr)(k:Nat)(ps:List Str)(sp:Sp):Prop:=
 ∃f fd,excFI K C bmV "ValueError.__new__"=some f/\PySem.W.typeIn K (.ref f)=some (.type "function")/\Binds K fd ps []/\FnOk P w K mg base CX0 k f fd ps sp
section
variable{X:Cx}{E:XK}
abbrev tRaiseI(C:Addr)(sp:Sp)(E:XK)(t:TA):TS:=λ_ σ H=>t σ H λvs H1=>vs.length<=sizeLine/\
 ∀e,H1 e=none->sp ((.ref e::vs)++[]) (upd H1 e (XI e C none)) (λv H2=>v=.non/\∃d,H2 e=some (XI e C d)/\E (.ref C) d (del H2 e)) E0
def ps_raiseI(hxe:XOut X E)(hex:X.ex=[])(hr:Room j X.A)(hg:Gl X x)(hm:X.mg x=some (.ref C))
  (O:XiB X.prog X.w X.K X.mg X.base C k ps sp)(ha:PA X (e::es) t)(hj:k+1<=j:=by decide)(he:starEach (e::es) X.env=(false,eval e X.env)::starEach es X.env:=by rfl)(hpl:(backTo cpos (starEach es X.env)).any (·.1)=false:=by rfl)
  (hd:(x==("__debug__":Str))=false:=by decide):PS X (.Raise (some (.Call (.Name x np) (e::es) [] cpos)) none pos) (tRaiseI C sp E t):=by
 intro a s σ H D I h;let#[f,fd,L,o,hb,F]:=O;let#[bm,N,nm,qn,bs,B,sn,sub,ab,col,dd,k0,k1,k2,k3,k5,mN,R,hN,hi,T]:=exc_objI I.ok.mod.kin L;let#[oI,K,A]:=kq.mp o
 refine Raise_call_initT (C:=C) (nm:=nm) (q:=qn) (N:=N) (bs:=bs) (bm:=bm) (hdct:=B) (sn:=sn) (sub:=sub) (ab:=ab) (col:=col) (dd:=dd) (k0:=k0) (k1:=k1) (k2:=k2) (k3:=k3) (k5:=k5)
  PySem.F.excBase_ValueError (mN:=mN) (fI:=f) (oI:=oI) (T.hasType rfl) hr.hd (by rw[he];show(false||(backTo cpos (starEach es X.env)).any (·.1))=false;rw[hpl];rfl) hi A (dU I hg hm #[8,?_] hd)
 have m:=ha cpos a s σ H _ I h;rw[he]at m⊢;refine Calls.evalArgs_plain (thn m λi Q⟨vs,H1,c,r,Z,q⟩=>#[8,by rw[<-r.length];exact Z,c.bk _ _ R,hN.keeps c.bk,T.keeps c.bk,c.bk _ _ (I.ok.mod.kin _ _ K),λh' y l=>?_]);let#[t',g1,_,_]:=l.there;have U:=c.hok.noObj l.new;have J:Inv X a σ (upd H1 y (XI y C none)) {Q with heap:=h'}:=(c.kept (t':=Q.toks) l.keeps).track U (c.off hex l.new) (XI.ok g1);have M:=q y U;have Y:Vals ((V.ref y::vs)++[]) ((Value.ref y::i)++[]):=Vals.append (.cons rfl r) .nil;have G:((Value.ref y::i)++[]).length=ps.length:=by rw[<-Y.length];exact F.len _ _ _ _ M
 refine wpAny_call (codeAny_mono (F.run _ X.stack _ _ #[Value.ref y::i,[]] _ _ _ E0 ((hr.mono hj).make C i []) (J.env0.make C i []) (hb _ (Value.ref y::i) J.kIn G) Y M) λr s' b=>?_)
 cases r with
 |error e=>exact False.elim b
 |ok fl=>
  cases fl with
  |ret u=>
   let#[v,P,p,rv,ev,d,S,q3]:=J.after b;subst ev;let#[#[t2,W],_]:=(show ObjOk X.prog X.w P s'.heap y (XI y C d) from p.hok y _ S);refine#[rv,#[t2,d,p.bk _ _ R,W],?_];refine hxe a σ _ _ #[y,.ref C,d,del P y,8,p.forget S,#[by unfold del;rw[if_pos rfl],c.off hex l.new,_,_,none,W,8,λT z=>by cases z],q3]
  |next=>exact False.elim b
  |brk=>exact False.elim b
  |cont=>exact False.elim b
end
end L2
namespace L2
open PySem PySem.Spec PyProof.Rows
section
variable{X:Cx}{e e1 e2 value:Expr}{es:List Expr}{pos apos np pos':Pos}{t:TA}{ta tv t1 t2:TE}{x f:Str}{G:Addr}
def upd_id(h:H a=some o):upd H a o=H:=by
 funext b
 by_cases hb:b=a
 ·subst hb;rw[aC,h]
 ·rw[aG hb]
abbrev tBI(K:W.Frag)(t:TA):TE:=λσ H Q=>t σ H λvs H1=>∃e C d rest f,vs=.ref e::rest/\H1 e=some (XI e C d)/\excFI K C bmV "ValueError.__new__"=some f/\rest.length<=sizeLine/\Q .non H1
def pe_binit(cr:ClsRd X.K G)(hf:PySem.W.findCls X.K (.ref G) (.type "type") "__init__"=some (.val (.builtin "ValueError.__init__")))(hm:X.mg x=some (.ref G))(ha:PA X (e::es) t)(hg:Gl X x:=by rfl)(hdb:(x==("__debug__":Str))=false:=by decide)
  (hst:starEach (e::es) X.env=(false,eval e X.env)::starEach es X.env:=by rfl)(hpl:(backTo pos (starEach es X.env)).any (·.1)=false:=by rfl)
  (ht:eval (.Call (.Attribute (.Name x np) "__init__" apos) (e::es) [] pos) X.env=(do
   let ov<-eval (.Name x np) X.env
   standAt apos.atName
   let(f,first)<-holding [ov] (getMethod ov "__init__" pl)
   callWith pos f first (backTo pos (starEach (e::es) X.env)) (backToKw pos (keywordEach [] X.env))):=by rfl):PE X (.Call (.Attribute (.Name x np) "__init__" apos) (e::es) [] pos) (tBI X.K t):=by
 intro a s σ H Q I h;refine lA (pl:=pl) (dU I hg hm ?_ hdb) ht;refine PySem.W.method_cls I.kIn cr.sg (PySem.W.cls_value I.kIn cr.rd hf (by decide+kernel) ?_);have B:=I.tok (s.toks+1);refine PyProof.Rows.callWith_builtin1 (thn (ha pos a _ σ H _ B h) λus l⟨Y,j,i,r,u⟩=>?_) hst hpl;let#[y,C,d,rest,fi,8,b,c,m,q]:=u
 cases r with
 |cons r2 r3=>
  cases r2;let#[O,N,nm,M,bs,v,S,sub,R,D,Z,U,k1,K,k3,P,E,z,hN,hi,T]:=exc_objI i.kIn c;let#[#[L,p],_]:=(show ObjOk X.prog X.w j l.heap y (XI y C d) from i.hok y _ b);refine exc_base_init PySem.F.excBase_ValueError T z p (λh' t1 g1 A=>?_) (by rw[<-r3.length];exact m);have J:=i.write (t':=l.toks) (x:=y) (e:=y) (o:=XI y C d) (by rw[b];exact True.intro) (.inl rfl) A #[_,g1] (XI.ok g1);rw[upd_id b]at J;exact#[.non,j,J,8,q]
abbrev tJ2(t1 t2:TE):TE:=λσ H Q=>t1 σ H λx H1=>∃a,x=.str a/\a.length<=sizeLine/\t2 σ H1 λy H2=>∃b,y=.str b/\a.length+b.length<=sizeLine/\Q (.str (a++b)) H2
def pe_j2(h1:PE X e1 t1)(h2:PE X e2 t2):PE X (.JoinedStr [e1,e2] pos) (tJ2 t1 t2):=by
 intro c s σ H Q I h;refine JoinedStr_many (joinParts_cons (thn (h1 c s σ H _ I h) λu r⟨x,l,j,i,a,ex,z,q⟩=>?_));subst ex;let#[t,8]:=i;refine#[by rw[Str.empty_append];exact z,joinParts_cons (thn (h2 c r σ l _ j q) λu A⟨y,w,v,m,b,p,o,e⟩=>?_)];subst p;let#[B,8]:=m;have d:((Str.empty++a)++b).length<=sizeLine:=by rw[Str.empty_append,strLen_append];exact o
 refine#[d,joinParts_nil ?_ d];rw[Str.empty_append];exact#[.str _,w,v.tok _,#[9],e]
abbrev tFv(tv:TE):TE:=λσ H Q=>tv σ H λx H1=>∃z,x=.str z/\z.length<=sizeLine/\Q (.str z) H1
def pe_fv(h:PE X value tv):PE X (.FormattedValue value (-1) none pos) (tFv tv):=by
 intro a s σ H Q I b;refine FormattedValue_plain (thn (h a s σ H _ I b) λu l⟨x,e,d,c,z,ex,i,q⟩=>?_);subst ex;let#[t,8]:=c;exact formatField_str (λm j=>#[.str z,e,d.tok j,#[9],q]) i
abbrev sXf(K:W.Frag)(ta tv:TE)(f:Str):TS:=λD σ H=>tv σ H λy H1=>ta σ H1 λx H2=>∃a C,x=.ref a/\H2 a=some (XI a C none)/\ExI K C/\NoAttr K C f/\
 ∀dx,H2 dx=none->D.nx σ (upd (upd H2 a (XI a C (some dx))) dx (.xd [(f,y)]))
def ps_xfld(ha:PE X o ta)(hv:PE X value tv)(hs:swapsWith value (some (.Attribute o f pos')) pos.line X.env=pure false)(hex:X.ex=[]:=by rfl):PS X (.Assign [.Attribute o f pos'] value pos) (sXf X.K ta tv f):=by
 intro b s σ H D I h;refine plainObj_wpAny_Assign_Attribute (thn (hv b s σ H _ I h) λu v⟨y,r,G,L,q⟩=>thn (ha b v σ r _ G q) λM d⟨x,p,i,F,a,C,ex,m,c,n,E⟩=>?_) hs;subst ex;obtain rfl:M=Value.ref a:=F;let#[#[N,t],_]:=(show ObjOk X.prog X.w p d.heap a (XI a C none) from i.hok a _ m);refine exc_set0 i.kIn c n t rfl (by nofun) rfl λO l g1 K A=>?_;have j:p d.heap.objs.size=none:=i.hok.fresh (jJ _);have ne:d.heap.objs.size≠a:=λz=>by rw[z,m]at j;cases j
 have J:=i.write (t':=l) (x:=a) (e:=a) (o:=XI a C (some d.heap.objs.size)) (by rw[m];exact True.intro) (.inl rfl) A #[_,g1] (XI.ok g1);have B:=J.track (x:=d.heap.objs.size) (o:=.xd [(f,y)]) (by rw[aG ne];exact j) (i.off hex (lg (jJ _))) #[_,K,λg=>?_]
 ·exact#[σ,_,B,E _ j]
 ·show RelO (List.lookup g [(f,y)]) (if g=f then some u else none);rw[kC];by_cases h:g=f
  ·rw[if_pos h,show(g==f)=true from beq_iff_eq.mpr h];exact L
  ·rw[if_neg h,show(g==f)=false from kX.mpr h];exact True.intro
abbrev tXf(K:W.Frag)(ta:TE)(f:Str):TE:=λσ H Q=>ta σ H λx H1=>∃a C dx fs v,x=.ref a/\H1 a=some (XO a C (some dx))/\H1 dx=some (.xd fs)/\ExA K C/\PySem.W.hasDictIn K C=true/\PySem.W.findIn K (.ref C) f=some none/\fs.lookup f=some v/\Q v H1
def pe_xfld(he:PE X e ta)(hb:attributeBase e f X.env (eval e X.env)=eval e X.env):PE X (.Attribute e f pos) (tXf X.K ta f):=by
 intro b s σ H Q I h;refine attr_of hb (thn (he b s σ H _ I h) λu i⟨x,p,d,T,a,C,j,fs,v,ex,O,P,c,hd,N,l,q⟩=>?_);subst ex;obtain rfl:u=Value.ref a:=T;let#[#[S,Y,L],_]:=(show ObjOk X.prog X.w p i.heap a (XO a C (some j)) from d.hok a _ O);let#[mA,U,r]:=(show ObjOk X.prog X.w p i.heap j (.xd fs) from d.hok j _ P);let#[z,M,G]:=lookIn_ns U;let#[u,Z,E]:=RelO.some_of (v:=v) (o:=mA f) (by rw[<-l];exact r f);have J:PySem.W.InstAt i.heap a #[.ref C,some j,.fields S,Y] C (some z):=#[L,8,8,M];have m:PySem.W.findObj X.K C (some z) f=some (.value u):=PySem.W.findObj_own hd N rfl (by rw[G,Z]);let#[B,t,D,y,F]:=i;unfold getAttr;refine jD (wpAny_mkText ?_);exact exc_by (s:=#[B,t,D,y+1,F]) c d.kIn J (handed_of E) (λA R q=>exc_call_val (s:=#[B,t,D,y+1,F]) c d.kIn J m q) #[v,p,d.tok _,E,q]
abbrev XAtD(H:Hp)(x C:Addr)(fs:List (Str×V)):Prop:=∃dx,H x=some (XO x C (some dx))/\H dx=some (.xd fs)
def XAtD.mono{x C:Addr}(h:XAtD H x C fs)(s:Same H H'):XAtD H' x C fs:=by
 let#[dx,a,b]:=h;exact#[dx,s _ _ a,s _ _ b]
abbrev rIsXD(K:W.Frag)(c:Value):List V->Hp->VK->Prop:=λvs H Q=>∃x D y b fs,vs=[.ref x,y]/\(∀u,RelV y u->u=c)/\XAtD H x D fs/\ExA K D/\PySem.W.kitOne K (.ref D) c=some b/\Q (.bl b) H
def dZ:et X (.builtin "isinstance") (rIsXD X.K c):=by
 intro d s σ H B E Q I r h;let#[x,D,y,b,fs,8,j,#[a,u,hd],p,e,q]:=h
 cases r with
 |cons r1 r2=>
  cases r2 with
  |cons r3 r4=>
   cases r4
   have:=j _ r3
   subst this
   cases r1;let#[#[v,F,g],_]:=(show ObjOk X.prog X.w H s.heap x (XO x D (some a)) from I.hok x _ u);let#[G,i,t]:=(show ObjOk X.prog X.w H s.heap a (.xd fs) from I.hok a _ hd);let#[o,l,A]:=lookIn_ns i;exact kP (kitx_exc p) I.kIn #[_,some o,g,8,8,l] e (λz=>nomatch z) λm=>#[.bl b,H,I.tok m,8,q]
end
end L2
namespace L2
open PySem PySem.Spec PyProof.Rows
section
variable{P:Program}{w:World}{K:W.Frag}{mg:Str->Option Value}{base:Heap}{qual:Str}{C:Addr}{st:Stmt}{N ps:List Str}{k:Nat}{sp:Sp}
abbrev XiDe(K:W.Frag)(C:Addr)(qual:Str)(st:Stmt)(ps:List Str):Prop:=∃f fd,FunG K "__init__" qual st f fd/\excFI K C bmV "ValueError.__new__"=some f/\PySem.W.typeIn K (.ref f)=some (.type "function")/\Binds K fd ps []
def XiDe.ok(F:XiDe K C qual st ps)(S:FnScope N ps (aH st))(len:∀vs H Q E,sp vs H Q E->vs.length=ps.length)(hbody:i3 P w K mg base qual st N k sp):XiB P w K mg base C (k+1) ps sp:=
 let⟨f,fd,a,b,c,d⟩:=F
 #[f,fd,b,c,d,a.ok S len (hbody f)]
def XiDe.fi(F:XiDe K C qual st ps):∃f,excFI K C bmV "ValueError.__new__"=some f:=by
 let#[f,_,_,b,_]:=F;exact#[f,b]
end
end L2
namespace L2
open PySem PySem.Spec PyProof.Rows
section
variable{X:Cx}
def isPart_of(h:IsPart v i):∃l:Option (Int×Tok),v=partValue l/\l.map (·.1)=i:=by
 cases h with
 |none=>exact#[none,8,8]
 |int i t=>exact#[some (i,t),8,8]
abbrev rSlS:V->Option Int->Option Int->Hp->VK->Prop:=λx lo hi H Q=>∃z,x=.str z/\z.length<=sizeLine/\Q (.str (Txt.slice z lo hi)) H
def sl_str:SlR X rSlS:=by
 intro a s σ H x v y w r hi A Q I c j d b h;let#[z,8,i,q]:=h;let#[t,8]:=c;let#[l,8,8]:=isPart_of d;let#[u,8,8]:=isPart_of b;let#[o,m,e,hd]:=j
 exact#["str",_,F.slot_str_getitem.lookup,typeIs_str _ _ _,wpAny_getItem_str_slice (l:=l) (u:=u) (st:=none) #[o,m,e,hd] rfl
  (post_val_or_str #[jK (Txt.slice_le z _ _) i,λp k=>#[.str (Txt.slice z (l.map (·.1)) (u.map (·.1))),H,I.tok k,#[p,8],q]])]
def pe_gi(h:∃tk,X.mg x=some (.int i tk))(hg:Gl X x:=by rfl)(hd:(x==("__debug__":Str))=false:=by decide):PE X (.Name x pos) (tC (.int i)):=by
 let#[tk,h]:=h;exact cP hg h #[tk,8] hd
inductive IrEqN(K:W.Frag)(x:V)(y:V)(H:Hp)(Q:VK):Prop
 |mk(p:_)(q:_)(xs:_)(h1:x=.ref p)(h2:y=.ref q)(h3:SqL K H p xs)(h4:SqL K H q [])(h5:Q (.bl xs.isEmpty) H):IrEqN K x y H Q
abbrev rEqN(K:W.Frag):R2:=λx y H Q=>IrEqN K x y H Q
inductive IrNeN(K:W.Frag)(x:V)(y:V)(H:Hp)(Q:VK):Prop
 |mk(p:_)(q:_)(xs:_)(h1:x=.ref p)(h2:y=.ref q)(h3:SqL K H p xs)(h4:SqL K H q [])(h5:Q (.bl (!xs.isEmpty)) H):IrNeN K x y H Q
def op_eqN(hu:X.A.units<cLine):OpR X (compareOp .Eq) (rEqN X.K):=by
 intro c s σ H x y v u Q I i l h;let#[p,q,z,8,8,w,d,k]:=h
 cases i
 cases l;let#[A,r,b,B]:=I.list w;let#[D,t,a,o]:=I.list d
 cases t
 cases r with
 |nil=>exact SeqAt.eq_listAt (e:=λ_=>true) b.isList a.isList rfl hu (λj m _=>absurd m (by simp)) #[.bl true,H,I,8,k]
 |cons=>exact SeqAt.eq_list_lengthsAt b.isList a.isList (by simp) hu #[.bl false,H,I,8,k]
def pe_fldK{K:W.Frag}(hK:X.K=K)(h:PE X o ta)(hb:attributeBase o f X.env (eval o X.env)=eval o X.env):PE X (.Attribute o f pos) (tFld K ta f):=by
 subst hK;exact bE h hb
end
end L2
namespace L2
open PySem PySem.Spec PyProof.Rows
section
variable{κ:Type}[DecidableEq κ]
abbrev cR(kvs:List (κ×V))(k:κ):Option V:=(kvs.find? λkv=>decide (kv.1=k)).map (·.2)
abbrev bX(kvs:List (κ×V))(k:κ)(v:V):List (κ×V):=
 if(kvs.any λkv=>decide (kv.1=k))=true then kvs.map (λkv=>if kv.1=k then(kv.1,v)else kv)else kvs++[(k,v)]
abbrev cO(kvs:List (κ×V))(k:κ):List (κ×V):=kvs.filter λkv=>decide (kv.1≠k)
def cM{k:κ}(e:p.1=k):cR (p::r) k=some p.2:=by simp[cR,List.find?_cons,e]
def cI{k:κ}(e:¬p.1=k):cR (p::r) k=cR r k:=by simp[cR,List.find?_cons,e]
def eF(k:κ):∀kvs:List (κ×V),(kvs.any λkv=>decide (kv.1=k))=(cR kvs k).isSome
 |[]=>rfl
 |p::r=>by
  rw[List.any_cons];by_cases e:p.1=k
  ·simp only[cM e,jL e,Bool.true_or,Option.isSome_some]
  ·rw[cI e,jI e,Bool.false_or];exact eF k r
def valV_map(k j:κ)(y:V):∀kvs:List (κ×V),cR (kvs.map λkv=>if kv.1=k then(kv.1,y)else kv) j=(cR kvs j).map λx=>if j=k then y else x
 |[]=>rfl
 |p::r=>by
  have a:=valV_map k j y r;rw[kz];by_cases h:p.1=k
  ·rw[if_pos h];by_cases e:p.1=j
   ·rw[cM (p:=(p.1,y)) e,cM e,lj,if_pos (e.symm.trans h)]
   ·rw[cI (p:=(p.1,y)) e,cI e,a]
  ·rw[if_neg h];by_cases e:p.1=j
   ·rw[cM (p:=p) e,cM e,lj,if_neg (λz=>h (e.trans z))]
   ·rw[cI (p:=p) e,cI e,a]
def valV_snoc(k j:κ)(y:V):∀kvs:List (κ×V),cR kvs k=none->cR (kvs++[(k,y)]) j=if j=k then some y else cR kvs j
 |[],_=>by
  by_cases e:k=j
  ·rw[if_pos e.symm];exact cM (p:=(k,y)) e
  ·rw[if_neg (λz=>e z.symm)];exact cI (p:=(k,y)) e
 |p::r,hn=>by
  rw[List.cons_append];have a:¬p.1=k:=λz=>by rw[cM z]at hn;cases hn
  rw[cI a]at hn;have b:=valV_snoc k j y r hn;by_cases e:p.1=j
  ·rw[cM e,cM e,if_neg (λz=>a (e.trans z))]
  ·rw[cI e,cI e,b]
def valV_put(kvs:List (κ×V))(k j:κ)(y:V):cR (bX kvs k y) j=if j=k then some y else cR kvs j:=by
 unfold bX;by_cases a:(kvs.any λb=>decide (b.1=k))=true
 ·rw[if_pos a,valV_map];rw[eF]at a;by_cases e:j=k
  ·let#[x,c]:=Option.isSome_iff_exists.mp a;rw[if_pos e,e,c,lj,if_pos rfl]
  ·rw[if_neg e]
   cases cR kvs j with
   |none=>rfl
   |some x=>rw[lj,if_neg e]
 ·rw[if_neg a];refine valV_snoc k j y kvs ?_;rw[eF]at a
  cases q:cR kvs k with
  |none=>rfl
  |some x=>rw[q]at a;exact(a rfl).elim
def ic(kvs:List (κ×V))(k:κ)(v:V):(bX kvs k v).length<=kvs.length+1:=by
 unfold bX
 split
 ·rw[jE];lia
 ·rw[j5,jU,List.length_nil];lia
def putK_new{k:κ}(v:V)(h:cR kvs k=none):bX kvs k v=kvs++[(k,v)]:=by
 unfold bX;rw[eF,h];exact if_neg (by decide)
def RelO.isSome_eq(r:RelO o u):o.isSome=u.isSome:=by
 cases o with
 |none=>cases u with
  |none=>rfl
  |some _=>exact(show False from r).elim
 |some _=>cases u with
  |none=>exact(show False from r).elim
  |some _=>rfl
def RelO.getD(r:RelO o u)(rd:RelV d d'):RelV (o.getD d) (u.getD d'):=by
 cases o with
 |none=>cases u with
  |none=>exact rd
  |some _=>exact(show False from r).elim
 |some _=>cases u with
  |none=>exact(show False from r).elim
  |some _=>exact r
def KV.val(r:KV kvs vs)(k:κ):RelO (cR kvs k) (valueAt vs k):=by
 unfold KV at r
 induction r with
 |nil=>exact True.intro
 |@cons p q ps qs h t ih=>
  let#[c,d]:=h;by_cases e:p.1=k
  ·have a:q.1=k:=c.symm.trans e;have b:valueAt (q::qs) k=some q.2:=by simp[valueAt,List.find?_cons,a]
   rw[cM e,b];exact d
  ·have a:¬q.1=k:=λz=>e (c.trans z);have b:valueAt (q::qs) k=valueAt qs k:=by simp[valueAt,List.find?_cons,a]
   rw[cI e,b];exact ih
def KV.any(r:KV kvs vs)(k:κ):(kvs.any λkv=>decide (kv.1=k))=vs.any λkv=>decide (kv.1=k):=by
 unfold KV at r
 induction r with
 |nil=>rfl
 |cons h t ih=>rw[List.any_cons,List.any_cons,ih,h.1]
def KV.repl(r:KV kvs vs)(k:κ)(ry:RelV y u):
  KV (kvs.map λkv=>if kv.1=k then(kv.1,y)else kv) (vs.map λkv=>if kv.1=k then(kv.1,u)else kv):=by
 unfold KV at r⊢
 induction r with
 |nil=>exact .nil
 |@cons p q ps qs h t ih=>
  rw[kz,kz];refine .cons ?_ ih;let#[a,b]:=h;by_cases e:p.1=k
  ·rw[if_pos e,if_pos (a.symm.trans e)];exact#[a,ry]
  ·rw[if_neg e,if_neg (λz=>e (a.trans z))];exact#[a,b]
def KV.put(r:KV kvs vs)(k:κ)(ry:RelV y u):KV (bX kvs k y) (stored vs k u):=by
 unfold bX stored;rw[r.any k];by_cases e:(vs.any λa=>decide (a.1=k))=true
 ·rw[if_pos e,if_pos e];exact r.repl k ry
 ·rw[if_neg e,if_neg e];exact Paired.snoc r #[8,ry]
def KV.drop(r:KV kvs vs)(k:κ):KV (cO kvs k) (without vs k):=by
 unfold KV at r⊢;unfold cO without
 induction r with
 |nil=>exact .nil
 |@cons p q ps qs h t ih=>
  let#[c,d]:=h;rw[List.filter_cons,List.filter_cons];by_cases e:p.1=k
  ·have a:¬decide (p.1≠k)=true:=by simp[e]
   have b:¬decide (q.1≠k)=true:=by simp[c.symm.trans e]
   rw[if_neg a,if_neg b];exact ih
  ·have i:¬q.1=k:=λz=>e (c.trans z);have a:decide (p.1≠k)=true:=by simp[e]
   have b:decide (q.1≠k)=true:=by simp[i]
   rw[if_pos a,if_pos b];exact .cons #[c,d] ih
def KV.length{vs:List (κ×Value)}(r:KV kvs vs):kvs.length=vs.length:=Paired.length r
def dropK_le(kvs:List (κ×V))(k:κ):(cO kvs k).length<=kvs.length:=kN _ _
end
def kV_is(r:RelV (kV k) u):(bS P w).is k u=true:=by
 cases k with
 |inl i=>let#[t,e]:=(show∃t,u=Value.int i t from r);subst e;exact mixKind_int P w i t
 |inr x=>let#[t,e]:=(show∃t,u=Value.str x t from r);subst e;exact mixKind_str P w x t
def kV_inj(e:kV a=kV b):a=b:=by
 cases a with
 |inl i=>cases b with
  |inl j=>have c:V.int i=V.int j:=e;injection c with c;rw[c]
  |inr y=>exact nomatch(show V.int i=V.str y from e)
 |inr x=>cases b with
  |inl j=>exact nomatch(show V.str x=V.int j from e)
  |inr y=>have c:V.str x=V.str y:=e;injection c with c;rw[c]
def items_are:∀{ks:List Key}{us:List Value},Vals (ks.map kV) us->ItemsAre (bS P w) ks us
 |[],_,r=>by rw[lD]at r;cases r;exact .nil
 |k::ks,_,r=>by
  rw[kz]at r
  cases r with
  |cons h t=>exact .cons (kV_is h) (items_are t)
nonrec abbrev KT(H:Hp):List (List Key×V)->List (List Key×Addr×Value)->Prop:=Paired λp q=>p.1=q.1/\H q.2.1=some (.tup (p.1.map kV))/\RelV p.2 q.2.2
def KT.val(r:KT H kvs xs)(k:List Key):RelO (cR kvs k) ((atKey xs k).map (·.2)):=by
 induction r with
 |nil=>exact True.intro
 |@cons p q ps qs h t ih=>
  let#[c,_,d]:=h;by_cases e:p.1=k
  ·have a:q.1=k:=c.symm.trans e;have b:atKey (q::qs) k=some q.2:=by simp[atKey,List.find?_cons,a]
   rw[cM e,b];exact d
  ·have a:¬q.1=k:=λz=>e (c.trans z);have b:atKey (q::qs) k=atKey qs k:=by simp[atKey,List.find?_cons,a]
   rw[cI e,b];exact ih
def KT.repl(r:KT H kvs xs)(k:List Key)(ry:RelV y u):
  KT H (kvs.map λkv=>if kv.1=k then(kv.1,y)else kv) (xs.map (putAt k u)):=by
 induction r with
 |nil=>exact .nil
 |@cons p q ps qs h t ih=>
  rw[kz,kz];refine .cons ?_ ih;let#[a,b,c]:=h;unfold putAt;by_cases e:p.1=k
  ·rw[if_pos e,if_pos (a.symm.trans e)];exact#[a,b,ry]
  ·rw[if_neg e,if_neg (λz=>e (a.trans z))];exact#[a,b,c]
def KT.put(r:KT H kvs xs)(k:List Key)(hb:H b=some (.tup (k.map kV)))(ry:RelV y u):
  KT H (bX kvs k y) (storedH xs k b u):=by
 have e:(kvs.any λa=>decide (a.1=k))=(atKey xs k).isSome:=by
  rw[eF,(r.val k).isSome_eq,Option.isSome_map]
 unfold bX storedH;rw[e];by_cases q:(atKey xs k).isSome=true
 ·rw[if_pos q,if_pos q];exact r.repl k ry
 ·rw[if_neg q,if_neg q];exact Paired.snoc r #[8,hb,ry]
def KT.keeps(r:KT H kvs xs)(ht:∀b ys,H b=some (.tup ys)->H' b=some (.tup ys)):KT H' kvs xs:=
 Paired.mapP r λ_ _ z=>#[z.1,ht _ _ z.2.1,z.2.2]
section
variable{P:Program}{w:World}{H:Hp}{h:Heap}{a:Addr}
def rd_of(ok:HOk P w H h)(e:Rd H a u):ObjOk P w H h a u:=e.ok ok
def fM(ok:HOk P w H h)(e:Rd H a (.dK kvs)):kvs.length<=sizeLine/\(a==sysModules)=false/\∃vs,KV kvs vs/\h.DictOf (bS P w) a vs:=
 show ObjOk P w H h a (.dK kvs) from rd_of ok e
def dk_of(ok:HOk P w H h)(e:H a=some (.dK kvs)):kvs.length<=sizeLine/\(a==sysModules)=false/\∃vs,KV kvs vs/\h.DictOf (bS P w) a vs:=fM ok (.inl e)
def key_of(ok:HOk P w H h)(e:H a=some (.tup (ks.map kV))):(tupleKind (bS P w)).is h ks a:=by
 let#[_,b,r,o,i,c,n,d]:=(show ObjOk P w H h a (.tup (ks.map kV))from ok a _ e);exact#[o,b.toArray,n,i,c,d,by simpa using items_are r]
def dt_rd(ok:HOk P w H h)(e:Rd H a (.dT kvs)):kvs.length<=sizeLine/\(a==sysModules)=false/\
  ∃xs,KT H kvs xs/\h.DictOfH (tupleKind (bS P w)) a xs:=by
 let#[z,y,xs,r,o,s,j,v,d,u,i,c]:=(show ObjOk P w H h a (.dT kvs) from rd_of ok e);refine#[z,y,xs,r,o,s,j,v,d,u,i,λx b=>?_,c]
 have all:∀{l:List (List Key×V)}{m:List (List Key×Addr×Value)},KT H l m->∀x∈m,(tupleKind (bS P w)).is h x.1 x.2.1:=by
  intro l m q
  induction q with
  |nil=>intro x b;exact nomatch b
  |@cons p q ps qs hq t ih=>
   intro x b;rcases jR.mp b with e|b
   ·subst e;exact key_of ok (by rw[<-hq.1];exact hq.2.1)
   ·exact ih x b
 exact all r x b
def dt_of(ok:HOk P w H h)(e:H a=some (.dT kvs)):kvs.length<=sizeLine/\(a==sysModules)=false/\
  ∃xs,KT H kvs xs/\h.DictOfH (tupleKind (bS P w)) a xs:=dt_rd ok (.inl e)
end
abbrev DGet(H:Hp)(a:Addr)(y:V)(r:Option V):Prop:=
 (∃kvs k,Rd H a (.dK kvs)/\y=kV k/\r=cR kvs k)∨∃kvs k b,Rd H a (.dT kvs)/\y=.ref b/\H b=some (.tup (k.map kV))/\r=cR kvs k
abbrev DPut(H:Hp)(a:Addr)(y v:V)(H':Hp):Prop:=
 (∃kvs k,H a=some (.dK kvs)/\y=kV k/\kvs.length<sizeLine/\H'=upd H a (.dK (bX kvs k v)))∨
 ∃kvs k b,H a=some (.dT kvs)/\y=.ref b/\H b=some (.tup (k.map kV))/\kvs.length<sizeLine/\H'=upd H a (.dT (bX kvs k v))
def DGet.k{k:Key}(e:H a=some (.dK kvs)):DGet H a (kV k) (cR kvs k):=.inl #[kvs,k,.inl e,8,8]
def DPut.k{k:Key}(e:H a=some (.dK kvs))(hl:kvs.length<sizeLine):DPut H a (kV k) v (upd H a (.dK (bX kvs k v))):=.inl #[kvs,k,e,8,hl,8]
section
variable{X:Cx}{pins:List (Addr×Obj)}{σ:St}{H:Hp}{s:Shared}{a:Addr}{y v:V}{u r:Value}{o:Option V}{A:Around}{E:Value->Shared->Prop}
def Inv.big(I:Inv X pins σ H s):sysModules<s.heap.objs.size:=by
 have h:mainGlobals<s.heap.objs.size:=(I.mod.glob.keeps I.bk).lt;exact Nat.lt_trans (by decide) h
def d_getItem(hu:A.units+1<cLine)(I:Inv X pins σ H s)(g:DGet H a y (some v))(ry:RelV y u)(h:∀w' s',Inv X pins σ H s'->RelV v w'->Q w' s'):
  wpAny (model X.prog X.w) A (getItem (.ref a) u) Q E s:=by
 rcases g with⟨kvs,k,e,ey,l⟩|⟨kvs,k,b,e,ey,eb,l⟩
 ·subst ey;let#[z,hd,q,d,i]:=fM I.hok e;let#[w',m,c]:=RelO.some_of (v:=v) (o:=valueAt q k) (by rw[l];exact d.val k);exact wpAny_getItem_of (kV_is ry) i.mapOf m (h w' _ (I.tok _) c)
 ·subst ey
  cases(show u=Value.ref b from ry);let#[z,hd,r,d,i]:=dt_rd I.hok e;let#[w',m,c]:=RelO.some_of (v:=v) (o:=(atKey r k).map (·.2)) (by rw[l];exact d.val k);let#[p,t,j]:=kq.mp m;refine wpAny_getItem_heap (tupleKind_room_in1 hu) (key_of I.hok eb) i t ?_;rw[j];exact h w' _ (I.tok _) c
def d_in(hu:A.units+1<cLine)(I:Inv X pins σ H s)(g:DGet H a y o)(ry:RelV y u)(h:∀s',Inv X pins σ H s'->Q (.bool o.isSome) s'):
  wpAny (model X.prog X.w) A (compareOp .In u (.ref a)) Q E s:=by
 rcases g with⟨kvs,k,e,ey,l⟩|⟨kvs,k,b,e,ey,eb,l⟩
 ·subst ey;let#[z,hd,i,c,d]:=fM I.hok e;refine wpAny_in_of (kV_is ry) hd d.mapOf ?_;rw[<-(c.val k).isSome_eq,<-l];exact h _ (I.tok _)
 ·subst ey
  cases(show u=Value.ref b from ry);let#[z,hd,j,c,d]:=dt_rd I.hok e;refine wpAny_in_heap (tupleKind_room_in1 hu) (key_of I.hok eb) hd d ?_;have q:=(c.val k).isSome_eq;rw[Option.isSome_map]at q;rw[<-q,<-l];exact h _ (I.tok _)
def d_notIn(hu:A.units+1<cLine)(I:Inv X pins σ H s)(g:DGet H a y o)(ry:RelV y u)(h:∀s',Inv X pins σ H s'->Q (.bool (!o.isSome)) s'):
  wpAny (model X.prog X.w) A (compareOp .NotIn u (.ref a)) Q E s:=by
 rcases g with⟨kvs,k,e,ey,l⟩|⟨kvs,k,b,e,ey,eb,l⟩
 ·subst ey;let#[z,hd,i,c,d]:=fM I.hok e;refine wpAny_notIn_of (kV_is ry) hd d.mapOf ?_;rw[<-(c.val k).isSome_eq,<-l];exact h _ (I.tok _)
 ·subst ey
  cases(show u=Value.ref b from ry);let#[z,hd,j,c,d]:=dt_rd I.hok e;refine wpAny_notIn_heap (tupleKind_room_in1 hu) (key_of I.hok eb) hd d ?_;have q:=(c.val k).isSome_eq;rw[Option.isSome_map]at q;rw[<-q,<-l];exact h _ (I.tok _)
def d_write(I:Inv X pins σ H s)(mu:Mut (H a))(hs:Heap.SameBut a s.heap h')(he:∃q,h'.get? a=some q)(new:ObjOk X.prog X.w (upd H a ob) h' a ob):
  Inv X pins σ (upd H a ob) {s with heap:=h',toks:=t'}:=
 I.write (x:=a) (e:=a) mu (.inl rfl) (λb q c z=>(hs.2 b c).trans z) he new
def dk_new(z:kvs.length<=sizeLine)(hd:(a==sysModules)=false)(rel:KV kvs vs)(dd:h'.DictOf (bS P w) a vs):
  ObjOk P w H' h' a (.dK kvs):=#[z,hd,vs,rel,dd]
def d_setItem(hu:A.units+1<cLine)(I:Inv X pins σ H s)(g:DPut H a y v H')(ry:RelV y u)(rv:RelV v r)(h:∀s',Inv X pins σ H' s'->Q Unit.unit s'):
  wpAny (model X.prog X.w) A (setItem (.ref a) u r) Q E s:=by
 rcases g with⟨kvs,k,e,ey,l,eH⟩|⟨kvs,k,b,e,ey,eb,l,eH⟩
 ·subst ey eH;let#[z,hd,B,d,m]:=dk_of I.hok e;have p:B.length<=sizeLine:=by rw[<-d.length];exact z
  have o:(bX kvs k v).length<=sizeLine:=by have:=ic kvs k v;lia
  refine wpAny_setItem_pairs (hsz:=p) (kV_is ry) m λx i t=>h _ ?_;have J:∃q,x.get? a=some q:=let⟨q,_,_,j,_⟩:=i;#[q,j]
  exact d_write I (by rw[e];exact True.intro) t J (dk_new o hd (d.put k rv) i)
 ·subst ey eH
  cases(show u=Value.ref b from ry);let#[z,hd,G,d,m]:=dt_of I.hok e;have p:G.length<=sizeLine:=by rw[<-Paired.length d];exact z
  have o:(bX kvs k v).length<=sizeLine:=by have:=ic kvs k v;lia
  refine wpAny_setItem_heap (hsz:=p) (tupleKind_room_in1 hu) (key_of I.hok eb) m λx i t=>h _ ?_;let#[q,L,K,j,F,M,N,_,D]:=i;refine d_write I (by rw[e];exact True.intro) t #[q,j] #[o,hd,_,(d.put k eb rv).keeps λc O w=>?_,q,L,K,j,F,M,N,D];rw[aG (bK w e (λz=>nomatch z))];exact w
end
section
variable{X:Cx}{pins:List (Addr×Obj)}{σ:St}{H:Hp}{s:Shared}{a:Addr}{kvs:List (Key×V)}{k:Key}{u:Value}{A:Around}{E:Value->Shared->Prop}
def d_pop(I:Inv X pins σ H s)(e:H a=some (.dK kvs))(ry:RelV (kV k) u)(l:cR kvs k=some v)(hm:more=[]∨∃x,more=[x])
  (h:∀w' s',Inv X pins σ (upd H a (.dK (cO kvs k))) s'->RelV v w'->Q w' s'):wpAny (model X.prog X.w) A (call (.builtin "dict.pop") (.ref a::u::more)) Q E s:=by
 let#[z,hd,j,b,m]:=dk_of I.hok e;let#[w',r,d]:=RelO.some_of (v:=v) (o:=valueAt j k) (by rw[<-l];exact b.val k)
 have D:(keyPart u).isSome=true:=by
  cases k with
  |inl i=>let#[t,q]:=(show∃t,u=Value.int i t from ry);subst q;rfl
  |inr x=>let#[t,q]:=(show∃t,u=Value.str x t from ry);subst q;rfl
 have G:argsOk "dict.pop" #[.ref a::u::more,[]]:=by
  rcases hm with q|⟨x,q⟩
  ·subst q;exact PySem.F.args_dict_pop_2 _ _
  ·subst q;exact PySem.F.args_dict_pop_3 _ _ _
 refine call_meetsIn PySem.F.slot_dict_pop m.typeIs PySem.F.entry_dict_pop G (meets_dict_pop_there (bS X.prog X.w) a (kV_is ry) more hm D)
  #[j,w',m,by rw[<-b.length];exact z,r,λB c p=>h w' _ ?_ d]
 have y:∃q,B.get? a=some q:=let⟨q,_,_,hq,_⟩:=c;#[q,hq]
 exact d_write I (by rw[e];exact True.intro) p y (dk_new (jK (dropK_le kvs k) z) hd (b.drop k) c)
def d_popD(I:Inv X pins σ H s)(e:H a=some (.dK kvs))(ry:RelV (kV k) u)(l:cR kvs k=none)(h:∀s',Inv X pins σ H s'->Q r s'):
  wpAny (model X.prog X.w) A (call (.builtin "dict.pop") [.ref a,u,r]) Q E s:=by
 let#[z,hd,c,b,d]:=dk_of I.hok e;have j:valueAt c k=none:=RelO.none_of (by rw[<-l];exact b.val k)
 have m:(keyPart u).isSome=true:=by
  cases k with
  |inl i=>let#[t,q]:=(show∃t,u=Value.int i t from ry);subst q;rfl
  |inr x=>let#[t,q]:=(show∃t,u=Value.str x t from ry);subst q;rfl
 exact call_meetsIn PySem.F.slot_dict_pop d.typeIs PySem.F.entry_dict_pop (PySem.F.args_dict_pop_3 _ _ _) (meets_dict_pop_default (bS X.prog X.w) a (kV_is ry) hd m r) #[c,d,j,h _ (I.tok _)]
def d_len(I:Inv X pins σ H s)(e:Rd H a (.dK kvs))(h:∀t s',Inv X pins σ H s'->Q (.int kvs.length t) s'):wpAny (model X.prog X.w) A (call (.builtin "len") [.ref a]) Q E s:=by
 let#[z,hd,d,b,c]:=fM I.hok e;refine call_len_dict hd c (by rw[<-b.length];rw[sizeLine_eq]at z;lia) ?_;rw[<-b.length];exact h _ _ (I.tok _)
end
abbrev NoSl(i:Expr):Prop:=∀ov iv,subscripted i false ov iv=operate [ov,iv] (getItem ov iv)
def subD_of{T id:String}
  (hl:typeLookup (.type T) "__getitem__"=pure (some (.builtin id)))(hs:NoSl slice)
  (h:wpAny (model prog w) A (eval value env) (λo s₁=>wpAny (model prog w) A (eval slice env) (λi s₂=>s₂.TypeIs o T/\wpAny (model prog w) A (getItem o i) Q E s₂) E s₁) E s):
  wpAny (model prog w) A (eval (.Subscript value slice pos) env) Q E s:=by
 refine Subscript_ (kr h (λo s₁ d=>kr d (λi s₂ a=>?_) λ_ _ x=>x) λ_ _ x=>x);let#[c,a]:=a;unfold subscriptTail;refine jD ?_;rw[getitemInPython_of_ne c.not_modules];refine jD (wpAny_specialOf c hl ?_)
 have fin:wpAny (model prog w) A (subscripted slice false o i) (λr b=>wpAny (model prog w) A (letTemporaryGo value o r>>=λ_=>pure r) Q E b) E s₂:=by
  rw[hs o i];exact wpAny_operating (kr a (λr b e=>jD (wpAny_letTemporaryGo (jN e))) λ_ _ x=>x)
 first
  |exact jN (jD fin)
  |exact jD (jN (jD fin))
  |exact jD fin
def dict_typeIs(I:Inv X pins σ H s)(g:DGet H a y o):s.TypeIs (.ref a) "dict":=by
 rcases g with⟨kvs,k,e,_,_⟩|⟨kvs,k,b,e,_,_,_⟩
 ·let#[_,_,d,_,c]:=fM I.hok e;exact c.typeIs
 ·let#[_,_,h,_,c]:=dt_rd I.hok e;exact c.typeIs
inductive ItDGet(Q:VK)(x:V)(y:V)(H2:Hp):Prop
 |mk(a:_)(v:_)(h1:x=.ref a)(h2:DGet H2 a y (some v))(h3:Q v H2):ItDGet Q x y H2
abbrev tDGet(td ty:TE):TE:=λσ H Q=>td σ H λx H1=>ty σ H1 λy H2=>ItDGet Q x y H2
abbrev tDIn(ty td:TE):TE:=λσ H Q=>ty σ H λy H1=>td σ H1 λx H2=>∃a o,x=.ref a/\DGet H2 a y o/\Q (.bl o.isSome) H2
abbrev tDNotIn(ty td:TE):TE:=λσ H Q=>ty σ H λy H1=>td σ H1 λx H2=>∃a o,x=.ref a/\DGet H2 a y o/\Q (.bl (!o.isSome)) H2
abbrev sDPut(td ty tv:TE):TS:=λD σ H=>tv σ H λv H1=>td σ H1 λx H2=>ty σ H2 λy H3=>∃a H4,x=.ref a/\DPut H3 a y v H4/\D.nx σ H4
section
variable{X:Cx}{o i e value:Expr}{pos pos' tpos:Pos}{td ty tv:TE}
def fF(hu:X.A.units+1<cLine)(ho:PE X o td)(hi:PE X i ty)(hs:NoSl i):PE X (.Subscript o i pos) (tDGet td ty):=by
 intro b s σ H Q I h;refine subD_of PySem.F.slot_dict_getitem.lookup hs (thn (ho b s σ H _ I h) λu t⟨x,p,l,j,r⟩=>thn (hi b t σ p _ l r) λA D⟨y,w,d,q,a,v,ex,g,e⟩=>?_);subst ex;obtain rfl:u=Value.ref a:=j;exact#[dict_typeIs d g,d_getItem hu d g q λB z m c=>#[v,w,m,c,e]]
def pc_din(hu:X.A.units+1<cLine)(hi:PE X i ty)(ho:PE X o td):PC X .In i o (tDIn ty td):=by
 intro b s σ H Q I h;refine thn (hi b s σ H _ I h) λz q⟨y,l,e,m,p⟩=>thn (ho b q σ l _ e p) λu A⟨x,v,t,d,a,r,ex,g,c⟩=>?_;subst ex;obtain rfl:u=Value.ref a:=d;exact d_in hu t g m λw j=>#[.bl r.isSome,v,j,8,c]
def cZ(hu:X.A.units+1<cLine)(hi:PE X i ty)(ho:PE X o td):PC X .NotIn i o (tDNotIn ty td):=by
 intro b s σ H Q I h;refine thn (hi b s σ H _ I h) λz q⟨y,l,e,m,p⟩=>thn (ho b q σ l _ e p) λu A⟨x,v,t,d,a,r,ex,g,c⟩=>?_;subst ex;obtain rfl:u=Value.ref a:=d;exact d_notIn hu t g m λw j=>#[.bl (!r.isSome),v,j,8,c]
def dm(hu:X.A.units+1<cLine)(ho:PE X o td)(hi:PE X i ty)(hv:PE X value tv)(hs:swapsWith value (some (.Subscript o i pos')) pos.line X.env=pure false):
  PS X (.Assign [.Subscript o i pos'] value pos) (sDPut td ty tv):=by
 intro b s σ H D I h;refine wpAny_Assign_Subscript (thn (hv b s σ H _ I h) λr w⟨v,l,e,m,t⟩=>thn (ho b w σ l _ e t) λu p⟨x,F,A,d,c⟩=>thn (hi b p σ F _ A c) λJ G⟨y,K,j,q,a,B,ex,g,E⟩=>?_) hs;subst ex;obtain rfl:u=Value.ref a:=d;exact d_setItem hu j g q m λL z=>#[σ,B,z,E]
end
def dk_empty(h:Heap)(hb:sysModules<h.objs.size):ObjOk P w H (h.push {cls:=.type "dict",data:=.dict (List.toArray [])}) h.objs.size (.dK []):=
 #[jZ _,kX.mpr (k7 (km hb)),[],.nil,Heap.DictOf.new h]
abbrev tDNewK:TE:=λ_ H Q=>∀p,H p=none->Q (.ref p) (upd H p (.dK []))
section
variable{X:Cx}{pos:Pos}
def di:PE X (.Dict [] [] pos) tDNewK:=λb s σ H Q I h=>
 wpAny_Dict_empty #[.ref s.heap.objs.size,_,I.laid (a:=s.heap.objs.size) (o:=.dK []) (t':=s.toks) (λ_ _ q=>jG _ q) (jJ _) (dk_empty s.heap I.big),8,h _ (I.hok.fresh (jJ _))]
end
abbrev tPairs:List (TE×TE)->St->Hp->(List (V×V)->Hp->Prop)->Prop
 |[],_,H,Q=>Q [] H
 |(tk,tv)::r,σ,H,Q=>tk σ H λx H1=>tv σ H1 λy H2=>tPairs r σ H2 λps H3=>Q ((x,y)::ps) H3
nonrec abbrev VV:List (V×V)->List (Value×Value)->Prop:=Paired λp q=>RelV p.1 q.1/\RelV p.2 q.2
abbrev mergeK(kvs more:List (Key×V)):List (Key×V):=more.foldl (λacc kv=>bX acc kv.1 kv.2) kvs
structure M1(X:Cx)(o:Expr)(m:Str)(apos:Pos)(e:Expr)(cpos:Pos):Prop where
 base:attributeBase o m X.env (eval o X.env)=eval o X.env
 few:((backTo cpos (starEach [e] X.env)).all (λx=>!x.1)&&(backToKw cpos (keywordEach [] X.env)).all (λx=>x.1.isSome)
  &&decide (([e]:List Expr).length+([]:List Keyword).length+(if([]:List Keyword).isEmpty then 0 else 1)<30))=true
 line:(apos.endLine==cpos.line)=true
 trees:backTo cpos (starEach [e] X.env)=[(false,eval e X.env)]
structure M2(X:Cx)(o:Expr)(m:Str)(apos:Pos)(e f:Expr)(cpos:Pos):Prop where
 base:attributeBase o m X.env (eval o X.env)=eval o X.env
 few:((backTo cpos (starEach [e,f] X.env)).all (λx=>!x.1)&&(backToKw cpos (keywordEach [] X.env)).all (λx=>x.1.isSome)
  &&decide (([e,f]:List Expr).length+([]:List Keyword).length+(if([]:List Keyword).isEmpty then 0 else 1)<30))=true
 line:(apos.endLine==cpos.line)=true
 trees:backTo cpos (starEach [e,f] X.env)=[(false,eval e X.env),(false,eval f X.env)]
abbrev IsD(H:Hp)(a:Addr):Prop:=(∃kvs,Rd H a (.dK kvs))∨∃kvs,Rd H a (.dT kvs)
def isD_at(I:Inv X pins σ H s)(d:IsD H a):
  s.TypeIs (.ref a) "dict"/\(∀b,Value.ref a=.ref b->∃ob,s.heap.get? b=some ob/\ob.dict=none)/\(a==sysModules)=false:=by
 rcases d with⟨kvs,e⟩|⟨kvs,e⟩
 ·let#[_,hd,j,_,c]:=fM I.hok e;refine#[c.typeIs,λb q=>?_,hd]
  cases q;let#[ob,_,_,i,h,_]:=c;exact#[ob,i,h.2.1]
 ·let#[_,hd,l,_,c]:=dt_rd I.hok e;refine#[c.typeIs,λb q=>?_,hd]
  cases q;let#[ob,_,_,i,h,_]:=c;exact#[ob,i,h.2.1]
section
variable{X:Cx}{pins:List (Addr×Obj)}{σ:St}{H:Hp}{s:Shared}{a:Addr}{y d:V}{u r:Value}{o:Option V}{A:Around}{E:Value->Shared->Prop}
def d_get2(hu:A.units+1<cLine)(I:Inv X pins σ H s)(g:DGet H a y o)(ry:RelV y u)(rd:RelV d r)(h:∀w' s',Inv X pins σ H s'->RelV (o.getD d) w'->Q w' s'):
  wpAny (model X.prog X.w) A (call (.builtin "dict.get") [.ref a,u,r]) Q E s:=by
 rcases g with⟨kvs,k,e,ey,l⟩|⟨kvs,k,b,e,ey,eb,l⟩
 ·subst ey;let#[z,hd,m,c,i]:=fM I.hok e;refine call_meetsIn PySem.F.slot_dict_get i.typeIs PySem.F.entry_dict_get (PySem.F.args_dict_get_3 _ _ _) (meets_dict_get_default (bS X.prog X.w) a (kV_is ry) hd r) #[_,i.mapOf,h _ _ (I.tok _) ?_];rw[l];exact(c.val k).getD rd
 ·subst ey
  cases(show u=Value.ref b from ry);let#[z,hd,j,c,i]:=dt_rd I.hok e;refine call_meetsIn PySem.F.slot_dict_get i.typeIs PySem.F.entry_dict_get (PySem.F.args_dict_get_3 _ _ _) (meetsH_dict_get_default (tupleKind (bS X.prog X.w)) a b hd r) #[tupleKind_room_in1 hu,k,j,key_of I.hok eb,i,h _ _ (I.tok _) ?_];rw[l];exact(c.val k).getD rd
end
abbrev tDGet2(td ty tx:TE):TE:=λσ H Q=>td σ H λx H1=>∃a,x=.ref a/\IsD H1 a/\ty σ H1 λy H2=>tx σ H2 λz H3=>∃o,DGet H3 a y o/\Q (o.getD z) H3
abbrev tDPop1(td ty:TE):TE:=λσ H Q=>td σ H λx H1=>∃a,x=.ref a/\IsD H1 a/\ty σ H1 λy H2=>∃kvs k v,H2 a=some (.dK kvs)/\y=kV k/\cR kvs k=some v/\Q v (upd H2 a (.dK (cO kvs k)))
section
variable{X:Cx}{o e f:Expr}{apos cpos:Pos}{td ty tx:TE}
def pe_dget2(hu:X.A.units+1<cLine)(ho:PE X o td)(he:PE X e ty)(hf:PE X f tx)(m:M2 X o "get" apos e f cpos):PE X (.Call (.Attribute o "get" apos) [e,f] [] cpos) (tDGet2 td ty tx):=by
 intro b s σ H Q I h;refine wpAny_Call_method m.base m.few m.line kF PySem.F.slot_dict_get PySem.F.type_dict_get (thn (ho b s σ H _ I h) λu v⟨x,p,i,B,a,ex,d,t⟩=>?_);subst ex;obtain rfl:u=Value.ref a:=B;let#[D,l,_]:=isD_at i d;refine#[D,l,?_];rw[m.trees]
 refine Calls.callWith_builtin rfl (Calls.evalArgs_plain (Calls.spliced_cons (thn (he b v σ p _ i t) λM E⟨y,w,K,G,A⟩=>
  Calls.spliced_cons (thn (hf b E σ w _ K A) λN O⟨z,r,q,j,S,g,L⟩=>Calls.spliced_nil ?_))))
 exact d_get2 hu q g G j λP R J c=>#[_,r,J,c,L]
def pe_dpop1(ho:PE X o td)(he:PE X e ty)(m:M1 X o "pop" apos e cpos):PE X (.Call (.Attribute o "pop" apos) [e] [] cpos) (tDPop1 td ty):=by
 intro b s σ H Q I h;refine wpAny_Call_method m.base m.few m.line kF PySem.F.slot_dict_pop PySem.F.type_dict_pop (thn (ho b s σ H _ I h) λu t⟨x,p,i,B,a,ex,d,r⟩=>?_);subst ex;obtain rfl:u=Value.ref a:=B;let#[D,j,_]:=isD_at i d;refine#[D,j,?_];rw[m.trees];refine Calls.callWith_builtin rfl (Calls.evalArgs_plain (Calls.spliced_cons (thn (he b t σ p _ i r) λK O⟨y,L,J,E,z,k,v,w,G,l,A⟩=>Calls.spliced_nil ?_)));subst G;exact d_pop J w E l (.inl rfl) λN M q c=>#[v,_,q,c,A]
end
section
variable{X:Cx}{pins:List (Addr×Obj)}{σ:St}{H:Hp}{s:Shared}{a:Addr}{kvs:List (Key×V)}{A:Around}{E:Value->Shared->Prop}
def d_copyOf(I:Inv X pins σ H s)(e:Rd H a (.dK kvs))(h:∀p s',H p=none->Inv X pins σ (upd H p (.dK kvs)) s'->Q (.ref p) s'):wpAny (model X.prog X.w) A (call (.type "dict") [.ref a]) Q E s:=by
 let#[z,hd,m,c,j]:=fM I.hok e;refine kt_call_dict hd j (by rw[<-c.length];exact z) λr d l=>?_;refine h _ _ (I.hok.fresh (jJ _)) (I.laid (a:=s.heap.objs.size) (o:=.dK kvs) (t':=s.toks) (λb q i=>?_) (jJ _) (dk_new z (kX.mpr (k7 (km I.big))) c d));exact(l.2 b (km (jO i))).trans (jG _ i)
end
section
variable{X:Cx}{pins:List (Addr×Obj)}{σ:St}{H:Hp}{s:Shared}{a:Addr}{y:V}{u:Value}{A:Around}{E:Value->Shared->Prop}
end
end L2
namespace L2
open PySem PySem.Spec PyProof.Rows
section
variable{X:Cx}
def call_lenD:et X (.builtin "len") (λxs H Q=>∃a kvs,xs=[V.ref a]/\H a=some (.dK kvs)/\Q (.int kvs.length) H):=by
 intro b s σ H xs j Q I r h;let#[a,kvs,8,e,q]:=h;let#[u,8,c]:=fS r
 cases c;exact d_len I (.inl e) λt i d=>#[.int kvs.length,H,d,#[t,8],q]
end
end L2
namespace L2
open PySem PySem.Spec PyProof.Rows
section
variable{κ:Type}[DecidableEq κ]
def valV_not{k:κ}(h:cR kvs k=none):¬k∈kvs.map (·.1):=by
 intro m;let#[p,b,e]:=j9.mp m;have q:(kvs.any λa=>decide (a.1=k))=true:=List.any_eq_true.mpr #[p,b,jL e];rw[eF,h]at q;exact absurd q (by simp)
def valV_in{k:κ}(h:cR kvs k=some v):k∈kvs.map (·.1):=by
 have q:(kvs.any λa=>decide (a.1=k))=true:=by
  rw[eF,h]
  all_goals rfl
 let#[p,b,e]:=List.any_eq_true.mp q;exact j9.mpr #[p,b,kG e]
def dropK_pos{k:κ}(e:p.1=k):cO (p::r) k=cO r k:=by
 unfold cO;rw[List.filter_cons,if_neg (by simp[e])]
def dropK_neg{k:κ}(e:¬p.1=k):cO (p::r) k=p::cO r k:=by
 unfold cO;rw[List.filter_cons,if_pos (by simp[e])]
def dropK_no:∀{kvs:List (κ×V)}{k:κ},¬k∈kvs.map (·.1)->cO kvs k=kvs
 |[],_,_=>rfl
 |p::r,k,h=>by
  have a:¬k∈r.map (·.1):=λm=>by
   let#[q,b,e]:=j9.mp m;exact h (j9.mpr #[q,jR.mpr (Or.inr b),e])
  rw[dropK_neg λe=>h (j9.mpr #[p,jR.mpr (Or.inl rfl),e]),dropK_no a]
def dropK_mem{p:κ×V}(h:p∈cO kvs k):p∈kvs:=(kL.mp h).1
end
end L2
namespace L2
open PySem PySem.Spec PyProof.Rows
section
variable{X:Cx}
abbrev PTs(X:Cx)(ifs:List Expr)(t:TT):Prop:=
 ∀(pins:List (Addr×Obj))(s:Shared)(σ:St)(H:Hp)(Q:Bool->Hp->Prop),Inv X pins σ H s->t σ H Q->
  wpAny (model X.prog X.w) X.A (forIn ifs true λc r=>if r=true then do let ok<-isTrue c X.env (eval c X.env);pure (ForInStep.yield ok) else pure (ForInStep.yield r)) (TP X pins σ Q) X.xe s
abbrev tYes:TT:=λ_ H Q=>Q true H
def fE:PTs X [] tYes:=λa s σ H Q I h=>wpAny_tests_nil #[H,I,h]
def pts_one(h:PT X c t):PTs X [c] t:=λa s σ H Q I q=>wpAny_tests_one (h a s σ H Q I q)
abbrev ClSub(X:Cx):List (Str×Addr)->Prop
 |[]=>True
 |p::r=>X.env.cells.lookup p.1=some p.2/\ClSub X r
def ClSub.at:∀{cl:List (Str×Addr)},ClSub X cl->∀y c,cl.lookup y=some c->X.env.cells.lookup y=some c
 |[],_,y,c,e=>by simp at e
 |(z,d)::r,h,y,c,e=>by
  by_cases q:y=z
  ·subst q;simp at e;subst e;exact h.1
  ·rw[kC,kX.mpr q]at e;exact ClSub.at h.2 y c e
def lookup_has{cl:List (Str×Addr)}:y∈cl.map (·.1)->∃c,cl.lookup y=some c:=by
 induction cl with
 |nil=>intro h;simp at h
 |cons p r ih=>
  intro h;by_cases q:y=p.1
  ·subst q;exact#[p.2,by cases p;simp]
  ·let#[c,e]:=ih (by
    rcases jR.mp h with z|z
    ·exact absurd z q
    ·exact z)
   exact#[c,by rw[kC,kX.mpr q];exact e]
def iJ(h:(z,k)∈(relabel scope env).names)(hk:k=.cell∨k=.free):(z,NameKind.cell)∈scope.names∨(z,NameKind.free)∈scope.names:=by
 unfold relabel at h;let#[#[n,b],a,e]:=j9.mp h;dsimp only at e
 split at e
 ·rename_i c
  cases e
  have:b=.free:=by
   have:=(Bool.and_eq_true_iff.mp (Bool.and_eq_true_iff.mp c).1).1
   simpa using this
  subst this;exact .inr a
 ·cases e;rcases hk with rfl|rfl
  ·exact .inl a
  ·exact .inr a
def Clos.many(h:closureFor scope X.env=pure cl)(hs:ClSub X cl)(hy:cl.map (·.1)=ys)
  (hr:∀p∈scope.names,(p.2=.cell∨p.2=.free)->p.1∈ys):Clos X scope cl:=by
 refine#[h,λy c e=>hs.at y c e,λy a=>lookup_has ?_];rw[hy];rcases a with q|q
 ·rcases iJ (kY q) (.inl rfl)with m|m
  ·exact hr _ m (.inl rfl)
  ·exact hr _ m (.inr rfl)
 ·rcases iJ (kY q) (.inr rfl)with m|m
  ·exact hr _ m (.inl rfl)
  ·exact hr _ m (.inr rfl)
abbrev RdAll(X:Cx)(scope:Scope):List Str->List Nat->Prop
 |[],[]=>True
 |y::ys,j::js=>(X.N[j]?=some y/\X.env.scope.names.lookup y=some .cell/\(relabel scope X.env).names.lookup y=some .cell)/\RdAll X scope ys js
 |_,_=>False
def RdAll.len:∀{ys:List Str}{js:List Nat},RdAll X scope ys js->js.length=ys.length
 |[],[],_=>rfl
 |y::ys,j::js,h=>by rw[jU,jU,RdAll.len h.2]
def RdAll.at:∀{ys:List Str}{js:List Nat},RdAll X scope ys js->∀(i:Nat)(y:Str)(j:Nat),ys[i]?=some y->js[i]?=some j->X.N[j]?=some y/\X.env.scope.names.lookup y=some .cell/\(relabel scope X.env).names.lookup y=some .cell
 |[],[],_,i,y,j,e,_=>by simp at e
 |y'::ys,j'::js,h,0,y,j,e1,e2=>by
  simp at e1 e2;subst e1 e2;exact h.1
 |y'::ys,j'::js,h,i+1,y,j,e1,e2=>RdAll.at h.2 i y j (by simpa using e1) (by simpa using e2)
def Reads.many(h:RdAll X scope ys js):Reads X scope ys (λσ=>js.map λj=>σ.getD j Option.none):=by
 refineλσ=>#[by rw[jE,h.len],λi y v d a=>?_];rw[jM]at a
 cases q:js[i]? with
 |none=>rw[q]at a;cases a
 |some j=>
  rw[q]at a;let#[l,c,e]:=h.at i y j d q;refine#[j,l,?_,c,e];have b:σ.getD j Option.none=some v:=kh a;rw[j3]at b
  cases z:σ[j]? with
  |none=>rw[z]at b;cases b
  |some o=>rw[z]at b;exact kI some b
abbrev tCompG(k:Nat)(wi:TI)(g:TG)(tc:TT)(te:TE)(sel:St->St):TE:=λσ H Q=>wi σ H λJ H1=>∀l,H1 l=none->∃W:Nat->Nat->Hp->Prop,(∃m,W 0 m (upd H1 l (.lst [])))/\∀i m H,W i m H->
 (J.stop i H/\Q (.ref l) H)∨(J.go i H/\∀x H',J.yld i H x H'->∀zs:St,zs.length=k->g x (zs++sel σ) H' λσ2 H2=>(∃zs':St,zs'.length=k/\σ2=zs'++sel σ)/\tc σ2 H2 λb H3=>if b=true then te σ2 H3 λy H4=>∃ys,H4 l=some (.lst ys)/\ys.length<sizeLine/\∃m',m'<m/\W (i+1) m' (upd H4 l (.lst (ys++[y])))else∃m',m'<m/\W (i+1) m' H3)
def gS{prog:Program}{w:World}{A:Around}{R:Result->Shared->Prop}{s:Shared}{elt target iter:Expr}{ifs:List Expr}{scope:Scope}{pos:Pos}{it acc:Value}{env:Env}(I:Nat->Shared->Prop)
  (turn:∀n s,I n s->wpAny (model prog w) A (pyNext it) (λr s₁=>match r with
   |none=>R (.ok .next) s₁
   |some v=>wpAny (model prog w) A (letOwnedTupleGo target it v) (λ_ s₁'=>wpAny (model prog w) A (assign target env v) (λ_ s₂=>
     wpAny (model prog w) A (forIn ifs true λc r=>if r=true then do let ok<-isTrue c env (eval c env);pure (ForInStep.yield ok)else pure (ForInStep.yield r)) (λok s₃=>if ok=true then wpAny (model prog w) A (eval elt env) (λx s₄=>
      wpAny (model prog w) A (call (.builtin "list.append") [acc,x]) (λ_ s₅=>∃m,m<n/\I m s₅) (λ_ _=>False) s₄) (λ_ _=>False) s₃ else∃m,m<n/\I m s₃) (λ_ _=>False) s₂) (λ_ _=>False) s₁') (λ_ _=>False) s₁) (λ_ _=>False) s)
  (n:Nat)(h:I n s):
  codeAny (model prog w) A (.compLoop (.ListComp elt [#[target,iter,ifs,0]] scope pos) 0 it acc env) R s:=by
 refine codeAny_loop rfl I (λn s l=>?_) n h;show wpAny _ _ ((compTurn (.ListComp elt [#[target,iter,ifs,0]] scope pos) 0 it acc env).onRaise (λx=>do noteFrame x env;theTreesLotGoes x)) _ _ s;refine wpAny_noted ?_;rw[compTurn_list];refine jD (lH (jD (kr (turn n s l) (λr s₁ d=>?_) λ_ _ a=>a.elim)))
 cases r with
 |none=>exact jN d
 |some v=>
  refine jD (kr d (λ_ s₁' b=>?_) λ_ _ a=>a.elim);refine jD (kr b (λ_ s₂ j=>jD (kr j (λok s₃ e=>?_) λ_ _ a=>a.elim)) λ_ _ a=>a.elim)
  cases ok with
  |false=>exact jN #[8,e]
  |true=>exact jD (jD (kr e (λx s₄ i=>jD (kr i (λ_ s₅ o=>jN (jN #[8,o])) λ_ _ a=>a.elim)) λ_ _ a=>a.elim))
def comp_blockG{rest:List Str}{Q:VK}
  {RR:Value->Addr->Result->Shared->Prop}
  (hcalm:X.calm=true)(hkind:scope.kind=.function)(hcell:∀z∈scope.names,z.2≠.cell)(hc:Clos X scope cl)(hr:Reads X scope rest sel)
  (hg:∀(C:Addr)(s:Shared)(H:Hp),PG (bV X pins (xs++rest) scope cl C fp s H) tg g)(ht:∀(C:Addr)(s:Shared)(H:Hp),PTs (bV X pins (xs++rest) scope cl C fp s H) ifs tc)
  (he:∀(C:Addr)(s:Shared)(H:Hp),PE (bV X pins (xs++rest) scope cl C fp s H) elt te)
  (I:Inv X pins σ H s)(T:Turn X.prog X.w X.K tg J fp it tn)(t0:tn 0 s.heap)(hf:∀b∈fp,iA X pins H b)
  (h:∀l,H l=none->∃W:Nat->Nat->Hp->Prop,(∃m,W 0 m (upd H l (.lst [])))/\∀i m H,W i m H->
   (J.stop i H/\Q (.ref l) H)∨(J.go i H/\∀x H',J.yld i H x H'->∀zs:St,zs.length=xs.length->g x (zs++sel σ) H' λσ2 H2=>(∃zs':St,zs'.length=xs.length/\σ2=zs'++sel σ)/\tc σ2 H2 λb H3=>if b=true then te σ2 H3 λy H4=>∃ys,H4 l=some (.lst ys)/\ys.length<sizeLine/\∃m',m'<m/\W (i+1) m' (upd H4 l (.lst (ys++[y]))) else∃m',m'<m/\W (i+1) m' H3))
  (hRR:∀(D C:Addr)(H':Hp)(s':Shared),Inv X pins σ H' s'->iA X pins H' C->(∃m,s'.heap.Ns C m)->Q (.ref D) H'->RR (.ref D) C (.ok .next) s'):
  wpAny (model X.prog X.w) X.A (newList []) (λacc s₃=>wpAny (model X.prog X.w) X.A (newFunctionEnv scope X.env.globals cl [] X.env.qual none .none (some X.env)) (λcenv s₄=>
   codeAny (model X.prog X.w) X.A (.compStart (.ListComp elt [#[tg,iter,ifs,0]] scope pos) 0 (.ref it) acc {cenv with scope:=relabel scope X.env}) (RR acc cenv.locals) s₄) E s₃) E s:=by
 have hD:H s.heap.objs.size=none:=I.hok.fresh (jJ _);let#[W,#[m0,w0],ac]:=h _ hD;refine wpAny_newObj_type ?_
 have F:Inv X pins σ (upd H s.heap.objs.size (.lst [])) {s with heap:=s.heap.push {cls:=.type "list",dict:=none,data:=.seq ([]:List Value).toArray}}:=
  I.laid (t':=s.toks) (λb u e=>jG _ e) (jJ _) #[jZ _,[],0,.nil,jT _ rfl]
 generalize ah:({s with heap:=s.heap.push {cls:=.type "list",dict:=none,data:=.seq ([]:List Value).toArray}}:Shared)=t at F⊢;have M:∀b o,s.heap.get? b=some o->t.heap.get? b=some o:=λb o e=>by rw[<-ah];exact jG _ e
 refine wpAny_newFunctionEnv hcell (by intro y hy;simp at hy) (λh1 aa ad=>?_) hkind;have B:∀b o,t.heap.get? b=some o->h1.get? b=some o:=λb o e=>ad.extBut b o (km (jO e)) (jG _ e)
 have fD:∀b∈fp,b≠s.heap.objs.size:=λb a z=>by
  let#[o,e,_]:=T.obj 0 _ t0 b a;exact absurd (jO e) (by rw[z];exact ku _)
 have aj:∀b∈fp,iA X pins (upd H s.heap.objs.size (.lst [])) b:=λb a=>#[by rw[aG (fD b a)];exact(hf b a).1,(hf b a).2]
 have fC:∀b∈fp,b≠t.heap.objs.size:=λb a z=>by
  let#[o,e,_]:=T.obj 0 _ t0 b a;exact absurd (jO (M b o e)) (by rw[z];exact ku _)
 have cC:∀y c,cl.lookup y=some c->c≠t.heap.objs.size:=λy c e z=>by
  let#[v,q]:=F.cell y c (hc.sub y c e);exact absurd q.lt (by rw[z];exact ku _)
 have L:∀b∈fp,b∉frs X.stack:=λb a z=>(jR.mp (F.stkSub b z)).elim (hf b a).2.1 (hf b a).2.2.1
 have ok:(bV X pins (xs++rest) scope cl t.heap.objs.size fp t (upd H s.heap.objs.size (.lst []))).Ok:=by
  refine#[I.ok.mod,hkind,I.ok.glob,I.ok.blt,jJ _,λy z c R K=>I.ok.inj y z c (hc.sub y c R) (hc.sub z c K),λy hy=>hc.has y hy,λy c e=>(nomatch e),I.ok.hd,I.ok.frames,.inl rfl,λb a=>#[fC b a,λy c e=>(hf b a).2.2.2.2.1 y c (hc.sub y c e)],
   F.bs,jK I.ok.bsz F.sz,λb o e a=>?_,L,F.stack,F.stkFree]
  rcases(hf b a).2.2.2.1 with z|z
  ·exact I.ok.noex b o e z
  ·exact absurd (j7 (jO e) I.ok.bsz) (Nat.not_lt.mpr z)
 have I4:Inv (bV X pins (xs++rest) scope cl t.heap.objs.size fp t (upd H s.heap.objs.size (.lst []))) [] (xs.map (λ_=>none)++sel σ) (upd H s.heap.objs.size (.lst [])) {t with heap:=h1,toks:=t.toks+([]:List (Str×Value)).length}:=by
  refine#[ok,8,F.bare,Un.kept B,#[_,aa,λi y v R K e3=>?_],λy c e=>?_,F.hok.fresh (jJ _),λy c e=>F.freeC y c (hc.sub y c e),λp hp=>?_,F.hok.kept B,?_]
  ·have ab:xs.length<=i:=by
    apply Classical.byContradiction
    intro am;rw[kS (by rw[jE];lia),jM]at K
    cases q:xs[i]? with
    |none=>rw[q]at K;cases K
    |some z=>rw[q]at K;cases K
   have ak:rest[i-xs.length]?=some y:=by
    have R:(xs++rest)[i]?=some y:=R;rw[kJ ab]at R;exact R
   have ai:(sel σ)[i-xs.length]?=some (some v):=by
    rw[kJ (by rw[jE];exact ab),jE]at K;exact K
   let#[j,q1,q2,q3,q4]:=(hr σ).2 _ y v ak ai;let#[m,hn,hl]:=F.loc;let#[u,r,l]:=hl j y v q1 q2 (.inr (.inl q3));refine#[u,r,.inr #[.inl q4,?_]];let#[c,ec]:=hc.has y (.inl q4);refine#[c,ec,?_];rcases l with⟨k,_⟩|⟨_,c',e',z⟩
   ·have k':X.env.scope.names.lookup y=some .local:=k;rw[q3]at k';cases k'
   ·rw[hc.sub y c ec]at e'
    cases e';let#[o,ho,hd]:=z;exact#[o,B c o ho,hd]
  ·let#[v,o,ho,hd]:=F.cell y c (hc.sub y c e);exact#[v,o,B c o ho,hd]
  ·have ag:p∈X.pn++pins:=by simpa[bV]using hp
   let#[e,n,ne,nf,d]:=F.pin p ag;exact#[B _ _ e,n,km (jO e),λz=>(jR.mp (F.stkSub _ z)).elim ne nf,d]
  ·show(xs.map (λ_=>none)++sel σ).length=(xs++rest).length;rw[j5,j5,jE,(hr σ).1]
 have G:∀{H':Hp},(∀b∈fp,H' b=none)->∀b∈fp,iA (bV X pins (xs++rest) scope cl t.heap.objs.size fp t (upd H s.heap.objs.size (.lst []))) [] H' b:=λhn b a=>
  #[hn b a,fC b a,L b a,.inl a,λy c e=>(hf b a).2.2.2.2.1 y c (hc.sub y c e),λp hp=>(hf b a).2.2.2.2.2 p (by simpa[bV]using hp)]
 have t4:tn 0 h1:=T.keep _ _ _ t0 λb a o e=>B b o (M b o e)
 have N:∀s4:Shared,s4={t with heap:=h1,toks:=t.toks+([]:List (Str×Value)).length}->
   codeAny (model X.prog X.w) X.A (.compLoop (.ListComp elt [#[tg,iter,ifs,0]] scope pos) 0 (.ref it) (.ref s.heap.objs.size) (compEnvC scope cl t.heap.objs.size X.env)) (RR (.ref s.heap.objs.size) t.heap.objs.size) s4:=by
  rintro s4 rfl
  refine gS (λn s'=>yE3 λi zs H'=>zs.length=xs.length×' Inv (bV X pins (xs++rest) scope cl t.heap.objs.size fp t (upd H s.heap.objs.size (.lst []))) [] (zs++sel σ) H' s'×' tn i s'.heap×'(∀b∈fp,H' b=none)×' W i n H') ?_ m0
   #[0,_,_,jE _,I4,t4,λb a=>(aj b a).1,w0]
  rintro n s5⟨i,zs,Y,af,I5,t5,f5,w5⟩;rcases ac i n Y w5 with⟨stop,qn⟩|⟨go,step⟩
  ·refine thn (T.done (bV X pins (xs++rest) scope cl t.heap.objs.size fp t (upd H s.heap.objs.size (.lst []))) rfl rfl rfl hcalm i [] s5 _ Y _ I5 (G f5) t5 stop) λr s6⟨er,S⟩=>?_;subst er;have J6:Inv X pins σ Y s6:=F.call' (ch:=fp) S.os S.base S.hok S.bare λb a=>#[(hf b a).2.2.2.1,(hf b a).2.1,(hf b a).2.2.2.2.1,(hf b a).2.2.2.2.2];exact hRR _ _ Y s6 J6 (F.fpOk (jJ _) S.free) (let⟨m,hn,_⟩:=S.loc;#[m,hn]) qn
  ·refine thn (T.item (bV X pins (xs++rest) scope cl t.heap.objs.size fp t (upd H s.heap.objs.size (.lst []))) rfl rfl rfl hcalm i [] s5 _ Y _ I5 (G f5) t5 go) λr s6⟨u,er,h6⟩=>?_;subst er;refine thn h6 λ_ s7⟨y,H7,I7,r7,y7,Z,f7⟩=>?_;have al:=I7.pinned (G f7) (T.obj _ _ Z);refine thn (hg _ _ _ _ s7 _ H7 y u _ al r7 (step y H7 y7 zs af)) λ_ s8⟨σ8,H8,I8,⟨zs',U,e8⟩,q8⟩=>?_;subst e8;refine thn (ht _ _ _ _ s8 _ H8 _ I8 q8) λb s9⟨H9,P,q9⟩=>?_
   cases b with
   |false=>
    rw[if_neg j2]at q9⊢;let#[m',hm,w9]:=q9;refine#[m',hm,i+1,zs',_,U,P.unpinned,T.keep _ _ _ Z λb a o e=>(P.pin (b,o) (jS _ (jS _ (cN a e)))).1,λb a=>?_,w9];let#[o,e,d]:=T.obj _ _ Z b a;exact(P.pin (b,o) (jS _ (jS _ (cN a e)))).2.1
   |true=>
    rw[if_pos rfl]at q9⊢;refine thn (he _ _ _ _ s9 _ H9 _ P q9) λz s9⟨yv,H9,P,r9,ys,hl,hz,m',hm,w9⟩=>?_
    refine thn (bU (X:=bV X pins (xs++rest) scope cl t.heap.objs.size fp t (upd H s.heap.objs.size (.lst []))) _ s9 _ H9 (.ref s.heap.objs.size) [yv] (.ref s.heap.objs.size) [z]
     (λv H'=>H'=upd H9 s.heap.objs.size (.lst (ys++[yv]))) P rfl (.cons r9 .nil) #[_,ys,yv,8,8,hl,hz,8]) λ_ an⟨ao,ap,O,_,ae⟩=>?_
    subst ae;refine#[m',hm,i+1,zs',_,U,O.unpinned,T.keep _ _ _ Z λb a o e=>(O.pin (b,o) (jS _ (jS _ (cN a e)))).1,λb a=>?_,w9];let#[o,e,d]:=T.obj _ _ Z b a;exact(O.pin (b,o) (jS _ (jS _ (cN a e)))).2.1
 exact codeAny_compStart_list (N _ rfl) (T.self _ 0 _ _ _ t4 (N _ rfl))
def fj{rest:List Str}
  (hcalm:X.calm=true)(hi:PI X tg iter wi)(hg:∀(pins:List (Addr×Obj))(fp:List Addr)(C:Addr)(s:Shared)(H:Hp),PG (bV X pins (xs++rest) scope cl C fp s H) tg g)(ht:∀(pins:List (Addr×Obj))(fp:List Addr)(C:Addr)(s:Shared)(H:Hp),PTs (bV X pins (xs++rest) scope cl C fp s H) ifs tc)
  (he:∀(pins:List (Addr×Obj))(fp:List Addr)(C:Addr)(s:Shared)(H:Hp),PE (bV X pins (xs++rest) scope cl C fp s H) elt te)
  (hc:Clos X scope cl)(hr:Reads X scope rest sel)(hkind:scope.kind=.function:=by rfl)(hcell:∀z∈scope.names,z.2≠.cell:=by decide+kernel)(hnames:∀z∈scope.names,z.2=.local->scope.names.lookup z.1=some .local:=by decide+kernel)
  (hs:∀x,foldedSetIterable iter X.env x=pure x:=by intro _;rfl):
  PE X (.ListComp elt [#[tg,iter,ifs,0]] scope pos) (tCompG xs.length wi g tc te sel):=by
 intro pins s σ H Q I h;rw[eval_ListComp];refine wpAny_comprehension_free (use:=none) rfl hs hc.clos hkind hnames (thn (hi pins s σ H _ I h) λv K G=>thn G λB M d=>?_);let#[N,fp,P,J,L,8,F,T,l,r,u]:=d;refine comp_blockG (RR:=λc C=>compPost (model X.prog X.w) X.A X.xe none (EP X pins σ Q) c C) hcalm hkind hcell hc hr (hg pins fp) (ht pins fp) (he pins fp) F T l r u λD C p i E a⟨m,j⟩q=>?_;exact#[m,j,λO y=>#[.ref D,p,E.turned (t':=i.toks) (λb o t e=>(y.2 b t).trans e) a.1 a.2.1 a.2.2.2.1 a.2.2.2.2.1 a.2.2.2.2.2,8,q]]
def ps_compG{rest:List Str}
  (hNX:X.N.Nodup)(hi':X.N[i]?=some y)(hy:X.env.scope.names.lookup y=some .local)
  (hcalm:X.calm=true)(hi:PI X tg iter wi)(hg:∀(pins:List (Addr×Obj))(fp:List Addr)(C:Addr)(s:Shared)(H:Hp),PG (bV X pins (xs++rest) scope cl C fp s H) tg g)(ht:∀(pins:List (Addr×Obj))(fp:List Addr)(C:Addr)(s:Shared)(H:Hp),PTs (bV X pins (xs++rest) scope cl C fp s H) ifs tc)
  (he:∀(pins:List (Addr×Obj))(fp:List Addr)(C:Addr)(s:Shared)(H:Hp),PE (bV X pins (xs++rest) scope cl C fp s H) elt te)
  (hc:Clos X scope cl)(hr:Reads X scope rest sel)(hkind:scope.kind=.function:=by rfl)(hcell:∀z∈scope.names,z.2≠.cell:=by decide+kernel)(hnames:∀z∈scope.names,z.2=.local->scope.names.lookup z.1=some .local:=by decide+kernel)
  (hs:∀x,foldedSetIterable iter X.env x=pure x:=by intro _;rfl)
  (hsw:swapsWith (.ListComp elt [#[tg,iter,ifs,0]] scope pos) (some (.Name y py)) spos.line X.env=pure true:=by rfl):
  PS X (.Assign [.Name y py] (.ListComp elt [#[tg,iter,ifs,0]] scope pos) spos) (tAsg (tCompG xs.length wi g tc te sel) (gName i)):=by
 intro pins s σ H D I h;rw[exec_Assign_Name_used _ _ _ _ hsw];refine jD (lH (jD ?_));show wpAny _ X.A (do let _<-comprehension (.ListComp elt [#[tg,iter,ifs,0]] scope pos) scope X.env _ (newList []) false (eval iter X.env) (some (assign (.Name y py) X.env))) _ _ s
 refine jD (kr (wpAny_comprehension_free (use:=some (assign (.Name y py) X.env)) (Q:=λ_ d=>SP X pins D .next d) rfl hs hc.clos hkind hnames
  (thn (hi pins s σ H _ I h) λv Z Y=>thn Y λS t u=>?_)) (λ_ d B=>jN (jN B)) λ_ _ e=>e)
 let#[it,fp,tn,J,H2,8,W,T,F,M,P]:=u;refine comp_blockG (Q:=λx G=>gName i x σ G D.nx) (RR:=λr C=>compPost (model X.prog X.w) X.A X.xe (some (assign (.Name y py) X.env)) (λ_ d=>SP X pins D .next d) r C) hcalm hkind hcell hc hr (hg pins fp) (ht pins fp) (he pins fp) W T F M P λL C K d U c⟨m,E⟩q=>?_;show wpAny _ X.A (assign (.Name y py) X.env (.ref L)) _ _ _;refine wpAny_assign_Name (store_ok2 U hNX hi' (.inl hy) (v:=.ref L) rfl (λt j⟨a,R,O⟩=>?_) (.inr hy))
 have p:C≠a:=λz=>by
  rcases O with z'|z'
  ·exact c.2.1 (z.trans z')
  ·exact c.2.2.2.2.1 y a z' z.symm
 exact#[m,E.sameBut R p,λh' l=>#[_,K,j.turned (t':=t.toks) (λb o N e=>(l.2 b N).trans e) c.1 c.2.1 c.2.2.2.1 c.2.2.2.2.1 c.2.2.2.2.2,q]]
end
end L2
namespace L2
open PySem PySem.Spec PyProof.Rows
abbrev TrailF(h:Heap)(e:Addr)(vs:Array Value)(T:Addr):Prop:=
 vs[1]?=some (.ref T)/\T≠e/\∃oT ts,h.get? T=some oT/\oT.data=.fields ts/\3<ts.size
structure NotedF(l:List Env)(e:Addr)(oe:Obj)(tr:Option Addr)(h h':Heap):Prop where
 exc:∃vs' T,h'.get? e=some {oe with data:=.fields vs'}/\h.objs.size<=T/\TrailF h' e vs' T
 keep:∀b o,b≠e->tr≠some b->b∉l.filterMap (·.frame)->h.get? b=some o->h'.get? b=some o
 slot:∀b o,b≠e->tr≠some b->b∈l.filterMap (·.frame)->h.get? b=some o->∃sl,h'.get? b=some {o with slots:=sl}
structure NotedL(l:List Env)(e:Addr)(oe:Obj)(T:Addr)(h h':Heap):Prop where
 exc:∃vs' T',h'.get? e=some {oe with data:=.fields vs'}/\(h.objs.size<=T'∨T'=T)/\iR h' e vs' (some T')
 keep:∀b o,b≠e->some T≠some b->b∉l.filterMap (·.frame)->h.get? b=some o->h'.get? b=some o
 slot:∀b o,b≠e->some T≠some b->b∈l.filterMap (·.frame)->h.get? b=some o->∃sl,h'.get? b=some {o with slots:=sl}
section
variable{M:Model}{A:Around}{E:Value->Shared->Prop}{s:Shared}{base:Heap}{env:Env}{outer:List Env}{L e:Addr}{oe:Obj}{vs:Array Value}{Q:Unit->Shared->Prop}
def entry_core1(hfr:A.frames=some (env::outer))(hl:s.heap.FunFrames base (env::outer))(hf:env.frame=some L)
  (he:s.heap.get? e=some oe)(hd:oe.data=.fields vs)(hsz:1<vs.size)(h:∀h',NotedF (env::outer) e oe none s.heap h'->Q Unit.unit {s with heap:=h'}):
  wpAny M A (do let a<-frameOf env;let pl<-entryPlaceOf L hadNext;let b<-EntryCells.newEntry head a .none (rawInt L) .none pl;setField (.ref e) 1 b) Q E s:=by
 have ne:∀b∈(env::outer).filterMap (·.frame),b≠e:=λb p z=>by
  let#[_,o,w,r]:=hl.mem p;rw[z,he]at w
  cases w;exact r vs hd
 refine jD (wpAny_frameOf_fun hfr hl hf λc d=>jD (wpAny_entryPlaceOf λpl v=>?_));unfold EntryCells.newEntry newFields;refine jD (wpAny_newObj_type ?_ (v.sizeOk5 _ _ _ _ _));have B:c.get? e=some oe:=(d.2.1 e λp=>ne e p rfl).trans he;generalize j:({cls:=.type "traceback",dict:=none,data:=.fields ([head,.ref L,.none,rawInt L,.none]++(if pl.isEmpty then List.replicate 6 Value.none else pl)).toArray}:Obj)=i;have fr:i.isFreed=false:=by rw[<-j];rfl
 obtain⟨t,u,F⟩:∃t:Array Value,i.data=.fields t/\3<t.size:=by
  refine#[_,by rw[<-j],?_];simp only[j0,j5,jU,List.length_nil]
  lia
 have x:=jG (h:=c) i B;refine lJ x hd hsz (h _ ?_);have y:c.objs.size≠e:=k8 (jO B);have G:=kT hd (·.setIfInBounds 1 (Value.ref c.objs.size));have D:=kZ (Obj.mapFields (·.setIfInBounds 1 (Value.ref c.objs.size))) x (lM G);have H:=(kA (c.push i) (Obj.mapFields (·.setIfInBounds 1 (Value.ref c.objs.size))) (k7 y)).trans (jT c fr)
 have l:∀b o,b≠e->c.get? b=some o->((c.push i).update e (Obj.mapFields (·.setIfInBounds 1 (Value.ref c.objs.size)))).get? b=some o:=λb o m q=>by
  rw[kA _ _ (k7 m)];exact jG _ q
 refine#[#[_,c.objs.size,by rw[jr hd]at D;exact D,?_,by simp[hsz],y,_,_,H,u,F],λb o nb _ m q=>?_,λb o nb _ m q=>?_]
 ·exact Nat.le_of_eq d.1.symm
 ·exact l b o nb ((d.2.1 b m).trans q)
 ·let#[I,J]:=d.2.2 b o q;exact#[I,l b _ nb J]
def noteF_ok(hfr:A.frames=some (env::outer))(hl:s.heap.FunFrames base (env::outer))(hf:env.frame=some L)
  (he:s.heap.get? e=some oe)(hd:oe.data=.fields vs)(ht:iR s.heap e vs tr)(h:∀h',NotedF (env::outer) e oe tr s.heap h'->Q Unit.unit {s with heap:=h'}):
  wpAny M A (noteFrame (.ref e) env) Q E s:=by
 unfold noteFrame;simp only[hf]
 cases tr with
 |none=>
  have ht:vs[1]?=some .none:=ht;refine jD (kK he hd ht ?_);rw[if_neg (by decide)];exact entry_core1 hfr hl hf he hd (kB.mp ht).1 h
 |some T=>
  let#[t,w,D,B,l,m,r]:=ht;refine jD (kK he hd t ?_);rw[if_pos (show(Value.ref T !=Value.none)=true from by simp)];refine jD (kK l m r ?_);rw[if_neg (show¬((Value.none==rawInt L)=true) from by simp[rawInt])];refine jD (lJ l m (kB.mp r).1 ?_);have c:∀b,b≠T->(s.heap.update T (Obj.mapFields (·.setIfInBounds 3 Value.none))).get? b=s.heap.get? b:=λb a=>kA _ _ (k7 a)
  have x:∀b o,s.heap.get? b=some o->(∀ws,o.data≠.fields ws)->b≠T:=λb o a i q=>by
   rw[q,l]at a
   cases a;exact i B m
  refine entry_core1 hfr (hl.of_keeps λb o a i=>#[o,(c b (x b o a i)).trans a,8]) hf ((c e (k7 w)).trans he) hd (kB.mp t).1 λh' N=>h h' #[?_,?_,?_]
  ·let#[d,u,v,p,y]:=N.exc;exact#[d,u,v,by rw[Heap.size_after_update]at p;exact p,y]
  ·intro b o nb j a q;exact N.keep b o nb (by intro z;cases z) a ((c b λz=>j (by rw[z])).trans q)
  ·intro b o nb j a q;exact N.slot b o nb (by intro z;cases z) a ((c b λz=>j (by rw[z])).trans q)
def leavingF_ok(hfr:A.frames=some (env::outer))(hl:s.heap.FunFrames base (env::outer))(hf:env.frame=some L)
  (he:s.heap.get? e=some oe)(hd:oe.data=.fields vs)(ht:TrailF s.heap e vs T)(h:∀h',NotedL (env::outer) e oe T s.heap h'->Q Unit.unit {s with heap:=h'}):
  wpAny M A (leaving env (.ref e)) Q E s:=by
 unfold leaving;refine jD ?_;unfold noteFrame;simp only[hf];let#[m,t,H,v,j,i,l]:=ht;refine jD (kK he hd m ?_);rw[if_pos (show(Value.ref T !=Value.none)=true from by simp)];refine jD (kK j i (Array.getElem?_eq_getElem l) ?_);have a:∀b,b≠T->(s.heap.update T (Obj.mapFields (·.setIfInBounds 3 Value.none))).get? b=s.heap.get? b:=λb c=>kA _ _ (k7 c);by_cases hv:(v[3]==rawInt L)=true
 ·rw[if_pos hv];refine jN ?_;unfold setFlight;refine jD (kK he hd m ?_);rw[if_pos (show(Value.ref T !=Value.none)=true from by simp)];refine lJ j i l (h _ ?_);have x:=kZ (Obj.mapFields (·.setIfInBounds 3 Value.none)) j (lM (kT i _));have F:oe={oe with data:=.fields vs}:=by cases oe;cases hd;rfl
  refine#[#[vs,T,by rw[<-F];exact(a e (k7 t)).trans he,.inr rfl,m,t,_,_,x,kT i _,by simp[l]],λb o nb d c q=>?_,λb o nb d c q=>?_]
  ·exact(a b λz=>d (by rw[z])).trans q
  ·exact#[o.slots,(a b λz=>d (by rw[z])).trans q]
 ·rw[if_neg hv];refine jD (lJ j i l ?_)
  have B:∀b o,s.heap.get? b=some o->(∀ws,o.data≠.fields ws)->b≠T:=λb o c r q=>by
   rw[q,j]at c
   cases c;exact r v i
  refine iZ hfr (hl.of_keeps λb o c r=>#[o,(a b (B b o c r)).trans c,8]) hf ((a e (k7 t)).trans he) hd (kB.mp m).1 λh' N=>h h' #[?_,?_,?_]
  ·let#[p,w,y,G,u,D]:=N.exc;exact#[p,w,y,.inl (by rw[Heap.size_after_update]at u;exact u),D]
  ·intro b o nb d c q;exact N.keep b o nb (by intro z;cases z) c ((a b λz=>d (by rw[z])).trans q)
  ·intro b o nb d c q;exact N.slot b o nb (by intro z;cases z) c ((a b λz=>d (by rw[z])).trans q)
def passOn_ok(he:s.heap.get? e=some oe)(hd:oe.data=.fields vs)(ht:TrailF s.heap e vs T)
  (h:∀v,E (.ref e) {s with heap:=s.heap.update T (Obj.mapFields (·.setIfInBounds 3 v))}):wpAny M A (PySem.passOn what (.ref e) cenv:Sem Value) (λ_ _=>False) E s:=by
 let#[a,i,l,j,d,b,c]:=ht;unfold PySem.passOn;refine jD (kK he hd a ?_);rw[if_neg (show¬((Value.ref T==Value.none)=true) from by simp)];unfold setFlight;refine jD (jD (kK he hd a ?_));rw[if_pos (show(Value.ref T !=Value.none)=true from by simp)];exact lJ d b c (wpAny_throw (h _))
end
section
variable{X:Cx}{pins:List (Addr×Obj)}{σ:St}{H H':Hp}{s s':Shared}{h':Heap}
def Inv.notedK(I:Inv X pins σ H s)(hH:H e=none)(ho:Off X pins e)(ht:∀T,tr=some T->H T=none/\Off X pins T)
  (keep:∀b o,b≠e->tr≠some b->b∉frs X.stack->s.heap.get? b=some o->h'.get? b=some o)
  (slot:∀b o,b≠e->tr≠some b->b∈frs X.stack->s.heap.get? b=some o->∃sl,h'.get? b=some {o with slots:=sl}):Inv X pins σ H {s with heap:=h'}:=by
 have any:∀b o,b∉e::tr.toList->s.heap.get? b=some o->∃sl,h'.get? b=some {o with slots:=sl}:=λb o d q=>by
  have l:b≠e:=λz=>d (by rw[z];exact jX);have j:tr≠some b:=λz=>d (jW _ (by rw[z];simp));by_cases hs:b∈frs X.stack
  ·exact slot b o l j hs q
  ·exact#[o.slots,keep b o l j hs q]
 have y:∀b o,b≠X.env.locals->b∉X.fs->b∉e::tr.toList->s.heap.get? b=some o->h'.get? b=some o:=λb o i d a q=>
  keep b o (λz=>a (by rw[z];exact jX)) (λz=>a (jW _ (by rw[z];simp))) (λz=>(jR.mp (I.stkSub b z)).elim i d) q
 have h:∀b∈e::tr.toList,H b=none/\Off X pins b:=λb d=>by
  rcases jR.mp d with z|z
  ·rw[z];exact#[hH,ho]
  ·exact ht b (by simpa using z)
 refine I.stepO (ch:=e::tr.toList) (λb d=>(h b d).2) (λb o i d a q _=>y b o i d a q) (λb o _ _ a q _=>any b o a q) (λ_ _ _ _ n=>n)
  (λb o a q=>let⟨_,z⟩:=any b o a q;#[_,z]) (λ_ _ q=>q) (λ_ _ _ q=>q) (λb ps q=>#[(List.toArray []),by rw[q];simp]) (λm w=>?_) (λb u q=>?_)
 ·let#[o,x,t,g,r]:=w;let#[sl,p]:=any _ o (λz=>(h _ z).2.2.1 rfl) g;exact#[_,x,t,p,r]
 ·refine(I.hok b u q).stay (λc v a g=>?_) (λ_ z=>z) λ_ _ z=>z
  have trk:H c≠none:=by
   rcases a with z|z
   ·rw[z,q];simp
   ·rw[z];simp
  refine keep c v (λz=>trk (by rw[z];exact hH)) (λz=>trk (ht c z).1) (λz=>trk (I.stkFree c z)) g
abbrev XFlyF(X:Cx)(pins:List (Addr×Obj))(H:Hp)(h:Heap)(x:Addr)(cls:Value)(d:Option Addr):Prop:=
 H x=none/\Off X pins x/\∃vs sl T,h.get? x=some #[cls,d,.fields vs,sl]/\TrailF h x vs T/\H T=none/\Off X pins T
abbrev XPF(X:Cx)(pins:List (Addr×Obj))(σ:St)(E:XK)(e:Value)(s':Shared):Prop:=∃x cls d H',e=.ref x/\Inv X pins σ H' s'/\XFlyF X pins H' s'.heap x cls d/\E cls d H'
abbrev XOutF(X:Cx)(E:XK):Prop:=∀pins σ e s',XPF X pins σ E e s'->X.xe e s'
end
section
variable{P:Program}{w:World}{K:W.Frag}{mg:Str->Option Value}{base:Heap}{N:List Str}{qual:Str}{scope:Scope}{f:Addr}{cd:Value}{A:Around}{outer:List Env}{s₀:Shared}{H₀:Hp}{E:XK}
def xoutF:XOutF (bF (CX1 P w) P w K mg base N qual scope f cd A outer s₀ H₀ E) E:=by
 rintro j σ e D⟨x,h,d,t,rfl,I,⟨i,m,B,u,T,v,r,p,o⟩,q⟩;refine leavingF_ok (L:=s₀.heap.objs.size) I.ok.frames I.stack rfl v rfl r λF c=>?_;have J:=I.notedK (tr:=some T) i m (λl z=>by cases z;exact#[p,o]) c.keep c.slot;let#[b,l,g1,a,s]:=c.exc;refine#[x,h,d,t,8,J.os,J.bare,J.base,J.hok,#[m.1,i,b,u,some l,g1,s,λy z=>?_],q]
 cases z;rcases a with a|rfl
 ·exact#[(I.off rfl (lg a)).1,I.hok.fresh a]
 ·exact#[o.1,p]
end
section
variable{X:Cx}{E:XK}
abbrev CXC(P:Program)(w:World)(stack:List Env)(fp:List Addr)(C:Addr)(H₃:Hp)(s₃:Shared)(E:XK)(e:Value)(s':Shared):Prop:=
 ∃x cls d H' vs sl tr,e=.ref x/\s'.os=s₃.os/\AllBare s'.gens/\Un (frs stack) fp H₃ H' s₃.heap s'.heap/\HOk P w H' s'.heap/\H' x=none/\s₃.heap.get? x=none/\x≠C/\
  s'.heap.get? x=some #[cls,d,.fields vs,sl]/\iR s'.heap x vs tr/\(∀T,tr=some T->s₃.heap.get? T=none/\H' T=none/\T≠C)/\(∃m,s'.heap.Ns C m)/\H' C=none/\E cls d H'
abbrev fN(X:Cx)(E:XK)(pins:List (Addr×Obj))(N':List Str)(scope:Scope)(cl:List (Str×Addr))(C:Addr)(fp:List Addr)(s:Shared)(H:Hp)(ps:List (Addr×Obj)):Cx:=
 {bV X pins N' scope cl C fp s H with pn:=X.pn++pins++ps,xe:=λe s'=>(∀b∈fp,∃o,(b,o)∈ps)->CXC X.prog X.w X.stack fp C H s E e s'}
def passC(hP:X.prog=P)(hw:X.w=w):
  dk (CX1 P w) (fN X E pins N' scope cl C fp s H ps) E:=by
 subst hP hw;rintro c S O r e Q I⟨x,p,d,y,rfl,N,a,un,l,⟨u,A,D,L,K,M,F,i⟩,q⟩j;have J:=I.call' (ch:=[]) N un l a (λb z=>absurd z (by simp))
 have new:∀b,r.heap.get? b=none->s.heap.get? b=none/\b≠C:=λb h=>by
  have B:b∉fp:=λz=>by
   let#[o,m]:=j b z
   have:=(I.pin (b,o) (List.mem_append_left _ (jS _ m))).1
   rw[h]at this
   cases this
  refine#[?_,λz=>?_]
  ·cases e:s.heap.get? b with
   |none=>rfl
   |some o=>
    let#[R,t]:=I.base.there b o e B;rw[h]at t
    cases t
  ·let#[m,#[o,_,_,e,_],_]:=I.loc;have e:r.heap.get? C=some o:=e;rw[<-z,h]at e
   cases e
 let#[G,v]:=new x u;exact#[x,p,d,y,D,L,K,8,J.os,J.bare,J.base,J.hok,A,G,v,M,F,λT z=>#[(new T (i T z).1).1,(i T z).2,(new T (i T z).1).2],(let⟨m,hn,_⟩:=J.loc;#[m,hn]),J.free,q]
def gR{prog:Program}{w:World}{A:Around}{R:Result->Shared->Prop}{s:Shared}{elt target iter:Expr}{ifs:List Expr}{scope:Scope}{pos:Pos}{it acc:Value}{env:Env}(I:Nat->Shared->Prop)
  (turn:∀n s,I n s->wpAny (model prog w) A (pyNext it) (λr s₁=>match r with
   |none=>R (.ok .next) s₁
   |some v=>wpAny (model prog w) A (letOwnedTupleGo target it v) (λ_ s₁'=>wpAny (model prog w) A (assign target env v) (λ_ s₂=>
     wpAny (model prog w) A (forIn ifs true λc r=>if r=true then do let ok<-isTrue c env (eval c env);pure (ForInStep.yield ok) else pure (ForInStep.yield r)) (λok s₃=>if ok=true then wpAny (model prog w) A (eval elt env) (λx s₄=>
      wpAny (model prog w) A (call (.builtin "list.append") [acc,x]) (λ_ s₅=>∃m,m<n/\I m s₅) (λ_ _=>False) s₄) (notedBy (model prog w) A env λe s'=>R (.error e) s') s₃ else∃m,m<n/\I m s₃) (notedBy (model prog w) A env λe s'=>R (.error e) s') s₂) (λ_ _=>False) s₁') (λ_ _=>False) s₁) (λ_ _=>False) s)
  (n:Nat)(h:I n s):
  codeAny (model prog w) A (.compLoop (.ListComp elt [#[target,iter,ifs,0]] scope pos) 0 it acc env) R s:=by
 refine codeAny_loop rfl I (λn s o=>?_) n h;show wpAny _ _ ((compTurn (.ListComp elt [#[target,iter,ifs,0]] scope pos) 0 it acc env).onRaise (λx=>do noteFrame x env;theTreesLotGoes x)) _ _ s;refine wpAny_noted ?_;rw[compTurn_list];refine jD (lH (jD (kr (turn n s o) (λr s₁ d=>?_) λ_ _ a=>a.elim)))
 cases r with
 |none=>exact jN d
 |some v=>
  refine jD (kr d (λ_ s₁' b=>?_) λ_ _ a=>a.elim);refine jD (kr b (λ_ s₂ l=>jD (kr l (λok s₃ i=>?_) λ_ _ a=>a)) λ_ _ a=>a.elim)
  cases ok with
  |false=>exact jN #[8,i]
  |true=>exact jD (jD (kr i (λx s₄ j=>jD (kr j (λ_ s₅ p=>jN (jN #[8,p])) λ_ _ a=>a.elim)) λ_ _ a=>a))
def toX
  (I:Inv (bV X pins N' scope cl C fp s H) ps σ H1 s1):Inv (fN X E pins N' scope cl C fp s H ps) [] σ H1 s1:=
 #[#[I.ok.mod,I.ok.kind,I.ok.glob,I.ok.blt,I.ok.above,I.ok.inj,I.ok.has,I.ok.cab,I.ok.hd,I.ok.frames,I.ok.stk,I.ok.exf,I.ok.bs,I.ok.bsz,I.ok.noex,I.ok.exfs,I.ok.funs,I.ok.frf],I.os,I.bare,I.base,I.loc,I.cell,I.free,I.freeC,
  λp a=>I.pin p (by
   have a:p∈(X.pn++pins++ps)++[]:=a;show p∈(X.pn++pins)++ps;rw[kE]at a;exact a),I.hok,I.len]
def ofX
  (I:Inv (fN X E pins N' scope cl C fp s H ps) [] σ H1 s1):Inv (bV X pins N' scope cl C fp s H) ps σ H1 s1:=
 #[#[I.ok.mod,I.ok.kind,I.ok.glob,I.ok.blt,I.ok.above,I.ok.inj,I.ok.has,I.ok.cab,I.ok.hd,I.ok.frames,I.ok.stk,I.ok.exf,I.ok.bs,I.ok.bsz,I.ok.noex,I.ok.exfs,I.ok.funs,I.ok.frf],I.os,I.bare,I.base,I.loc,I.cell,I.free,I.freeC,
  λp a=>I.pin p (by
   show p∈(X.pn++pins++ps)++[];rw[kE];exact a),I.hok,I.len]
def comp_blockX{rest:List Str}{Q:VK}
  {RR:Value->Addr->Result->Shared->Prop}{E:Value->Shared->Prop}
  (hxo:XOutF X E₀)(hex:X.ex=[])(hst:X.stack=X.env::X.outer)(hfr:X.env.frame=some L)
  (hcalm:X.calm=true)(hkind:scope.kind=.function)(hcell:∀z∈scope.names,z.2≠.cell)(hc:Clos X scope cl)(hr:Reads X scope rest sel)
  (hg:∀(C:Addr)(s:Shared)(H:Hp),PG (bV X pins (xs++rest) scope cl C fp s H) tg g)(ht:∀(C:Addr)(s:Shared)(H:Hp)(ps:List (Addr×Obj)),PTs (fN X E₀ pins (xs++rest) scope cl C fp s H ps) ifs tc)
  (he:∀(C:Addr)(s:Shared)(H:Hp)(ps:List (Addr×Obj)),PE (fN X E₀ pins (xs++rest) scope cl C fp s H ps) elt te)
  (I:Inv X pins σ H s)(T:Turn X.prog X.w X.K tg J fp it tn)(t0:tn 0 s.heap)(hf:∀b∈fp,iA X pins H b)
  (h:∀l,H l=none->∃W:Nat->Nat->Hp->Prop,(∃m,W 0 m (upd H l (.lst [])))/\∀i m H,W i m H->
   (J.stop i H/\Q (.ref l) H)∨(J.go i H/\∀x H',J.yld i H x H'->∀zs:St,zs.length=xs.length->g x (zs++sel σ) H' λσ2 H2=>(∃zs':St,zs'.length=xs.length/\σ2=zs'++sel σ)/\tc σ2 H2 λb H3=>if b=true then te σ2 H3 λy H4=>∃ys,H4 l=some (.lst ys)/\ys.length<sizeLine/\∃m',m'<m/\W (i+1) m' (upd H4 l (.lst (ys++[y]))) else∃m',m'<m/\W (i+1) m' H3))
  (hRR:∀(D C:Addr)(H':Hp)(s':Shared),Inv X pins σ H' s'->iA X pins H' C->(∃m,s'.heap.Ns C m)->Q (.ref D) H'->RR (.ref D) C (.ok .next) s')
  (hRE:∀(acc:Value)(C:Addr)(x:Value)(s':Shared),(∃m,s'.heap.Ns C m/\∀h',Heap.SameBut C s'.heap h'->∀cenv:Env,cenv.locals=C->wpAny (model X.prog X.w) X.A (PySem.passOn "comprehension.variables-let-go" x cenv:Sem Value) (λ_ _=>False) X.xe {s' with heap:=h'})->RR acc C (.error x) s'):
  wpAny (model X.prog X.w) X.A (newList []) (λacc s₃=>wpAny (model X.prog X.w) X.A (newFunctionEnv scope X.env.globals cl [] X.env.qual none .none (some X.env)) (λcenv s₄=>
   codeAny (model X.prog X.w) X.A (.compStart (.ListComp elt [#[tg,iter,ifs,0]] scope pos) 0 (.ref it) acc {cenv with scope:=relabel scope X.env}) (RR acc cenv.locals) s₄) E s₃) E s:=by
 have hD:H s.heap.objs.size=none:=I.hok.fresh (jJ _);let#[W,#[m0,w0],am]:=h _ hD;refine wpAny_newObj_type ?_
 have B:Inv X pins σ (upd H s.heap.objs.size (.lst [])) {s with heap:=s.heap.push {cls:=.type "list",dict:=none,data:=.seq ([]:List Value).toArray}}:=
  I.laid (t':=s.toks) (λb u e=>jG _ e) (jJ _) #[jZ _,[],0,.nil,jT _ rfl]
 generalize au:({s with heap:=s.heap.push {cls:=.type "list",dict:=none,data:=.seq ([]:List Value).toArray}}:Shared)=t at B⊢;have S:∀b o,s.heap.get? b=some o->t.heap.get? b=some o:=λb o e=>by rw[<-au];exact jG _ e
 refine wpAny_newFunctionEnv hcell (by intro y hy;simp at hy) (λh1 ak ah=>?_) hkind;have F:∀b o,t.heap.get? b=some o->h1.get? b=some o:=λb o e=>ah.extBut b o (km (jO e)) (jG _ e)
 have fD:∀b∈fp,b≠s.heap.objs.size:=λb a z=>by
  let#[o,e,_]:=T.obj 0 _ t0 b a;exact absurd (jO e) (by rw[z];exact ku _)
 have a3:∀b∈fp,iA X pins (upd H s.heap.objs.size (.lst [])) b:=λb a=>#[by rw[aG (fD b a)];exact(hf b a).1,(hf b a).2]
 have fC:∀b∈fp,b≠t.heap.objs.size:=λb a z=>by
  let#[o,e,_]:=T.obj 0 _ t0 b a;exact absurd (jO (S b o e)) (by rw[z];exact ku _)
 have cC:∀y c,cl.lookup y=some c->c≠t.heap.objs.size:=λy c e z=>by
  let#[v,q]:=B.cell y c (hc.sub y c e);exact absurd q.lt (by rw[z];exact ku _)
 have R:∀b∈fp,b∉frs X.stack:=λb a z=>(jR.mp (B.stkSub b z)).elim (hf b a).2.1 (hf b a).2.2.1
 have ok:(bV X pins (xs++rest) scope cl t.heap.objs.size fp t (upd H s.heap.objs.size (.lst []))).Ok:=by
  refine#[I.ok.mod,hkind,I.ok.glob,I.ok.blt,jJ _,λy z c e1 O=>I.ok.inj y z c (hc.sub y c e1) (hc.sub z c O),λy hy=>hc.has y hy,λy c e=>(nomatch e),I.ok.hd,I.ok.frames,.inl rfl,λb a=>#[fC b a,λy c e=>(hf b a).2.2.2.2.1 y c (hc.sub y c e)],
   B.bs,jK I.ok.bsz B.sz,λb o e a=>?_,R,B.stack,B.stkFree]
  rcases(hf b a).2.2.2.1 with z|z
  ·exact I.ok.noex b o e z
  ·exact absurd (j7 (jO e) I.ok.bsz) (Nat.not_lt.mpr z)
 have I4:Inv (bV X pins (xs++rest) scope cl t.heap.objs.size fp t (upd H s.heap.objs.size (.lst []))) [] (xs.map (λ_=>none)++sel σ) (upd H s.heap.objs.size (.lst [])) {t with heap:=h1,toks:=t.toks+([]:List (Str×Value)).length}:=by
  refine#[ok,8,B.bare,Un.kept F,#[_,ak,λi y v e1 O e3=>?_],λy c e=>?_,B.hok.fresh (jJ _),λy c e=>B.freeC y c (hc.sub y c e),λp hp=>?_,B.hok.kept F,?_]
  ·have al:xs.length<=i:=by
    apply Classical.byContradiction
    intro a8;rw[kS (by rw[jE];lia),jM]at O
    cases q:xs[i]? with
    |none=>rw[q]at O;cases O
    |some z=>rw[q]at O;cases O
   have aw:rest[i-xs.length]?=some y:=by
    have e1:(xs++rest)[i]?=some y:=e1;rw[kJ al]at e1;exact e1
   have av:(sel σ)[i-xs.length]?=some (some v):=by
    rw[kJ (by rw[jE];exact al),jE]at O;exact O
   let#[j,q1,q2,q3,q4]:=(hr σ).2 _ y v aw av;let#[m,hn,hl]:=B.loc;let#[u,r,l]:=hl j y v q1 q2 (.inr (.inl q3));refine#[u,r,.inr #[.inl q4,?_]];let#[c,ec]:=hc.has y (.inl q4);refine#[c,ec,?_];rcases l with⟨k,_⟩|⟨_,c',e',z⟩
   ·have k':X.env.scope.names.lookup y=some .local:=k;rw[q3]at k';cases k'
   ·rw[hc.sub y c ec]at e'
    cases e';let#[o,ho,hd]:=z;exact#[o,F c o ho,hd]
  ·let#[v,o,ho,hd]:=B.cell y c (hc.sub y c e);exact#[v,o,F c o ho,hd]
  ·have as:p∈X.pn++pins:=by simpa[bV]using hp
   let#[e,n,ne,nf,d]:=B.pin p as;exact#[F _ _ e,n,km (jO e),λz=>(jR.mp (B.stkSub _ z)).elim ne nf,d]
  ·show(xs.map (λ_=>none)++sel σ).length=(xs++rest).length;rw[j5,j5,jE,(hr σ).1]
 have K:∀{H':Hp},(∀b∈fp,H' b=none)->∀b∈fp,iA (bV X pins (xs++rest) scope cl t.heap.objs.size fp t (upd H s.heap.objs.size (.lst []))) [] H' b:=λhn b a=>
  #[hn b a,fC b a,R b a,.inl a,λy c e=>(hf b a).2.2.2.2.1 y c (hc.sub y c e),λp hp=>(hf b a).2.2.2.2.2 p (by simpa[bV]using hp)]
 have t4:tn 0 h1:=T.keep _ _ _ t0 λb a o e=>F b o (S b o e)
 have U:∀s4:Shared,s4={t with heap:=h1,toks:=t.toks+([]:List (Str×Value)).length}->
   codeAny (model X.prog X.w) X.A (.compLoop (.ListComp elt [#[tg,iter,ifs,0]] scope pos) 0 (.ref it) (.ref s.heap.objs.size) (compEnvC scope cl t.heap.objs.size X.env)) (RR (.ref s.heap.objs.size) t.heap.objs.size) s4:=by
  rintro s4 rfl
  have ab:∀(ps:List (Addr×Obj))(e:Value)(s':Shared),(∀b∈fp,∃o,(b,o)∈ps)->(fN X E₀ pins (xs++rest) scope cl t.heap.objs.size fp t (upd H s.heap.objs.size (.lst [])) ps).xe e s'->
    notedBy (model X.prog X.w) X.A (compEnvC scope cl t.heap.objs.size X.env) (λe s'=>RR (.ref s.heap.objs.size) t.heap.objs.size (.error e) s') e s':=by
   intro ps e s' P hx;let#[x,cls,d,M,vs,sl,tr,8,os,aj,un,a2,x1,x2,x3,x4,x5,x6,#[m9,ae],az,qE]:=hx P;have J:Inv X pins σ M s':=B.call' (ch:=fp) os un a2 aj λb a=>#[(hf b a).2.2.2.1,(hf b a).2.1,(hf b a).2.2.2.2.1,(hf b a).2.2.2.2.2];have G:iA X pins M t.heap.objs.size:=B.fpOk (jJ _) az
   have a1:t.heap.objs.size<s'.heap.objs.size:=by
    let#[o,_,_,e,_]:=ae;exact jO e
   have ox:Off X pins x:=B.off hex x2;have oT:∀T,tr=some T->M T=none/\Off X pins T:=λT z=>#[(x6 T z).2.1,B.off hex (x6 T z).1];show wpAny _ _ (noteFrame (.ref x) X.env) _ _ s';refine noteF_ok (base:=X.base) (L:=L) (by rw[<-hst];exact J.ok.frames) (by rw[<-hst];exact J.stack) hfr x4 rfl x5 λan Nt=>?_;have nC:t.heap.objs.size≠x:=k7 x3;have ad:tr≠some t.heap.objs.size:=λz=>(x6 _ z).2.2 rfl;have kp:∀b o,b≠x->tr≠some b->b∉frs X.stack->s'.heap.get? b=some o->an.get? b=some o:=λb o z1 z2 z3=>Nt.keep b o z1 z2 (by rw[<-hst];exact z3);have sp:∀b o,b≠x->tr≠some b->b∈frs X.stack->s'.heap.get? b=some o->∃sl,an.get? b=some {o with slots:=sl}:=λb o z1 z2 z3=>Nt.slot b o z1 z2 (by rw[<-hst];exact z3);have J1:=J.notedK x1 ox oT kp sp;let#[ar,T',g1,g2,g3]:=Nt.exc;have a0:T'≠t.heap.objs.size:=k8 (j7 a1 g2);have fT:=J.fpOk g2 (J.hok.fresh g2);have af:Off X pins T':=J.off hex (lg g2);refine hRE _ _ _ _ #[m9,?_,λh2 sb cenv _=>?_]
   ·let#[o,es,ep,g,r]:=ae;by_cases hs:t.heap.objs.size∈frs X.stack
    ·let#[a4,g']:=sp _ o nC ad hs g;exact#[_,es,ep,g',r]
    ·exact#[o,es,ep,kp _ o nC ad hs g,r]
   ·have J2:Inv X pins σ M {s' with heap:=h2}:=J1.turned (t':=s'.toks) (λb o a e=>(sb.2 b a).trans e) G.1 G.2.1 G.2.2.2.1 G.2.2.2.2.1 G.2.2.2.2.2;let#[ac,aa,aq,ts,ay,Z,ag]:=g3;have k1:=(sb.2 x x3).trans g1;have k2:=(sb.2 T' a0).trans ay;refine passOn_ok k1 rfl #[ac,aa,aq,ts,k2,Z,ag] λv=>hxo pins σ _ _ #[x,cls,d,M,8,?_,#[x1,ox,ar,sl,T',?_,#[ac,aa,_,_,kZ (Obj.mapFields (·.setIfInBounds 3 v)) k2 (lM (kT Z _)),kT Z _,by simp[ag]],J.hok.fresh g2,af],qE]
    ·exact J2.turned (t':=s'.toks) (λb o a e=>(kA _ _ (k7 a)).trans e) fT.1 fT.2.1 fT.2.2.2.1 fT.2.2.2.2.1 fT.2.2.2.2.2
    ·exact(kA _ _ aa).trans k1
  refine gR (λn s'=>yE3 λi zs H'=>zs.length=xs.length×' Inv (bV X pins (xs++rest) scope cl t.heap.objs.size fp t (upd H s.heap.objs.size (.lst []))) [] (zs++sel σ) H' s'×' tn i s'.heap×'(∀b∈fp,H' b=none)×' W i n H') ?_ m0
   #[0,_,_,jE _,I4,t4,λb a=>(a3 b a).1,w0]
  rintro n s5⟨i,zs,H5,ap,I5,t5,f5,w5⟩;rcases am i n H5 w5 with⟨stop,qn⟩|⟨go,step⟩
  ·refine thn (T.done (bV X pins (xs++rest) scope cl t.heap.objs.size fp t (upd H s.heap.objs.size (.lst []))) rfl rfl rfl hcalm i [] s5 _ H5 _ I5 (K f5) t5 stop) λr s6⟨er,I6⟩=>?_;subst er;have J6:Inv X pins σ H5 s6:=B.call' (ch:=fp) I6.os I6.base I6.hok I6.bare λb a=>#[(hf b a).2.2.2.1,(hf b a).2.1,(hf b a).2.2.2.2.1,(hf b a).2.2.2.2.2];exact hRR _ _ H5 s6 J6 (B.fpOk (jJ _) I6.free) (let⟨m,hn,_⟩:=I6.loc;#[m,hn]) qn
  ·refine thn (T.item (bV X pins (xs++rest) scope cl t.heap.objs.size fp t (upd H s.heap.objs.size (.lst []))) rfl rfl rfl hcalm i [] s5 _ H5 _ I5 (K f5) t5 go) λr s6⟨u,er,h6⟩=>?_;subst er;refine thn h6 λ_ s7⟨y,H7,I7,r7,y7,t7,f7⟩=>?_;have ax:=I7.pinned (K f7) (T.obj _ _ t7);refine thn (hg _ _ _ _ s7 _ H7 y u _ ax r7 (step y H7 y7 zs ap)) λ_ s8⟨σ8,H8,I8,⟨zs',ai,e8⟩,q8⟩=>?_;subst e8
   have P:∀b∈fp,∃o,(b,o)∈[]++pinsAt fp s7.heap:=λb a=>by
    let#[o,e,_]:=T.obj _ _ t7 b a;exact#[o,jS _ (cN a e)]
   refine kr (ht _ _ _ _ _ s8 _ H8 _ (toX I8) q8) (λb s9⟨M,N,q9⟩=>?_) (λe s' hx=>ab _ e s' P hx);have N:=ofX N
   cases b with
   |false=>
    rw[if_neg j2]at q9⊢;let#[m',hm,w9]:=q9;refine#[m',hm,i+1,zs',_,ai,N.unpinned,T.keep _ _ _ t7 λb a o e=>(N.pin (b,o) (jS _ (jS _ (cN a e)))).1,λb a=>?_,w9];let#[o,e,d]:=T.obj _ _ t7 b a;exact(N.pin (b,o) (jS _ (jS _ (cN a e)))).2.1
   |true=>
    rw[if_pos rfl]at q9⊢;refine kr (he _ _ _ _ _ s9 _ M _ (toX N) q9) (λz s9⟨yv,M,N,r9,ys,hl,hz,m',hm,w9⟩=>?_) (λe s' hx=>ab _ e s' P hx);have N:=ofX N
    refine thn (bU (X:=bV X pins (xs++rest) scope cl t.heap.objs.size fp t (upd H s.heap.objs.size (.lst []))) _ s9 _ M (.ref s.heap.objs.size) [yv] (.ref s.heap.objs.size) [z]
     (λv H'=>H'=upd M s.heap.objs.size (.lst (ys++[yv]))) N rfl (.cons r9 .nil) #[_,ys,yv,8,8,hl,hz,8]) λ_ a5⟨a6,a7,Y,_,ao⟩=>?_
    subst ao;refine#[m',hm,i+1,zs',_,ai,Y.unpinned,T.keep _ _ _ t7 λb a o e=>(Y.pin (b,o) (jS _ (jS _ (cN a e)))).1,λb a=>?_,w9];let#[o,e,d]:=T.obj _ _ t7 b a;exact(Y.pin (b,o) (jS _ (jS _ (cN a e)))).2.1
 exact codeAny_compStart_list (U _ rfl) (T.self _ 0 _ _ _ t4 (U _ rfl))
def pe_compGX{rest:List Str}
  (hxo:XOutF X E)(hex:X.ex=[])(hst:X.stack=X.env::X.outer)(hfr:X.env.frame=some L)(hcalm:X.calm=true)(hi:PI X tg iter wi)(hg:∀(pins:List (Addr×Obj))(fp:List Addr)(C:Addr)(s:Shared)(H:Hp),PG (bV X pins (xs++rest) scope cl C fp s H) tg g)(ht:∀(pins:List (Addr×Obj))(fp:List Addr)(C:Addr)(s:Shared)(H:Hp)(ps:List (Addr×Obj)),PTs (fN X E pins (xs++rest) scope cl C fp s H ps) ifs tc)
  (he:∀(pins:List (Addr×Obj))(fp:List Addr)(C:Addr)(s:Shared)(H:Hp)(ps:List (Addr×Obj)),PE (fN X E pins (xs++rest) scope cl C fp s H ps) elt te)
  (hc:Clos X scope cl)(hr:Reads X scope rest sel)(hkind:scope.kind=.function:=by rfl)(hcell:∀z∈scope.names,z.2≠.cell:=by decide+kernel)(hnames:∀z∈scope.names,z.2=.local->scope.names.lookup z.1=some .local:=by decide+kernel)
  (hs:∀x,foldedSetIterable iter X.env x=pure x:=by intro _;rfl):
  PE X (.ListComp elt [#[tg,iter,ifs,0]] scope pos) (tCompG xs.length wi g tc te sel):=by
 intro pins s σ H Q I h;rw[eval_ListComp];refine wpAny_comprehension_free (use:=none) rfl hs hc.clos hkind hnames (thn (hi pins s σ H _ I h) λv M K=>thn K λB O i=>?_);let#[P,fp,S,J,N,8,G,T,l,r,u]:=i;refine comp_blockX (RR:=λa C=>compPost (model X.prog X.w) X.A X.xe none (EP X pins σ Q) a C) hxo hex hst hfr hcalm hkind hcell hc hr (hg pins fp) (ht pins fp) (he pins fp) G T l r u (λD C p d F c⟨m,j⟩q=>?_) λa C x d z=>z;exact#[m,j,λR y=>#[.ref D,p,F.turned (t':=d.toks) (λb o t e=>(y.2 b t).trans e) c.1 c.2.1 c.2.2.2.1 c.2.2.2.2.1 c.2.2.2.2.2,8,q]]
end
end L2
namespace L2
open PySem PySem.Spec PyProof.Rows
section
variable{X:Cx}{pins:List (Addr×Obj)}{σ:St}{H:Hp}{s:Shared}{a:Addr}{o:Obj}{u:HO}
def Inv.freeze(I:Inv X pins σ H s)(ha:H a=some u)(mu:Mut (some u))(ho:s.heap.get? a=some o):Inv X pins σ (upd H a (.frz o u)) s:=by
 have b:Mut (H a):=by rw[ha];exact mu
 have h:∀c y,H c=some (.own y)->c≠a:=λc y r z=>by subst z;rw[r]at b;exact b
 have d:∀c i,H c=some (.tup i)->c≠a:=λc i r z=>by subst z;rw[r]at b;exact b
 refine I.un (t':=s.toks) (Un.write (x:=a) (e:=a) b (.inl rfl) (λ_ _ _ q=>q) #[o,ho]) (I.hok.write (x:=a) (e:=a) b (.inl rfl) (λ_ _ _ q=>q) #[o,ho] #[ho,?_]);exact(I.hok a u ha).stay (λ_ _ _ q=>q) (λc r=>by rw[aG (h c a r)];exact r) λc i r=>by rw[aG (d c i r)];exact r
def Inv.thaw(I:Inv X pins σ H s)(ha:H a=some (.frz o u))(h0:∀o' u',X.H₀ a≠some (.frz o' u')):Inv X pins σ (upd H a u) s:=by
 have i:∀c y,H c=some (.own y)->c≠a:=λc y r z=>by subst z;rw[r]at ha;cases ha
 have d:∀c h,H c=some (.tup h)->c≠a:=λc h r z=>by subst z;rw[r]at ha;cases ha
 have t:∀c,H c=none->c≠a:=λc r z=>by subst z;rw[r]at ha;cases ha
 have up:∀c,H c=none->upd H a u c=none:=λc r=>by rw[aG (t c r)];exact r
 refine#[I.ok,I.os,I.bare,#[I.base.keep,I.base.slot,λb j e n w=>up b (I.base.free b j e n w),I.base.there,λb h e=>?_,λb j z e=>?_,λb ps e=>?_],I.loc,I.cell,up _ I.free,λx c e=>up _ (I.freeC x c e),λp v=>?_,λb j e=>?_,I.len]
 ·have q:=I.base.tups b h e;rw[aG (d b h q)];exact q
 ·have q:=I.base.frzs b j z e;have nb:b≠a:=λl=>by subst l;exact h0 _ _ e
  rw[aG nb];exact q
 ·let#[m,q]:=I.base.tbls b ps e;have nb:b≠a:=λl=>by subst l;rw[q]at ha;cases ha
  exact#[m,by rw[aG nb];exact q]
 ·let#[e,n,r]:=I.pin p v;exact#[e,up _ n,r]
 ·by_cases hb:b=a
  ·subst hb;rw[aC]at e
   cases e;let#[_,q]:=I.hok b _ ha;exact q.stay (λ_ _ _ q=>q) (λc r=>by rw[aG (i c b r)];exact r) λc h r=>by rw[aG (d c h r)];exact r
  ·rw[aG hb]at e;exact(I.hok b j e).stay (λ_ _ _ q=>q) (λc r=>by rw[aG (i c b r)];exact r) λc h r=>by rw[aG (d c h r)];exact r
def Inv.nofrz(I:Inv X pins σ H s)(ha:H a=some u)(nu:∀o' u',u≠.frz o' u'):∀o' u',X.H₀ a≠some (.frz o' u'):=λo' u' e=>by
 have q:=I.base.frzs a o' u' e;rw[ha]at q;exact nu _ _ (kh q)
abbrev tThaw(t:TE):TE:=λσ H Q=>∃a u,H a=some u/\(∀o' u',u≠.frz o' u')/\t σ H λv H'=>∃o,H' a=some (.frz o u)/\Q v (upd H' a u)
def pe_thaw(h:PE X e t):PE X e (tThaw t):=by
 intro b s σ H Q I q;let#[a,u,m,c,q]:=q;exact thn (h b s σ H _ I q) (by rintro v r⟨x,p,d,i,o,l,j⟩;exact#[x,_,d.thaw l (I.nofrz m c),i,j])
abbrev tThawS(t:TS):TS:=λD σ H=>∃a u,H a=some u/\(∀o' u',u≠.frz o' u')/\t {D with nx:=λσ' H'=>∃o,H' a=some (.frz o u)/\D.nx σ' (upd H' a u),rt:=λv H'=>∃o,H' a=some (.frz o u)/\D.rt v (upd H' a u),ct:=λσ' H'=>∃o,H' a=some (.frz o u)/\D.ct σ' (upd H' a u),bk:=λσ' H'=>∃o,H' a=some (.frz o u)/\D.bk σ' (upd H' a u)} σ H
def il{st:Stmt}(h:PS X st t):PS X st (tThawS t):=by
 intro i s σ H D I q;let#[a,u,w,p,q]:=q;have j:=I.nofrz w p;refine thn (h i s σ H _ I q) λf y l=>?_
 cases f with
 |next=>let#[d,m,c,o,e,b]:=l;exact#[d,_,c.thaw e j,b]
 |cont=>let#[d,m,c,o,e,b]:=l;exact#[d,_,c.thaw e j,b]
 |brk=>let#[d,m,c,o,e,b]:=l;exact#[d,_,c.thaw e j,b]
 |ret v=>let#[x,d,m,c,r,o,e,b]:=l;exact#[x,d,_,c.thaw e j,r,b]
abbrev Itd(a:Addr)(o:Obj)(kvs:List (Key×V)):It:=
 #[λi H=>H a=some (.frz o (.dK kvs))/\i<kvs.length,λi H x H'=>H'=H/\∃kv,kvs[i]?=some kv/\x=kV kv.1,λi H=>H a=some (.frz o (.dK kvs))/\kvs.length<=i]
def KV.get:∀{kvs:List (κ×V)}{vs:List (κ×Value)}{i:Nat}{kv:κ×V},KV kvs vs->kvs[i]?=some kv->∃v,vs[i]?=some (kv.1,v)/\RelV kv.2 v
 |_,_,_,_,.nil,e=>by simp at e
 |_,_,0,kv,.cons (b:=b) r t,e=>by
  simp at e;subst e;exact#[b.2,by simp[r.1],r.2]
 |_,_,i+1,kv,.cons r t,e=>by
  let#[v,a,c]:=KV.get (i:=i) t (by simpa using e);exact#[v,by simpa using a,c]
def is_kV{u:Value}(h:(bS P w).is k u=true):RelV (kV k) u:=by
 rcases cL (show keyIs k u=true from h)with⟨i,t,rfl,rfl⟩|⟨x,t,rfl,rfl⟩
 ·exact#[t,8]
 ·exact#[t,8]
def turn_dict{K:W.Frag}(a it:Addr)(o:Obj)(kvs:List (Key×V))(hd:o.data=.dict es ep):Turn P w K tg (Itd a o kvs) [it] it (λi h=>h.IsKeyIter it a i kvs.length ep) where
 mem:=by simp
 obj:=λi h j b q=>by
  have e:b=it:=by simpa using q
  subst e;let#[o,e,c,d]:=j;exact#[o,e,λv z=>by rw[d]at z;cases z]
 keep:=λi h y j k=>j.at λo e=>k it (by simp) o e
 item:=by
  intro X L U Z hc i l s σ H E I A j G;subst L U Z;let#[O,hi]:=G;let#[t,hz,hs,Q,r,o',D,W,x,R,u,M,J,F]:=I.hok a _ O;rw[t]at x;cases x;rw[hd]at u;cases u;have hx:kvs[i]?=some kvs[i]:=jF hi;let#[v,hv,rv]:=KV.get r hx;let#[T,B,f2,f3,S,N]:=A it (by simp);have p:s.heap.IsKeyIter it a i Q.length ep:=by rw[<-r.length];exact j
  refine wpAny_pyNext_dict_item p #[o,es,t,R,hd,M,J,F] hv λY y hk m sb=>?_;rw[<-r.length]at m;have I1:Inv X l σ H {s with heap:=y}:=I.turned (t':=s.toks) (λb o q e=>(sb.2 b q).trans e) T B f3 S N;let#[oi,e,c,d]:=id m;exact#[Y,8,go_of (s:={s with heap:=y}) e c d (by decide) #[kV (kvs[i]).1,H,I1,is_kV hk,#[8,_,hx,8],m,λb q=>(A b q).1]]
 done:=by
  intro X L U Z hc i l s σ H E I A j G;subst L U Z;let#[O,hi]:=G;let#[t,hz,hs,Q,r,o',D,W,x,R,u,M,J,F]:=I.hok a _ O;rw[t]at x;cases x;rw[hd]at u;cases u;let#[T,B,f2,f3,S,N]:=A it (by simp);have p:s.heap.IsKeyIter it a i Q.length ep:=by rw[<-r.length];exact j
  exact wpAny_pyNext_dict_end (I.ok.hd hc) p #[o,es,t,R,hd,M,J,F] (List.getElem?_eq_none (by rw[<-r.length];exact hi)) λy eb=>#[8,I.turned (t':=s.toks) (λb o q e=>eb b o q e) T B f3 S N]
 self:=λ_ _ _ _ _ j h=>wpAny_pyIter_keyiter j h
abbrev iDic(tl:TE):TI:=λσ H R=>tl σ H λx H1=>∃a kvs,x=.ref a/\H1 a=some (.dK kvs)/\∀o,R (Itd a o kvs) (upd H1 a (.frz o (.dK kvs)))
def pi_dict(hl:PE X l tl):PI X tg l (iDic tl):=by
 intro c s σ H R I h;refine thn (hl c s σ H _ I h) λv i⟨x,y,m,B,F⟩=>?_;let#[a,d,e,u,q]:=F;subst e
 cases B;let#[L,D,K,r,o,E,M,t,w,p,J,G,z]:=dk_of m.hok u;have j:Inv X c σ (upd y a (.frz o (.dK d))) i:=m.freeze u True.intro t;refine wpAny_pyIter_dict D #[o,E,t,w,p,J,G,z] ?_;refine#[i.heap.objs.size,[i.heap.objs.size],_,_,9,j.kept (t':=i.toks) λb o e=>jG _ e,turn_dict a _ o d p,#[_,jT _ rfl,8,by rw[r.length];rfl],λb A=>?_,q o];have e:b=i.heap.objs.size:=by simpa using A
 subst e;exact j.fpOk (jJ _) (j.hok.fresh (jJ _))
end
def for_dict{g:TG}{tb:TS}{D:Ends}(Pv:Nat->St->Hp->Prop)(h0:Pv 0 σ H)(hl:∀i σ H,i<=kvs.length->Pv i σ H->H a=some (.frz o (.dK kvs)))
  (hs:∀i kv σ H,kvs[i]?=some kv->Pv i σ H->g (kV kv.1) σ H λσ2 H2=>tb {D with nx:=Pv (i+1),ct:=Pv (i+1),bk:=D.nx} σ2 H2)(hd:∀σ H,Pv kvs.length σ H->D.nx σ H):
  ∃W:Nat->Nat->St->Hp->Prop,(∃m,W 0 m σ H)/\∀i m σ H,W i m σ H->
   ((Itd a o kvs).stop i H/\D.nx σ H)∨((Itd a o kvs).go i H/\∃N:St->Hp->Prop,(∀σ' H',N σ' H'->∃m',m'<m/\W (i+1) m' σ' H')/\∀x H',(Itd a o kvs).yld i H x H'->g x σ H' λσ2 H2=>tb {D with nx:=N,ct:=N,bk:=D.nx} σ2 H2):=by
 refine#[λi m σ H=>m=kvs.length-i×' i<=kvs.length×' Pv i σ H,#[kvs.length,by simp,jZ _,h0],?_];rintro i m σ H⟨rfl,hi,p⟩;have q:=hl i σ H hi p;by_cases hlt:i<kvs.length
 ·refine .inr #[#[q,hlt],Pv (i+1),λσ' H' c=>#[kvs.length-(i+1),4,8,hlt,c],λx H' y=>?_];let#[e,kv,b,ex]:=y;subst e ex;exact hs i kv σ _ b p
 ·have e:i=kvs.length:=by lia
  subst e;exact .inl #[#[q,jJ _],hd σ H p]
end L2
namespace L2
open PySem PySem.Spec PyProof.Rows
abbrev fw(n:Nat)(Pv:Nat->Hp->Prop)(i:Nat)(H:Hp):Prop:=∃m',m'<n-i/\m'=n-(i+1)/\i+1<=n/\Pv (i+1) H
def gM(hi:i<n)(h:Pv (i+1) H):fw n Pv i H:=#[n-(i+1),by omega,8,hi,h]
section
variable{l:Addr}{k:Nat}{g:TG}{tc:TT}{te:TE}{ρ:St}{R:Hp->Prop}{H₀:Hp}
def gl{J:It}(Pv:Nat->Hp->Prop)(h0:Pv 0 (upd H₀ l (.lst [])))(hgo:∀i H,i<n->Pv i H->J.go i H)(hst:∀H,Pv n H->J.stop n H)
  (hs:∀i x H H',i<n->J.yld i H x H'->Pv i H->∀zs:St,zs.length=k->g x (zs++ρ) H' λσ2 H2=>(∃zs':St,zs'.length=k/\σ2=zs'++ρ)/\tc σ2 H2 λb H3=>if b=true then te σ2 H3 λy H4=>∃ys,H4 l=some (.lst ys)/\ys.length<sizeLine/\fw n Pv i (upd H4 l (.lst (ys++[y]))) else fw n Pv i H3)
  (hd:∀H,Pv n H->R H):
  ∃W:Nat->Nat->Hp->Prop,(∃m,W 0 m (upd H₀ l (.lst [])))/\∀i m H,W i m H->
   (J.stop i H/\R H)∨(J.go i H/\∀x H',J.yld i H x H'->∀zs:St,zs.length=k->g x (zs++ρ) H' λσ2 H2=>(∃zs':St,zs'.length=k/\σ2=zs'++ρ)/\tc σ2 H2 λb H3=>if b=true then te σ2 H3 λy H4=>∃ys,H4 l=some (.lst ys)/\ys.length<sizeLine/\∃m',m'<m/\W (i+1) m' (upd H4 l (.lst (ys++[y]))) else∃m',m'<m/\W (i+1) m' H3):=by
 refine#[λi m H=>m=n-i/\i<=n/\Pv i H,#[n,by simp,jZ _,h0],?_];rintro i m H⟨rfl,hi,p⟩;by_cases hlt:i<n
 ·exact .inr #[hgo i H hlt p,λx H' y=>hs i x H H' hlt y p]
 ·have e:i=n:=by lia
  subst e;exact .inl #[hst H p,hd H p]
def gC{K:W.Frag}(Pv:Nat->Hp->Prop)(h0:Pv 0 (upd H₀ l (.lst [])))(hl:∀i H,Pv i H->SqL K H a xs)
  (hs:∀i x H,xs[i]?=some x->Pv i H->∀zs:St,zs.length=k->g x (zs++ρ) H λσ2 H2=>(∃zs':St,zs'.length=k/\σ2=zs'++ρ)/\tc σ2 H2 λb H3=>if b=true then te σ2 H3 λy H4=>∃ys,H4 l=some (.lst ys)/\ys.length<sizeLine/\fw xs.length Pv i (upd H4 l (.lst (ys++[y]))) else fw xs.length Pv i H3)
  (hd:∀H,Pv xs.length H->R H):
  ∃W:Nat->Nat->Hp->Prop,(∃m,W 0 m (upd H₀ l (.lst [])))/\∀i m H,W i m H->
   ((Itl K a).stop i H/\R H)∨((Itl K a).go i H/\∀x H',(Itl K a).yld i H x H'->∀zs:St,zs.length=k->g x (zs++ρ) H' λσ2 H2=>(∃zs':St,zs'.length=k/\σ2=zs'++ρ)/\tc σ2 H2 λb H3=>if b=true then te σ2 H3 λy H4=>∃ys,H4 l=some (.lst ys)/\ys.length<sizeLine/\∃m',m'<m/\W (i+1) m' (upd H4 l (.lst (ys++[y]))) else∃m',m'<m/\W (i+1) m' H3):=
 gl (n:=xs.length) Pv h0 (λi H hi p=>#[xs,xs[i],hl i H p,jF hi]) (λH p=>#[xs,hl _ H p,jJ _]) (λi x H H' hi y p=>by
  let#[e,y]:=y;subst e;exact hs i x _ (y xs (hl i _ p)) p) hd
def compG_range{lo:Int}(Pv:Nat->Hp->Prop)(h0:Pv 0 (upd H₀ l (.lst [])))
  (hs:∀i H,i<n->Pv i H->∀zs:St,zs.length=k->g (.int (lo+i)) (zs++ρ) H λσ2 H2=>(∃zs':St,zs'.length=k/\σ2=zs'++ρ)/\tc σ2 H2 λb H3=>if b=true then te σ2 H3 λy H4=>∃ys,H4 l=some (.lst ys)/\ys.length<sizeLine/\fw n Pv i (upd H4 l (.lst (ys++[y]))) else fw n Pv i H3)
  (hd:∀H,Pv n H->R H):
  ∃W:Nat->Nat->Hp->Prop,(∃m,W 0 m (upd H₀ l (.lst [])))/\∀i m H,W i m H->
   ((Itr lo n).stop i H/\R H)∨((Itr lo n).go i H/\∀x H',(Itr lo n).yld i H x H'->∀zs:St,zs.length=k->g x (zs++ρ) H' λσ2 H2=>(∃zs':St,zs'.length=k/\σ2=zs'++ρ)/\tc σ2 H2 λb H3=>if b=true then te σ2 H3 λy H4=>∃ys,H4 l=some (.lst ys)/\ys.length<sizeLine/\∃m',m'<m/\W (i+1) m' (upd H4 l (.lst (ys++[y]))) else∃m',m'<m/\W (i+1) m' H3):=
 gl (n:=n) Pv h0 (λi H hi p=>hi) (λH p=>jJ _) (λi x H H' hi y p=>by
  let#[e,y]:=y;subst e y;exact hs i _ hi p) hd
def compG_dict(Pv:Nat->Hp->Prop)(h0:Pv 0 (upd H₀ l (.lst [])))(hl:∀i H,Pv i H->H a=some (.frz o (.dK kvs)))
  (hs:∀i kv H,kvs[i]?=some kv->Pv i H->∀zs:St,zs.length=k->g (kV kv.1) (zs++ρ) H λσ2 H2=>(∃zs':St,zs'.length=k/\σ2=zs'++ρ)/\tc σ2 H2 λb H3=>if b=true then te σ2 H3 λy H4=>∃ys,H4 l=some (.lst ys)/\ys.length<sizeLine/\fw kvs.length Pv i (upd H4 l (.lst (ys++[y]))) else fw kvs.length Pv i H3)
  (hd:∀H,Pv kvs.length H->R H):
  ∃W:Nat->Nat->Hp->Prop,(∃m,W 0 m (upd H₀ l (.lst [])))/\∀i m H,W i m H->
   ((Itd a o kvs).stop i H/\R H)∨((Itd a o kvs).go i H/\∀x H',(Itd a o kvs).yld i H x H'->∀zs:St,zs.length=k->g x (zs++ρ) H' λσ2 H2=>(∃zs':St,zs'.length=k/\σ2=zs'++ρ)/\tc σ2 H2 λb H3=>if b=true then te σ2 H3 λy H4=>∃ys,H4 l=some (.lst ys)/\ys.length<sizeLine/\∃m',m'<m/\W (i+1) m' (upd H4 l (.lst (ys++[y]))) else∃m',m'<m/\W (i+1) m' H3):=
 gl (n:=kvs.length) Pv h0 (λi H hi p=>#[hl i H p,hi]) (λH p=>#[hl _ H p,jJ _]) (λi x H H' hi y p=>by
  let#[e,kv,c,ex]:=y;subst e ex;exact hs i kv _ c p) hd
end
def g1(h:Q (some v::ρ) H):∀zs:St,zs.length=1->gName 0 v (zs++ρ) H Q:=λzs a=>by
 match zs,a with
 |[z],_=>exact h
def yes{A B:Hp->Prop}(h:A H):tYes σ H (λb H3=>if b=true then A H3 else B H3):=by
 show if true=true then A H else B H
 rw[if_pos rfl];exact h
end L2
namespace L2
open PySem PySem.Spec PyProof.Rows
section
variable{X:Cx}
abbrev Iti(a:Addr)(o:Obj)(kvs:List (Key×V)):It:=
 #[λi H=>H a=some (.frz o (.dK kvs))/\i<kvs.length,λi H x H'=>∃kv t,kvs[i]?=some kv/\H t=none/\x=.ref t/\H'=upd H t (.tup [kV kv.1,kv.2]),λi H=>H a=some (.frz o (.dK kvs))/\kvs.length<=i]
def iz:entryFor table "dict_itemiterator.__iter__"=some Builtin.«dict_keyiterator.__iter__»:=entryFor_alias (id':="dict_keyiterator.__iter__") (by kernel_rfl) rfl (by decide+kernel) (by kernel_rfl)
def Inv.trackI(I:Inv X pins σ H s)(h0:X.s₀.heap.objs.size<=t)(hn:H t=none)(hL:t≠X.env.locals)(hc:∀x c,X.env.cells.lookup x=some c->c≠t)(hp:∀p∈X.pn++pins,p.1≠t)(hok:HOk X.prog X.w (upd H t o) s.heap):Inv X pins σ (upd H t o) s:=by
 have up:∀c,c≠t->H c=none->upd H t o c=none:=λc n r=>by rw[aG n];exact r
 refine#[I.ok,I.os,I.bare,#[I.base.keep,I.base.slot,λb d e n i=>up b (km (j7 (jO e) h0)) (I.base.free b d e n i),I.base.there,λb h e=>?_,λb d z e=>?_,λb ps e=>?_],I.loc,I.cell,up _ hL.symm I.free,λx c e=>up _ (hc x c e) (I.freeC x c e),λp a=>?_,hok,I.len]
 ·have q:=I.base.tups b h e;rw[aG (aP q hn)];exact q
 ·have q:=I.base.frzs b d z e;rw[aG (aP q hn)];exact q
 ·let#[m,q]:=I.base.tbls b ps e;exact#[m,by rw[aG (aP q hn)];exact q]
 ·let#[e,n,r]:=I.pin p a;exact#[e,up _ (hp p a) n,r]
def turn_items{K:W.Frag}(a it:Addr)(o:Obj)(kvs:List (Key×V))(hd:o.data=.dict es ep):
  Turn P w K (.Tuple elts x1 tpos) (Iti a o kvs) [it] it (λi h=>∃ok ov,IsItemIter h it a i kvs.length ep ok ov) where
 mem:=by simp
 obj:=λi h d b j=>by
  have e:b=it:=by simpa using j
  subst e;let#[ok,ov,e]:=d
  exact#[_,e,λv z=>by
   have z':Data.fields _=Data.cell v:=z
   cases z']
 keep:=λi h h' d k=>let⟨ok,ov,e⟩:=d;#[ok,ov,k it (by simp) _ e]
 item:=by
  intro X hP hw Z hc i m s σ H E I hf d hg;subst hP hw Z;let#[U,hi]:=hg;let#[B,hz,hs,W,r,o',aa,Y,D,e2,y,S,Q,O]:=I.hok a _ U;rw[B]at D;cases D;rw[hd]at y;cases y;have hx:kvs[i]?=some kvs[i]:=jF hi;let#[v,hv,rv]:=KV.get r hx;let#[L,M,f2,f3,f4,T]:=hf it (by simp);let#[ok,ov,d]:=d;have l:IsItemIter s.heap it a i W.length ep ok ov:=by rw[<-r.length];exact d
  refine wpAny_pyNext_items_item l #[o,es,B,e2,hd,S,Q,O] hv λG h' hk A ht ac kk=>?_;rw[<-r.length]at A;refine#[9,?_];refine wpAny_letOwnedTupleGo_items (s:={s with heap:=h'}) A λh2 N sb=>?_;have nt:s.heap.objs.size≠it:=k8 (jO l);have I1:Inv X m σ H {s with heap:=h2,toks:=s.toks}:=I.turned (t':=s.toks) (λb o j e=>(sb.2 b j).trans (kk b o j e)) L M f3 f4 T;have J:H s.heap.objs.size=none:=I.hok.fresh (jJ _);have R:h2.get? s.heap.objs.size=some {cls:=.type "tuple",data:=.seq (List.toArray [G,v])}:=(sb.2 _ nt).trans ht
  have ab:HOk X.prog X.w (upd H s.heap.objs.size (.tup [kV (kvs[i]).1,(kvs[i]).2])) h2:=λb u e=>by
   by_cases j:b=s.heap.objs.size
   ·subst j;rw[aC]at e
    cases e;exact#[zL2,[G,v],.cons (is_kV hk) (.cons rv .nil),_,R,8,9]
   ·rw[aG j]at e;exact(I1.hok b u e).stay (λ_ _ _ q=>q) (λc q=>by rw[aG (aP q J)];exact q) λc xs q=>by rw[aG (aP q J)];exact q
  have I2:=I1.trackI (t:=s.heap.objs.size) I.sz J (k8 I.lt) (λx c e z=>by
   let#[v,q]:=I.cell x c e;exact absurd q.lt (by rw[z];exact ku _)) (λp hp z=>absurd (jO (I.pin p hp).1) (by rw[z];exact ku _)) ab
  refine#[.ref s.heap.objs.size,_,I2,8,#[_,_,hx,J,8,8],#[_,_,N],λb j=>?_];have e:b=it:=by simpa using j
  subst e;rw[aG nt.symm];exact L
 done:=by
  intro X hP hw Z hc i m s σ H E I hf d hg;subst hP hw Z;let#[U,hi]:=hg;let#[B,hz,hs,W,r,o',aa,Y,D,e2,y,S,Q,O]:=I.hok a _ U;rw[B]at D;cases D;rw[hd]at y;cases y;let#[L,M,f2,f3,f4,T]:=hf it (by simp);let#[ok,ov,d]:=d;have l:IsItemIter s.heap it a i W.length ep ok ov:=by rw[<-r.length];exact d
  exact wpAny_pyNext_items_end (I.ok.hd hc) l #[o,es,B,e2,hd,S,Q,O] (List.getElem?_eq_none (by rw[<-r.length];exact hi)) λh' eb=>#[8,I.turned (t':=s.toks) (λb o j e=>eb b o j e) L M f3 f4 T]
 self:=λ_ _ _ _ _ d h=>by
  let#[ok,ov,d]:=d;have hT:Shared.TypeIs _ (.ref it) "dict_itemiterator":=#[_,d,8];refine wpAny_pyIter_slot hT F.slot_dict_itemiterator_iter (wpAny_call_entry F.slot_dict_itemiterator_iter hT iz ?_ (F.args_dict_itemiterator_iter_1 _));show wpAny _ _ (ret (.ref it)) _ _ _;exact jN #[9,"dict_itemiterator",_,hT,F.slot_dict_itemiterator_next.lookup,h]
abbrev iItems(to:TE):TI:=λσ H R=>to σ H λx H1=>∃a kvs,x=.ref a/\H1 a=some (.dK kvs)/\∀o,R (Iti a o kvs) (upd H1 a (.frz o (.dK kvs)))
def f9(ho:PE X o to)(hbase:attributeBase o "items" X.env (eval o X.env)=eval o X.env:=by rfl)(hline:(apos.endLine==cpos.line)=true:=by rfl):
  PI X (.Tuple elts x1 tpos) (.Call (.Attribute o "items" apos) [] [] cpos) (iItems to):=by
 intro c s σ H R I h;refine wpAny_Call_method0_late hbase hline (thn (ho c s σ H _ I h) λv i⟨x,y,u,L,a,kvs,e,p,q⟩=>?_);subst e
 cases L;let#[P,M,t,r,o,G,ep,m,E,l,D,B,z]:=dk_of u.hok p;have A:i.heap.DictOf (bS X.prog X.w) a t:=#[o,G,ep,m,E,l,D,B,z];let#[O,J]:=tyV_is (T:="dict") u (x:=.ref a) rfl (.inr (.inr (.inl #[8,.inl #[kvs,p]])));refine#["dict","dict.items",F.plainAttrs_dict,F.slot_dict_items,F.type_dict_items,O,J,?_];have N:Inv X c σ (upd y a (.frz o (.dK kvs))) i:=u.freeze p True.intro m;refine method_meetsIn F.slot_dict_items F.entry_dict_items rfl (PySem.evalArgs_none #[8,A.typeIs,F.args_dict_items_1 _,_,meets_dict_items (bS X.prog X.w) a M,#[t,A],?_]);have j:Inv X c σ (upd y a (.frz o (.dK kvs))) {i with heap:=i.heap.push {cls:=.type "dict_items",data:=.fields (List.toArray [.ref a])}}:=N.kept (t':=i.toks) λb o e=>jG _ e;refine wpAny_pyIter_items (knd:=bS X.prog X.w) (d:=a) (kvs:=t) (ep:=ep) #[_,jT _ rfl,8,8] #[o,G,jG _ m,E,l,D,B,z] ?_;refine#[_,[_],_,_,9,j.kept (t':=i.toks) λb o e=>jG _ e,turn_items a _ o kvs l,#[.none,.none,?_],λb K=>?_,q o]
 ·rw[r.length];exact jT _ rfl
 ·have e:=li.mp K;subst e;exact j.fpOk (jJ _) (j.hok.fresh (jJ _))
end
def gf{g:TG}{tb:TS}{D:Ends}(Pv:Nat->St->Hp->Prop)(h0:Pv 0 σ H)(hl:∀i σ H,i<=kvs.length->Pv i σ H->H a=some (.frz o (.dK kvs)))
  (hs:∀i kv t σ H,kvs[i]?=some kv->H t=none->Pv i σ H->g (.ref t) σ (upd H t (.tup [kV kv.1,kv.2])) λσ2 H2=>tb {D with nx:=Pv (i+1),ct:=Pv (i+1),bk:=D.nx} σ2 H2)(hd:∀σ H,Pv kvs.length σ H->D.nx σ H):
  ∃W:Nat->Nat->St->Hp->Prop,(∃m,W 0 m σ H)/\∀i m σ H,W i m σ H->
   ((Iti a o kvs).stop i H/\D.nx σ H)∨((Iti a o kvs).go i H/\∃N:St->Hp->Prop,(∀σ' H',N σ' H'->∃m',m'<m/\W (i+1) m' σ' H')/\∀x H',(Iti a o kvs).yld i H x H'->g x σ H' λσ2 H2=>tb {D with nx:=N,ct:=N,bk:=D.nx} σ2 H2):=by
 refine#[λi m σ H=>m=kvs.length-i×' i<=kvs.length×' Pv i σ H,#[kvs.length,by simp,jZ _,h0],?_];rintro i m σ H⟨rfl,hi,p⟩;have q:=hl i σ H hi p;by_cases hlt:i<kvs.length
 ·refine .inr #[#[q,hlt],Pv (i+1),λσ' H' d=>#[kvs.length-(i+1),4,8,hlt,d],λx H' y=>?_];let#[kv,t,b,c,ex,h]:=y;subst ex h;exact hs i kv t σ _ b c p
 ·have e:i=kvs.length:=by lia
  subst e;exact .inl #[#[q,jJ _],hd σ H p]
end L2
namespace L2
open PySem PySem.Spec PyProof.Rows
def vals_idx:∀{xs:List V}{us:List Value},xs.length=us.length->(∀(j:Nat)(x:V)(u:Value),xs[j]?=some x->us[j]?=some u->RelV x u)->Vals xs us
 |[],[],_,_=>.nil
 |[],_::_,h,_=>by cases h
 |_::_,[],h,_=>by cases h
 |x::xs,u::us,h,k=>.cons (k 0 x u rfl rfl) (vals_idx (Nat.succ.inj h) λj y w a b=>k (j+1) y w (by simpa using a) (by simpa using b))
section
variable{X:Cx}
def call_list_dict(hh:X.A.handled=none):et X (.type "list") (λxs H Q=>∃p kvs,xs=[.ref p]/\Rd H p (.dK kvs)/\∀l,H l=none->Q (.ref l) (upd H l (.lst (kvs.map λkv=>kV kv.1)))):=by
 intro A s σ H xs R Q I r h;let#[p,kvs,8,P,q]:=h;let#[u,8,L]:=fS r
 cases L;let#[B,N,J,kv,F]:=fM I.hok P;let#[ep,o]:=F.dictAt;have D:=kv.length;refine PySem.W.kdl_call (PySem.W.kdl_dict (knd:=bS X.prog X.w) (kvs:=J) (ep:=ep) N) hh o (by rw[<-D];exact B) λO E t c i m d=>?_;let#[G,K]:=d;refine#[.ref s.heap.objs.size,_,I.laid (t':=E) i (jJ _) (show ObjOk X.prog X.w _ O _ (.lst (kvs.map λkv=>kV kv.1)) from#[by rw[jE];exact B,t.toList,c,vals_idx (by rw[jE,D,<-G];simp) λj x w a b=>?_,by simpa using m]),8,q _ (I.hok.fresh (jJ _))];rw[jM]at a
 cases e:kvs[j]? with
 |none=>rw[e]at a;cases a
 |some z=>
  rw[e]at a
  cases a;let#[v,M,_]:=KV.get kv e;let#[k,y,i,hi]:=K j w (by simpa using b);rw[M]at i
  cases i;exact is_kV hi
abbrev iQ(v d:Addr):HO:=.ext λh=>h.IsValuesView v d
abbrev rValues:V->List V->Hp->VK->Prop:=λx vs H Q=>∃a kvs,x=.ref a/\vs=[]/\Rd H a (.dK kvs)/\∀v,H v=none->Q (.ref v) (upd H v (iQ v a))
def mt_values:MtM X "dict.values" rValues:=by
 intro d s σ H x y v B Q I l m h;let#[a,j,8,8,u,q]:=h
 cases l
 cases m;let#[D,p,t,E,i]:=fM I.hok u;refine call_meetsIn PySem.F.slot_dict_values i.typeIs PySem.F.entry_dict_values (PySem.F.args_dict_values_1 _) (meets_dict_values (bS X.prog X.w) a p) #[#[t,i],?_];have e:(s.heap.push {cls:=.type "dict_values",data:=.fields (List.toArray [.ref a])}).get? s.heap.objs.size=some {cls:=.type "dict_values",data:=.fields (List.toArray [.ref a])}:=jT _ rfl;refine#[.ref s.heap.objs.size,_,I.laid (t':=s.toks) (λb o e=>jG _ e) (jJ _) (show ObjOk X.prog X.w _ _ _ (iQ _ a)from#[#[_,e,8,8],#[_,e],λG A z k=>?_]),8,q _ (I.hok.fresh (jJ _))];let#[o,r,c]:=z;exact#[o,k _ r,c]
def ii(hh:X.A.handled=none):et X (.type "list") (λxs H Q=>∃v a kvs,xs=[.ref v]/\H v=some (iQ v a)/\Rd H a (.dK kvs)/\∀l,H l=none->Q (.ref l) (upd H l (.lst (kvs.map (·.2))))):=by
 intro B s σ H xs U Q I r h;let#[v,p,kvs,8,R,T,q]:=h;let#[u,8,O]:=fS r
 cases O;let#[D,Y,M,F,J]:=fM I.hok T;let#[ep,t]:=J.dictAt;let#[d,_]:=(show ObjOk X.prog X.w H s.heap v (iQ v p) from I.hok v _ R);have E:=F.length;refine PySem.W.kdl_call (PySem.W.kdl_values (knd:=bS X.prog X.w) (kvs:=M) (ep:=ep)) hh #[d,t] (by rw[<-E];exact D) λS G A c m o i=>?_;let#[K,N]:=i;refine#[.ref s.heap.objs.size,_,I.laid (t':=G) m (jJ _) (show ObjOk X.prog X.w _ S _ (.lst (kvs.map (·.2))) from#[by rw[jE];exact D,A.toList,c,vals_idx (by rw[jE,E,<-K];simp) λj x w a b=>?_,by simpa using o]),8,q _ (I.hok.fresh (jJ _))];rw[jM]at a
 cases e:kvs[j]? with
 |none=>rw[e]at a;cases a
 |some z=>
  rw[e]at a
  cases a;let#[y,L,P]:=KV.get F e;let#[k,m]:=N j w (by simpa using b);rw[L]at m
  cases m;exact P
end
end L2
namespace L2
open PySem PySem.Spec PyProof.Rows
section
variable{X:Cx}
def call_dict_copy:et X (.type "dict") (λxs H Q=>∃p kvs,xs=[.ref p]/\Rd H p (.dK kvs)/\∀l,H l=none->Q (.ref l) (upd H l (.dK kvs))):=by
 intro a s σ H xs j Q I r h;let#[p,kvs,8,e,q]:=h;let#[u,8,b]:=fS r
 cases b;exact d_copyOf I e λl i c d=>#[.ref l,_,d,8,q l c]
end
section
variable{l:Addr}{k:Nat}{g:TG}{tc:TT}{te:TE}{ρ:St}{R:Hp->Prop}{H₀:Hp}
def compG_items(Pv:Nat->Hp->Prop)(h0:Pv 0 (upd H₀ l (.lst [])))(hl:∀i H,Pv i H->H a=some (.frz o (.dK kvs)))
  (hs:∀i kv t H,kvs[i]?=some kv->H t=none->Pv i H->∀zs:St,zs.length=k->g (.ref t) (zs++ρ) (upd H t (.tup [kV kv.1,kv.2])) λσ2 H2=>(∃zs':St,zs'.length=k/\σ2=zs'++ρ)/\tc σ2 H2 λb H3=>if b=true then te σ2 H3 λy H4=>∃ys,H4 l=some (.lst ys)/\ys.length<sizeLine/\fw kvs.length Pv i (upd H4 l (.lst (ys++[y])))else fw kvs.length Pv i H3)
  (hd:∀H,Pv kvs.length H->R H):
  ∃W:Nat->Nat->Hp->Prop,(∃m,W 0 m (upd H₀ l (.lst [])))/\∀i m H,W i m H->
   ((Iti a o kvs).stop i H/\R H)∨((Iti a o kvs).go i H/\∀x H',(Iti a o kvs).yld i H x H'->∀zs:St,zs.length=k->g x (zs++ρ) H' λσ2 H2=>(∃zs':St,zs'.length=k/\σ2=zs'++ρ)/\tc σ2 H2 λb H3=>if b=true then te σ2 H3 λy H4=>∃ys,H4 l=some (.lst ys)/\ys.length<sizeLine/\∃m',m'<m/\W (i+1) m' (upd H4 l (.lst (ys++[y])))else∃m',m'<m/\W (i+1) m' H3):=
 gl (n:=kvs.length) Pv h0 (λi H hi p=>#[hl i H p,hi]) (λH p=>#[hl _ H p,jJ _]) (λi x H H' hi y p=>by
  let#[kv,t,c,d,ex,e]:=y;subst ex e;exact hs i kv t _ c d p) hd
end
section
variable{X:Cx}{CX:CXT}{j:Nat}{E:XK}{m:Str}{pos apos:Pos}{e o:Expr}{es:List Expr}{ta:TE}{t:TA}
def pe_mtDK{K:W.Frag}(hP:X.prog=P)(hw:X.w=w)(hK:X.K=K)(hmg:X.mg=mg)(hb:X.base=base)(he:PE X o ta)(hr:Room j X.A)(hx:dk CX X E)(ha:PA X (e::es) t)
  (hst:starEach (e::es) X.env=(false,eval e X.env)::starEach es X.env:=by rfl)(hpl:(backTo pos (starEach es X.env)).any (·.1)=false:=by rfl)
  (ht:eval (.Call (.Attribute o m apos) (e::es) [] pos) X.env=(do
   let ov<-eval o X.env
   standAt apos.atName
   let(f,first)<-holding [ov] (getMethod ov m pl)
   callWith pos f first (backTo pos (starEach (e::es) X.env)) (backToKw pos (keywordEach [] X.env))):=by rfl):PE X (.Call (.Attribute o m apos) (e::es) [] pos) (tMethD P w K mg base CX m j E ta t):=by
 subst hP hw hK hmg hb;exact eD he hr hx ha hst hpl ht
def jm{K:W.Frag}{t:TGs}(hK:X.K=K)(hc:X.calm=true)(h:PGs X es t)
  (hn:(assignEach es X.env).length=n:=by rfl)(hst:(assignEach es X.env).findIdx? (·.1)=none:=by rfl):PG X (.Tuple es k pos) (gTup K n t):=by
 subst hK;exact gx hc h hn hst
end
section
variable{X:Cx}
end
end L2
namespace L2
open PySem PySem.Spec PyProof.Rows
def eqV_str(x y:Str):eqV (.str x) (.str y)=decide (x=y):=by
 unfold eqV;by_cases h:x=y
 ·subst h;simp
 ·simp[h]
def gg(ts:List Str):(ts.map V.str).all dY=true:=by
 rw[kR];intro v a;let#[t,_,8]:=j9.mp a;rfl
section
variable{X:Cx}
end
section
variable{prog:Program}{w:World}{A:Around}
variable{E:Value->Shared->Prop}{s:Shared}
end
section
variable{X:Cx}
inductive IrNeL(K:W.Frag)(x:V)(y:V)(H:Hp)(Q:VK):Prop
 |mk(p:_)(q:_)(xs:_)(ys:_)(h1:x=.ref p)(h2:y=.ref q)(h3:SqL K H p xs)(h4:SqL K H q ys)(h5:xs.all dY=true)(h6:ys.all dY=true)(h7:Q (.bl (!jA xs ys)) H):IrNeL K x y H Q
abbrev rNeL(K:W.Frag):R2:=λx y H Q=>IrNeL K x y H Q
def op_neL(hu:X.A.units<cLine):OpR X (compareOp .NotEq) (rNeL X.K):=by
 intro l s σ H x y v u Q I F K h;let#[p,q,a,b,8,8,N,z,B,M,k]:=h
 cases F
 cases K;let#[G,r,i,_]:=I.list N;let#[L,m,c,_]:=I.list z;have A:=r.length;have O:=m.length;by_cases hl:a.length=b.length
 ·refine SeqAt.RcNeAt.lists (e:=jC a b) i.isList c.isList (by simp;lia) hu (λj J t=>?_) X.prog X.w X.xe _ #[.bl _,H,I,8,?_]
  ·have E:j<G.length:=by simpa using J
   have D:j<L.length:=by simpa using t
   have o:a[j]?=some (a[j]'()):=jF _;have d:b[j]?=some (b[j]'()):=jF _
   have:jC a b j=eqV (a[j]'()) (b[j]'()):=by unfold jC;rw[o,d]
   rw[this,kM,kM];exact eqAt_V (dF r o (jF E)) (dF m d (jF D)) (kR.mp B _ (lv _)) (kR.mp M _ (lv _))
  ·rw[j0,<-A,eqVs_all hl];exact k
 ·refine SeqAt.RcNeAt.lists_lengths i.isList c.isList (by simp;lia) hu X.prog X.w X.xe _ #[.bl _,H,I,8,?_];rw[eqVs_len hl]at k;exact k
end
end L2
namespace L2
open PySem PySem.Spec PyProof.Rows
section
variable{X:Cx}
def tup_all{us ws:List Value}(e1:xs.length=us.length)(e2:ys.length=ws.length):((List.range (min us.toArray.size ws.toArray.size)).all (jC xs ys)&&us.toArray.size==ws.toArray.size)=jA xs ys:=by
 rw[j0,j0,<-e1,<-e2];by_cases hl:xs.length=ys.length
 ·rw[<-hl,Nat.min_self,eqVs_all hl];simp
 ·rw[eqVs_len hl];simp[hl]
def tup_eqs(I:Inv X pins σ H s)(r:Vals xs us)(r':Vals ys ws)(fx:xs.all dY=true)(fy:ys.all dY=true):∀j(h1:j<us.toArray.size)(h2:j<ws.toArray.size),SeqAt.EqAt A s us.toArray[j] ws.toArray[j] (jC xs ys j):=λj h1 h2=>by
 have h:=r.length;have e:=r'.length;have d:j<us.length:=by simpa using h1
 have c:j<ws.length:=by simpa using h2
 have b:xs[j]?=some (xs[j]'()):=jF _;have a:ys[j]?=some (ys[j]'()):=jF _
 have:jC xs ys j=eqV (xs[j]'()) (ys[j]'()):=by unfold jC;rw[b,a]
 rw[this,kM,kM];exact eqAt_V (dF r b (jF d)) (dF r' a (jF c)) (kR.mp fx _ (lv _)) (kR.mp fy _ (lv _))
abbrev rNeT(K:W.Frag):R2:=λx y H Q=>∃p q xs ys,x=.ref p/\y=.ref q/\SqT K H p xs/\SqT K H q ys/\xs.all dY=true/\ys.all dY=true/\Q (.bl (!jA xs ys)) H
def op_neT(hu:X.A.units<cLine):OpR X (compareOp .NotEq) (rNeT X.K):=by
 intro b s σ H x y v u Q I j o h;let#[p,q,d,m,8,8,A,i,z,t,k]:=h
 cases j
 cases o;let#[B,r,l,_]:=I.tuple A;let#[D,c,a,_]:=I.tuple i;refine SeqAt.RcNeAt.tuples (e:=jC d m) l a hu (tup_eqs I r c z t) X.prog X.w X.xe _ #[.bl _,H,I,8,?_];rw[tup_all r.length c.length];exact k
end
end L2
namespace L2
open PySem PySem.Spec PyProof.Rows
abbrev Its(z:Str):It:=#[λi _=>i<z.cps.size,λi H v H'=>H'=H/\∃c,z.cps[i]?=some c/\v=.str #[(List.toArray [c])],λi _=>z.cps.size<=i]
section
variable{X:Cx}
def turn_str{K:W.Frag}(z:Str)(t:Tok)(it:Addr):Turn P w K tg (Its z) [it] it (λi h=>h.IsStrIter it (strIterType z) z t i) where
 mem:=by simp
 obj:=λi h a b l=>by
  have e:b=it:=by simpa using l
  subst e;let#[o,e,c,d]:=a;exact#[o,e,λv z=>by rw[d]at z;cases z]
 keep:=λi h m a k=>by
  let#[o,e,c,d]:=a;exact#[o,k it (by simp) o e,c,d]
 item:=by
  intro X L M Q N i j s σ H E I D a J;subst L M Q;let#[G,r,S,F,B,y]:=D it (by simp);have p:z.cps[i]?=some (z.cps[i]'J):=Array.getElem?_eq_getElem J
  have fin:∀m,m.IsStrIter it (strIterType z) z t (i+1)->Heap.SameBut it s.heap m->∃u,some (Value.str #[(List.toArray [z.cps[i]'J])] s.toks)=some u/\
    wpAny (model X.prog X.w) X.A (letOwnedTupleGo tg (.ref it) u) (λ_ R=>∃x H',Inv X j σ H' R/\RelV x u/\(Its z).yld i H x H'/\R.heap.IsStrIter it (strIterType z) z t (i+1)/\∀b∈[it],H' b=none) E {s with heap:=m,toks:=s.toks+1}:=λm q U=>by
   have T:Inv X j σ H {s with heap:=m,toks:=s.toks+1}:=I.turned (t':=s.toks+1) (λb o l e=>(U.2 b l).trans e) G r F B y;let#[o,e,c,d]:=id q;refine#[9,go_of (s:={s with heap:=m,toks:=s.toks+1}) e c d ?_ #[.str #[(List.toArray [z.cps[i]'J])],H,T,#[9],#[8,_,p,8],q,λb l=>(D b l).1]];unfold strIterType
   split<;>decide
  by_cases ha:z.cps.all (·<128)=true
  ·have e:strIterType z="str_ascii_iterator":=if_pos ha;rw[e]at a fin⊢;exact wpAny_pyNext_ascii_item a p fin
  ·have e:strIterType z="str_iterator":=if_neg ha;rw[e]at a fin⊢;exact wpAny_pyNext_wide_item a p fin
 done:=by
  intro X L M Q N i j s σ H E I D a J;subst L M Q;let#[G,r,S,F,B,y]:=D it (by simp);have p:z.cps[i]?=none:=Array.getElem?_eq_none J;by_cases ha:z.cps.all (·<128)=true
  ·have e:strIterType z="str_ascii_iterator":=if_pos ha;rw[e]at a;exact wpAny_pyNext_ascii_end (I.ok.hd N) a p λm O=>#[8,I.turned (t':=s.toks) (λb o l e=>O b o l e) G r F B y]
  ·have e:strIterType z="str_iterator":=if_neg ha;rw[e]at a;exact wpAny_pyNext_wide_end (I.ok.hd N) a p λm O=>#[8,I.turned (t':=s.toks) (λb o l e=>O b o l e) G r F B y]
 self:=λ_ _ _ _ _ a h=>by
  by_cases ha:z.cps.all (·<128)=true
  ·have e:strIterType z="str_ascii_iterator":=if_pos ha;rw[e]at a;exact wpAny_pyIter_striter_ascii a h
  ·have e:strIterType z="str_iterator":=if_neg ha;rw[e]at a;exact wpAny_pyIter_striter_wide a h
abbrev iStr(tl:TE):TI:=λσ H R=>tl σ H λx H1=>∃z,x=.str z/\R (Its z) H1
def pi_str(hl:PE X l tl):PI X tg l (iStr tl):=by
 intro a s σ H R I h;refine thn (hl a s σ H _ I h) λv d⟨x,j,i,p,r⟩=>?_;let#[z,e,q]:=r;subst e;let#[t,8]:=p;refine wpAny_pyIter_strU #[_,[d.heap.objs.size],_,_,j,8,i.kept (t':=d.toks) (λb o e=>jG _ e),turn_str z t d.heap.objs.size,#[_,jT _ rfl,8,8],λc m=>?_,q];have e:c=d.heap.objs.size:=by simpa using m
 subst e;exact i.fpOk (jJ _) (i.hok.fresh (jJ _))
abbrev rStarts:V->List V->Hp->VK->Prop:=λx vs H Q=>∃z y,x=.str z/\vs=[.str y]/\Q (.bl (Txt.startswith z y)) H
def mt_starts:MtM X "str.startswith" rStarts:=by
 intro a s σ H x e v i Q I b c h;let#[z,y,8,8,q]:=h;let#[t,8]:=b;let#[u,8,d,8]:=c.one;exact call_gives F.slot_str_startswith (typeIs_str _ _ _) F.entry_str_startswith (F.args_str_startswith_2 _ _) (gives_str_startswith z y t d) #[.bl _,H,I,8,q]
abbrev rPart:V->List V->Hp->VK->Prop:=λx vs H Q=>∃z y,x=.str z/\vs=[.str y]/\(y.length==0)=false/\z.length<=sizeLine/\∀p,H p=none->Q (.ref p) (upd H p (.tup [.str (Txt.partition z y).1,.str (Txt.partition z y).2.1,.str (Txt.partition z y).2.2]))
def mt_part:MtM X "str.partition" rPart:=by
 intro d s σ H x D v E Q I m p h;let#[z,y,8,8,B,w,q]:=h;let#[t,8]:=m;let#[u,8,t',8]:=p.one;have A:H s.heap.objs.size=none:=I.hok.fresh (jJ _)
 have fin:∀(a b c:Str)(l tb j k:Tok),(a,b,c)=Txt.partition z y->EP X d σ Q (.ref s.heap.objs.size) {s with heap:=s.heap.push {cls:=.type "tuple",data:=.seq [.str a l,.str b tb,.str c j].toArray},toks:=k}:=λa b c l tb j k e=>by
  have q:=q _ A;rw[<-e]at q;refine#[.ref s.heap.objs.size,_,I.laid (t':=k) (λb o e=>jG _ e) (jJ _) ?_,8,q];exact#[zL3,[.str a l,.str b tb,.str c j],.cons #[9] (.cons #[9] (.cons #[9] .nil)),_,jT _ rfl,8,9]
 refine call_meets F.slot_str_partition (typeIs_str _ _ _) F.entry_str_partition (F.args_str_partition_2 _ _) (meets_str_partition z y t t' B w) ?_;unfold Txt.partition at fin
 revert fin
 cases Builtin.Str.occurrences z y 0 z.length 1 with
 |nil=>intro fin;exact fin _ _ _ _ _ _ _ rfl
 |cons i r=>intro fin;exact fin _ _ _ _ _ _ _ rfl
def call_int_txt:et X (.type "int") (λxs H Q=>∃z n,xs=[.str z]/\z.length<=640/\PySem.intText? z=some n/\Q (.int n) H):=by
 intro a s σ H xs d Q I r h;let#[z,n,8,b,c,q]:=h;let#[u,8,t,8]:=fS r;exact PySem.W.KIN.call_text c b #[.int n,H,I.tok _,#[9],q]
def pe_gs(h:∃tk,X.mg x=some (.str i tk))(hg:Gl X x:=by rfl)(hd:(x==("__debug__":Str))=false:=by decide):PE X (.Name x pos) (tC (.str i)):=by
 let#[tk,h]:=h;exact cP hg h #[tk,8] hd
def call_allK{K:W.Frag}(hK:X.K=K)(hh:X.A.handled=none):et X (.builtin "all") (λxs H Q=>∃p bs,xs=[.ref p]/\SqL K H p ((bs:List Bool).map V.bl)/\Q (.bl (bs.all id)) H):=by
 subst hK;intro w s σ H xs M Q I r h;let#[p,bs,8,F,q]:=h;let#[u,8,D]:=fS r
 cases D;let#[a,t,j,N]:=I.list F;have m:=t.length;rw[jE]at m;have lt:p<s.heap.objs.size:=by let#[o,n,e,_]:=j;exact jO e
 refine call_all_walk (wpAny_pyIter_list j.isList ?_);refine#[s.heap.objs.size,_,_,_,_,_,λi=>bs.getD i true,8,Walks.list (A:=X.A.in1) hh s.heap.objs.size p (km lt) a.toArray,#[#[_,jT _ rfl,8,8],j.isList.push _],λi v G J L l E=>?_,λO B z=>?_]
 ·have l:a.toArray[i]?=some v:=l;have hi:a[i]?=some v:=by simpa using l
  have c:bs[i]?=some (bs[i]'(by have:=(jH.mp hi).1;lia)):=jF _;have d:=dF t (x:=.bl _) (by rw[jM,c];rfl) hi;have d:v=Value.bool _:=d;rw[d];refine wpAny_truthy_bool ?_;have e:bs.getD i true=bs[i]'(by have:=(jH.mp hi).1;lia):=by rw[j3,c];rfl
  rw[<-e];exact E
 ·have e:(List.range a.toArray.size).all (λi=>bs.getD i true)=bs.all id:=by
   rw[j0,<-m];rw[Bool.eq_iff_iff,kR,kR];constructor
   ·intro h b c;let#[i,hi]:=kO.mp c
    have:=h i (List.mem_range.mpr (jH.mp hi).1)
    rw[j3,hi]at this;exact this
   ·intro h i hi;rw[j3,jF (List.mem_range.mp hi)];exact h _ (lv _)
  rw[e]
  exact#[.bl _,H,I.kept (t':=B) (λb o c=>z b o (λy=>by
   have e:b=s.heap.objs.size:=by simpa using y
   exact absurd (jO c) (by rw[e];exact ku _)) (jG _ c)),8,q]
end
section
variable{l:Addr}{k:Nat}{g:TG}{tc:TT}{te:TE}{ρ:St}{R:Hp->Prop}{H₀:Hp}
def compG_str(Pv:Nat->Hp->Prop)(h0:Pv 0 (upd H₀ l (.lst [])))
  (hs:∀i c H,z.cps[i]?=some c->Pv i H->∀zs:St,zs.length=k->g (.str #[(List.toArray [c])]) (zs++ρ) H λσ2 H2=>(∃zs':St,zs'.length=k/\σ2=zs'++ρ)/\tc σ2 H2 λb H3=>if b=true then te σ2 H3 λy H4=>∃ys',H4 l=some (.lst ys')/\ys'.length<sizeLine/\fw z.cps.size Pv i (upd H4 l (.lst (ys'++[y]))) else fw z.cps.size Pv i H3)
  (hd:∀H,Pv z.cps.size H->R H):
  ∃W:Nat->Nat->Hp->Prop,(∃m,W 0 m (upd H₀ l (.lst [])))/\∀i m H,W i m H->
   ((Its z).stop i H/\R H)∨((Its z).go i H/\∀x H',(Its z).yld i H x H'->∀zs:St,zs.length=k->g x (zs++ρ) H' λσ2 H2=>(∃zs':St,zs'.length=k/\σ2=zs'++ρ)/\tc σ2 H2 λb H3=>if b=true then te σ2 H3 λy H4=>∃ys,H4 l=some (.lst ys)/\ys.length<sizeLine/\∃m',m'<m/\W (i+1) m' (upd H4 l (.lst (ys++[y]))) else∃m',m'<m/\W (i+1) m' H3):=
 gl (n:=z.cps.size) Pv h0 (λi H hi p=>hi) (λH p=>jJ _) (λi x H H' hi y p=>by
  let#[8,c,a,8]:=y;exact hs i c _ a p) hd
end
end L2
namespace L2
open PySem PySem.Spec PyProof.Rows
section
variable{X:Cx}
inductive EqD(K:W.Frag)(H:Hp):Nat->V->V->Prop
 |flat{n:Nat}{v:V}(h:dY v=true):EqD K H n v v
 |lst{n:Nat}{p q:Addr}{xs ys:List V}(hp:SqL K H p xs)(hq:SqL K H q ys)(hl:xs.length=ys.length)(h:∀(j:Nat)(x y:V),xs[j]?=some x->ys[j]?=some y->EqD K H n x y):EqD K H (n+1) (.ref p) (.ref q)
 |tup{n:Nat}{p q:Addr}{xs ys:List V}(hp:SqT K H p xs)(hq:SqT K H q ys)(hl:xs.length=ys.length)(h:∀(j:Nat)(x y:V),xs[j]?=some x->ys[j]?=some y->EqD K H n x y):EqD K H (n+1) (.ref p) (.ref q)
def jB(h:dY v=true):eqV v v=true:=by
 cases v with
 |non=>rfl
 |bl b=>cases b<;>rfl
 |int i=>show(i==i)=true;exact beq_self_eq_true i
 |str z=>show(z==z)=true;exact beq_self_eq_true z
 |_=>exact absurd (show false=true from h) j2
def all_tt(n:Nat):(List.range n).all (λ_=>true)=true:=by rw[kR];exactλ_ _=>rfl
def EqD.at(I:Inv X pins σ H s)(h:EqD X.K H n v u):∀{A:Around}{v' u':Value},A.units+n<cLine->RelV v v'->RelV u u'->SeqAt.EqAt A s v' u' true:=by
 induction h with
 |flat h=>
  intro A v' u' _ c i
  have:=eqAt_V (A:=A) (s:=s) c i h h
  rw[jB h]at this;exact this
 |@lst n p q xs ys hp hq hl h ih=>
  intro A v' u' D c i
  cases c
  cases i;by_cases e:p=q
  ·subst e;exact SeqAt.EqAt.same _
  ·let#[m,r,y,_]:=I.list hp;let#[o,d,a,_]:=I.list hq;have E:=r.length;have B:=d.length
   have:=SeqAt.RcAt.lists (A:=A) (e:=λ_=>true) y.isList a.isList (by rw[j0,j0];omega) (by omega) (λj z x=>by
    have w:j<m.length:=by simpa using z
    have t:j<o.length:=by simpa using x
    have l:xs[j]?=some (xs[j]'(by omega)):=jF _;have b:ys[j]?=some (ys[j]'(by omega)):=jF _;rw[kM,kM];exact ih j _ _ l b (show A.units+1+n<cLine by omega) (dF r l (jF w)) (dF d b (jF t)))
   rw[all_tt]at this;exact SeqAt.EqAt.of_refs e this
 |@tup n p q xs ys hp hq hl h ih=>
  intro A v' u' D c i
  cases c
  cases i;by_cases e:p=q
  ·subst e;exact SeqAt.EqAt.same _
  ·let#[m,r,y,_]:=I.tuple hp;let#[o,d,a,_]:=I.tuple hq;have E:=r.length;have B:=d.length
   have:=SeqAt.RcAt.tuples (A:=A) (e:=λ_=>true) y a (by omega) (λj z x=>by
    have w:j<m.length:=by simpa using z
    have t:j<o.length:=by simpa using x
    have l:xs[j]?=some (xs[j]'(by omega)):=jF _;have b:ys[j]?=some (ys[j]'(by omega)):=jF _;rw[kM,kM];exact ih j _ _ l b (show A.units+1+n<cLine by omega) (dF r l (jF w)) (dF d b (jF t)))
   rw[all_tt,j0,j0,show m.length=o.length by omega,beq_self_eq_true,Bool.and_self]at this;exact SeqAt.EqAt.of_refs e this
end
end L2
namespace L2
open PySem PySem.Spec PyProof.Rows
section
variable{X:Cx}
def strs_from:∀(k:Nat)(xs:List Str),Vals (xs.map V.str) (PySem.strsFrom k xs)
 |_,[]=>.nil
 |k,_::xs=>.cons #[9] (strs_from (k+1) xs)
abbrev rSplit:V->List V->Hp->VK->Prop:=λx vs H Q=>∃z y,x=.str z/\vs=[.str y]/\(y.length==0)=false/\z.length<=sizeLine/\(Txt.split z y).length<=sizeLine/\∀p,H p=none->Q (.ref p) (upd H p (.lst ((Txt.split z y).map V.str)))
def mt_split:MtM X "str.split" rSplit:=by
 intro d s σ H x B v D Q I l m h;let#[z,y,8,8,j,p,c,q]:=h;let#[t,8]:=l;let#[u,8,t',8]:=m.one;have A:H s.heap.objs.size=none:=I.hok.fresh (jJ _)
 have fin:∀(i:List Value)(k:Tok),Vals ((Txt.split z y).map V.str) i->EP X d σ Q (.ref s.heap.objs.size) {s with heap:=s.heap.push {cls:=.type "list",data:=.seq i.toArray},toks:=k}:=λi k r=>
  #[.ref s.heap.objs.size,_,I.laid (t':=k) (λb o e=>jG _ e) (jJ _) (show ObjOk X.prog X.w _ _ _ (.lst ((Txt.split z y).map V.str)) from#[by rw[jE];exact c,i,0,r,jT _ rfl]),8,q _ A]
 have e:=q;unfold Txt.split at fin c;by_cases a:(decide (z.length<y.length)||decide (Builtin.Str.strKind z<Builtin.Str.strKind y))=true
 ·rw[if_pos a]at fin;exact call_meets F.slot_str_split (typeIs_str _ _ _) F.entry_str_split (F.args_str_split_2 _ _) (meets_str_split_cannot_occur z y t t' a) (fin [.str z t] s.toks (.cons #[9] .nil))
 ·rw[if_neg a]at fin c;have a:(decide (z.length<y.length)||decide (Builtin.Str.strKind z<Builtin.Str.strKind y))=false:=by simpa using a
  by_cases h2:(Builtin.Str.occurrences z y 0 z.length (z.length+1)).isEmpty=true
  ·rw[if_pos h2]at fin;exact call_meets F.slot_str_split (typeIs_str _ _ _) F.entry_str_split (F.args_str_split_2 _ _) (meets_str_split_not_found z y t t' a j h2) (fin [.str z t] s.toks (.cons #[9] .nil))
  ·rw[if_neg h2]at fin c;exact call_meets F.slot_str_split (typeIs_str _ _ _) F.entry_str_split (F.args_str_split_2 _ _) (meets_str_split_sep z y t t' a j (by simpa using h2) p c) (fin _ _ (strs_from _ _))
def vals_txt:∀{xs:List Str}{us:List Value},Vals (xs.map V.str) us->∃l:List (Str×Tok),us=strValues l/\l.map (·.1)=xs
 |[],_,.nil=>#[[],8,8]
 |x::xs,_,.cons r rs=>by
  let#[t,8]:=r;let#[l,8,8]:=vals_txt rs;exact#[(x,t)::l,8,8]
abbrev rJoin(K:W.Frag):V->List V->Hp->VK->Prop:=λx vs H Q=>∃z l xs,x=.str z/\vs=[.ref l]/\SqL K H l ((xs:List Str).map V.str)/\(∀y∈xs,y.length<=100)/\z.length<=100/\xs.length<=100/\(Builtin.Str.glued z xs).length<=sizeLine/\Q (.str (Builtin.Str.glued z xs)) H
def mt_join:MtM X "str.join" (rJoin X.K):=by
 intro d s σ H x O v P Q I E A h;let#[z,l,M,8,8,j,B,K,e,a,q]:=h;let#[t,8]:=E;let#[u,8,D]:=A.one
 cases D;let#[m,r,o,_]:=I.list j;let#[c,8,8]:=vals_txt r
 have i:Builtin.Str.tooLong (((c.map (·.1)).toArray).foldl (λ(n:Nat)(p:Str)=>n+p.length+z.length) 0)=false:=by
  rw[StrLaws.joinTotal];unfold Builtin.Str.tooLong;simp only[j1,gt_iff_lt,decide_eq_false_iff_not]
  have J:∀b:List Str,(∀y∈b,y.length<=100)->(b.map (·.length)).sum<=b.length*100:=λb=>by
   induction b with
   |nil=>intro _;simp
   |cons y r ih=>
    intro h;rw[kz,lI,jU,Nat.succ_mul]
    have:=h y jX
    have:=ih λw G=>h w (jW _ G)
    lia
  have L:=J _ B;have N:=Nat.mul_le_mul e K;have R:=Nat.mul_le_mul_right 100 e
  lia
 refine call_meets F.slot_str_join (typeIs_str _ _ _) F.entry_str_join (F.args_str_join_2 _ _) (meets_str_join_list z t l c i) #[o.isList,?_]
 match c,a,q with
 |[],a,q=>exact#[a,.str _,H,I.tok _,#[9],q]
 |[p],a,q=>exact#[.str _,H,I,#[9],q]
 |p::p'::r,a,q=>exact#[a,.str _,H,I.tok _,#[9],q]
end
section
variable{X:Cx}
def glued_len(z:Str)(n:Nat)(ps:List Str)(h:∀p∈ps,p.length<=n):(Builtin.Str.glued z ps).length<=ps.length*(n+z.length):=by
 have gen:∀(b:List Str)(a:Array Nat),(∀p∈b,p.length<=n)->(b.foldl (λa p=>a++z.cps++p.cps) a).size<=a.size+b.length*(n+z.length):=λb=>by
  induction b with
  |nil=>intro a _;simp
  |cons q r ih=>
   intro a c;rw[List.foldl_cons,jU,Nat.succ_mul]
   have:=ih (a++z.cps++q.cps) λp d=>c p (jW _ d)
   rw[Array.size_append,Array.size_append]at this;have e:q.cps.size<=n:=c q jX;have i:z.cps.size=z.length:=rfl
   lia
 cases ps with
 |nil=>exact jZ _
 |cons p r=>
  have:=gen r p.cps λq c=>h q (jW _ c)
  have e:p.cps.size<=n:=h p jX;rw[jU,Nat.succ_mul];show(List.foldl (λa p=>a++z.cps++p.cps) p.cps r).size<=_
  lia
abbrev strE:Expr->Option Str
 |.Constant (.str x) _ _=>some x
 |_=>none
abbrev strsE:List Expr->Option (List Str)
 |[]=>some []
 |e::es=>match strE e,strsE es with
  |some x,some xs=>some (x::xs)
  |_,_=>none
abbrev tStrs(xs:List Str):TA:=λ_ H Q=>Q (xs.map V.str) H
def pa_strs:∀{es:List Expr}{xs:List Str},strsE es=some xs->PA X es (tStrs xs)
 |[],_,h=>by cases h;exact aD
 |.Constant (.str x) k p::es,xs,h=>by
  cases e:strsE es with
  |none=>simp only[strsE,strE,e]at h;cases h
  |some ys=>
   simp only[strsE,strE,e]at h
   cases h;intro b a s σ H Q I q;exact aA (t:=tStrs ys) aT (pa_strs e) rfl b a s σ H Q I q
def pe_eqE(h:e=e')(p:PE X e te):PE X e' te:=h▸p
def pe_txl{es:List Expr}{pos:Pos}(xs:List Str)(h:(match strsE es with|some ys=>decide (ys=xs)|none=>false)=true):PE X (.List es pos) (tLst (tStrs xs)):=by
 revert h
 cases e:strsE es with
 |none=>exactλh=>absurd (show false=true from h) (by decide)
 |some ys=>
  intro h;rw[<-kG h];exact dj (pa_strs e)
end
end L2
namespace L2
open PySem PySem.Spec PyProof.Rows
structure RoomH(k:Nat)(A:Around):Prop where
 dp:A.depth+3*k+105<recursionLimit
 un:A.units+16*k+200<cLine
structure FnOkH(P:Program)(w:World)(K:W.Frag)(mg:Str->Option Value)(base:Heap)(CX:CXT)(k:Nat)(f:Addr)(fd:FuncData)(ps:List Str)(sp:Sp):Prop where
 len:∀vs H Q E,sp vs H Q E->vs.length=ps.length
 run:∀(A:Around)(outer:List Env)(s:Shared)(H:Hp)(args:Args)(us:List Value)(vs:List V)(Q:VK)(E:XK),RoomH k A->Env0 P w K mg base A outer s H->BindsTo s fd args (ps.zip us)->Vals vs us->sp vs H Q E->
  codeAny (model P w) A (.call (.ref f) args) (CR CX outer P w H s Q E) s
section
variable{P:Program}{w:World}{K:W.Frag}{mg:Str->Option Value}{base:Heap}
end
section
variable{X:Cx}{CX:CXT}{k j:Nat}{f:Addr}{fd:FuncData}{ps:List Str}{sp:Sp}{dvs:List V}{ds:List Value}{E:XK}{x:Str}{p pos:Pos}{e:Expr}{es:List Expr}{t:TA}
end
end L2
namespace L2
open PySem PySem.Spec PyProof.Rows
section
variable{X:Cx}
end
end L2
namespace L2
open PySem PySem.Spec PyProof.Rows
section
variable{X:Cx}
variable{j:Nat}{m:Str}{pos apos:Pos}{e o:Expr}{es:List Expr}{ta:TE}{t:TA}
def px_mtD(he:PE X.nox o ta)(hr:Room j X.A)(ha:PA X.nox (e::es) t)(hex:X.ex=[]:=by rfl)
  (hst:starEach (e::es) X.env=(false,eval e X.env)::starEach es X.env:=by rfl)(hpl:(backTo pos (starEach es X.env)).any (·.1)=false:=by rfl)
  (ht:eval (.Call (.Attribute o m apos) (e::es) [] pos) X.env=(do
   let ov<-eval o X.env
   standAt apos.atName
   let(f,first)<-holding [ov] (getMethod ov m pl)
   callWith pos f first (backTo pos (starEach (e::es) X.env)) (backToKw pos (keywordEach [] X.env))):=by rfl):PX X (.Call (.Attribute o m apos) (e::es) [] pos) (λE=>tMethD X.prog X.w X.K X.mg X.base (CX1 X.prog X.w) m j E ta t):=by
 intro b s σ H Q E I h;refine lA (pl:=pl) (kr (he b s σ H _ (I.wish _) h) (λu A⟨x,w,i,G,a,C,N,fs,k,ps,L,ex,B,l,c,v,⟨f,J,d,y,F⟩,q⟩=>?_) λ_ _ z=>z.elim) ht;subst ex;obtain rfl:u=Value.ref a:=G;refine fo i.unwish B c d l ?_;refine lE (first:=[.ref a]) (h₀:=X.base) I.ok.mod.kin d.kp (kr (ha pos b A σ w _ i q) (λus M⟨vs,K,p,r,D⟩=>#[p.kIn,?_]) λ_ _ z=>z.elim) hst hpl;exact run_fnX (us:=.ref a::us) (vs:=.ref a::vs) F (hr.mono v) y .nil hex p.unwish (.cons rfl r) D
end
end L2
namespace L2
open PySem PySem.Spec PyProof.Rows
section
variable{X:Cx}
abbrev rDPop:V->List V->Hp->VK->Prop:=λx vs H Q=>∃a kvs k dv,x=.ref a/\vs=[kV k,dv]/\H a=some (.dK kvs)/\(∀v,cR kvs k=some v->Q v (upd H a (.dK (cO kvs k))))/\(cR kvs k=none->Q dv H)
def mt_dpop:MtM X "dict.pop" rDPop:=by
 intro i s σ H x t v w Q I p q h;let#[a,b,k,l,8,8,j,r,o]:=h
 cases p
 cases q with
 |cons r1 rr=>
  cases rr with
  |cons r2 r3=>
   cases r3
   cases e:cR b k with
   |none=>exact d_popD I j r1 e λm c=>#[l,_,c,r2,o e]
   |some v=>exact d_pop I j r1 e (.inr #[9]) λu m c d=>#[v,_,c,d,r v e]
end
end L2
namespace L2
open PySem PySem.Spec PyProof.Rows
section
variable{X:Cx}
def pa_dcons(hr:PA X es t):PA X (.Dict [] [] pos::es) (iB tDNewK t):=aA di hr rfl
def hV(h1:PE X e t1)(h2:PE X e t2):PE X e (λσ H Q=>t1 σ H Q∨t2 σ H Q):=λa s σ H Q I h=>h.elim (h1 a s σ H Q I) (h2 a s σ H Q I)
end
end L2
namespace L2
open PySem PySem.Spec PyProof.Rows
section
variable{X:Cx}
def Inv.turnedL{its:List Addr}(I:Inv X pins σ H s)(k:∀b o,b∉its->s.heap.get? b=some o->h'.get? b=some o)(hf:∀b∈its,iA X pins H b):Inv X pins σ H {s with heap:=h',toks:=t'}:=by
 have d:∀b u,H b=some u->b∉its:=λb u e z=>by rw[(hf b z).1]at e;cases e
 have j:X.env.locals∉its:=λz=>(hf _ z).2.1 rfl
 refine I.step (g':=s.gens) (d':=s.drawn) (ch:=its) (λb t=>?_) (λb o _ _ a e _=>k b o a e) (λb o _ _ a e _=>#[o.slots,k b o a e]) (λ_ _ _ _ n=>n)
  (λb o a e=>#[o,k b o a e]) (λ_ _ e=>e) (λ_ _ _ e=>e) (λb ps e=>#[(List.toArray []),by rw[e];simp]) (λm p=>?_) (λb u e=>?_) I.bare
 ·let#[_,A,_,y,i,h]:=hf b t;exact#[y,A,i,h]
 ·let#[o,x,l,w,r]:=p;exact#[o,x,l,k _ o j w,r]
 ·refine(I.hok b u e).stay (λc v a q=>k c v ?_ q) (λ_ q=>q) λ_ _ q=>q;rcases a with z|z
  ·rw[z];exact d b u e
  ·exact d c _ z
abbrev Itz(K:W.Frag)(a b:Addr)(xs ys:List V):It:=
 #[λi H=>SqL K H a xs/\SqL K H b ys/\i<xs.length/\i<ys.length,λi H v H'=>∃x y t,xs[i]?=some x/\ys[i]?=some y/\H t=none/\v=.ref t/\H'=upd H t (.tup [x,y]),λi H=>SqL K H a xs/\SqL K H b ys/\(xs.length<=i∨ys.length<=i)]
def i4:∀{xs:List V}{us:List Value},Vals xs us->∀{i:Nat}{x:V},xs[i]?=some x->∃u,us[i]?=some u/\RelV x u
 |_,_,.nil,i,x,e=>by simp at e
 |_,_,.cons r t,0,x,e=>by
  simp at e;subst e;exact#[9,r]
 |_,_,.cons r t,i+1,x,e=>by
  let#[u,a,b]:=i4 t (i:=i) (x:=x) (by simpa using e);exact#[u,by simpa using a,b]
end
section
variable{l:Addr}{k:Nat}{g:TG}{tc:TT}{te:TE}{ρ:St}{R:Hp->Prop}{H₀:Hp}
end
end L2
namespace L2
open PySem PySem.Spec PyProof.Rows
section
variable{X:Cx}
abbrev Ite(K:W.Frag)(a:Addr)(xs:List V):It:=
 #[λi H=>SqL K H a xs/\i<xs.length,λi H v H'=>∃x t,xs[i]?=some x/\H t=none/\v=.ref t/\H'=upd H t (.tup [.int i,x]),λi H=>SqL K H a xs/\xs.length<=i]
def turn_enum{K:W.Frag}(ne:e≠it)(xs:List V):
  Turn P w K (.Tuple elts x1 tpos) (Ite K a xs) [e,it] e (λi h=>(∃old,IsEnum h e it i old)/\h.IsListIter it a i)where
 mem:=by simp
 obj:=λi h j c b=>by
  let#[#[old,d],#[W,y,_,d4]]:=j;simp only[jR,jV,lN]at b;rcases b with rfl|rfl
  ·exact#[_,d,λv z=>by have z':Data.fields _=Data.cell v:=z;cases z']
  ·exact#[_,y,λv z=>by rw[d4]at z;cases z]
 keep:=λi h T j k=>by
  let#[#[old,d],#[W,y,r4]]:=j;exact#[#[old,k e (by simp) _ d],#[W,k it (by simp) _ y,r4]]
 item:=by
  intro X J S U b i l s σ H E I B j G;subst J S U;let#[N,hx]:=G;let#[#[old,d],D]:=j;let#[us,Q,F,_]:=I.list N;have ex:xs[i]?=some xs[i]:=jF hx;let#[u,eu,L]:=i4 Q ex;refine wpAny_pyNext_enum_item d D F.isList (by simpa using eu) ne λT a1 a2 a3 a4 a5=>?_;refine#[9,?_];refine wpAny_letOwnedTupleGo_enum (s:={s with heap:=T,toks:=s.toks+1}) a1 λm z2 R=>?_;have nt:s.heap.objs.size≠e:=k8 (jO d)
  have Z:Inv X l σ H {s with heap:=m,toks:=s.toks+1}:=I.turnedL (its:=[e,it]) (t':=s.toks+1) (λc o b q=>by
   simp only[jR,jV,lN,not_or]at b;exact(R.2 c b.1).trans (a5 c o b.1 b.2 q)) B
  have A:H s.heap.objs.size=none:=I.hok.fresh (jJ _);have M:m.get? s.heap.objs.size=some {cls:=.type "tuple",data:=.seq (List.toArray [.int i s.toks,u])}:=(R.2 _ nt).trans a3
  have O:HOk X.prog X.w (upd H s.heap.objs.size (.tup [.int i,xs[i]])) m:=λc o q=>by
   by_cases hb:c=s.heap.objs.size
   ·subst hb;rw[aC]at q
    cases q;exact#[zL2,[.int i s.toks,u],.cons #[9] (.cons L .nil),_,M,8,9]
   ·rw[aG hb]at q;exact(Z.hok c o q).stay (λ_ _ _ q=>q) (λc q=>by rw[aG (aP q A)];exact q) λc xs q=>by rw[aG (aP q A)];exact q
  have I2:=Z.trackI (t:=s.heap.objs.size) I.sz A (k8 I.lt) (λx c e z=>by
   let#[v,q]:=I.cell x c e;exact absurd q.lt (by rw[z];exact ku _)) (λp hp z=>absurd (jO (I.pin p hp).1) (by rw[z];exact ku _)) O
  refine#[.ref s.heap.objs.size,_,I2,8,#[_,_,ex,A,8,8],#[#[_,z2],?_],λc b=>?_]
  ·let#[o,q,r]:=a2;exact#[o,(R.2 _ ne.symm).trans q,r]
  ·have:c≠s.heap.objs.size:=by
    let#[W,y,_]:=D;simp only[jR,jV,lN]at b;rcases b with rfl|rfl
    ·exact km (jO d)
    ·exact km (jO y)
   rw[aG this];exact(B c b).1
 done:=by
  intro X J S U b i l s σ H E I B j G;subst J S U;let#[N,Y]:=G;let#[#[old,d],D]:=j;let#[us,Q,F,_]:=I.list N;have lu:=Q.length
  refine wpAny_pyNext_enum_end (I.ok.hd b) d D F.isList (by simp;lia) λT a7=>#[8,I.turnedL (its:=[e,it]) (t':=s.toks) (λc o b q=>by
   simp only[jR,jV,lN,not_or]at b;exact a7 c o b.2 q) B]
 self:=λ_ _ _ _ _ j h=>by
  let#[#[old,d],_]:=j;exact wpAny_pyIter_enum d h
abbrev iEnum(K:W.Frag)(ta:TA):TI:=λσ H R=>ta σ H λvs H1=>∃a xs,vs=[.ref a]/\SqL K H1 a xs/\R (Ite K a xs) H1
def pi_enum(hg:Gl X "enumerate")(hm:X.mg "enumerate"=none)(ha:PA X [a] ta)(hs:starEach [a] X.env=[(false,eval a X.env)]:=by rfl):PI X (.Tuple elts x1 tpos) (.Call (.Name "enumerate" p) [a] [] pos) (iEnum X.K ta):=by
 intro b s σ H R I h;refine Call_ (ld_blt I hg hm boot_enumerate (PyProof.Rows.callWith_type1 (thn (ha pos b s σ H _ I h) λw d⟨E,v,i,x,y⟩=>?_) hs rfl));let#[J,u,e,D,q]:=y;subst e
 cases x with
 |cons r rr=>
  cases rr
  cases r;let#[w,F,o,_]:=i.list D;refine call_enumerate_list o.isList λB j A G t=>?_;have z:Inv X b σ v {d with heap:=B}:=i.kept (t':=d.toks) t;refine wpAny_pyIter_enum j #[_,[d.heap.objs.size+1,d.heap.objs.size],_,_,9,z,turn_enum (Nat.succ_ne_self _) u,#[#[_,j],A],λc l=>?_,q]
  have m:d.heap.objs.size<=c:=by
   simp only[jR,jV,lN]at l;rcases l with rfl|rfl
   ·exact Nat.le_add_right _ _
   ·exact jJ _
  exact i.fpOk m (i.hok.fresh m)
def for_enum{K:W.Frag}{g:TG}{tb:TS}{D:Ends}(Pv:Nat->St->Hp->Prop)(h0:Pv 0 σ H)(hl:∀i σ H,Pv i σ H->SqL K H a xs)
  (hs:∀i x t σ H,xs[i]?=some x->H t=none->Pv i σ H->g (.ref t) σ (upd H t (.tup [.int i,x])) λσ2 H2=>tb {D with nx:=Pv (i+1),ct:=Pv (i+1),bk:=D.nx} σ2 H2)(hd:∀σ H,Pv xs.length σ H->D.nx σ H):
  ∃W:Nat->Nat->St->Hp->Prop,(∃m,W 0 m σ H)/\∀i m σ H,W i m σ H->
   ((Ite K a xs).stop i H/\D.nx σ H)∨((Ite K a xs).go i H/\∃N:St->Hp->Prop,(∀σ' H',N σ' H'->∃m',m'<m/\W (i+1) m' σ' H')/\∀x H',(Ite K a xs).yld i H x H'->g x σ H' λσ2 H2=>tb {D with nx:=N,ct:=N,bk:=D.nx} σ2 H2):=by
 refine#[λi m σ H=>m=xs.length-i×' i<=xs.length×' Pv i σ H,#[xs.length,by simp,jZ _,h0],?_];rintro i m σ H⟨rfl,hi,p⟩;have b:=hl i σ H p;by_cases hlt:i<xs.length
 ·refine .inr #[#[b,hlt],Pv (i+1),λσ' H' d=>#[xs.length-(i+1),4,8,hlt,d],λv H' y=>?_];let#[x,t,l,c,h,j]:=y;subst h j;exact hs i x t σ _ l c p
 ·have e:i=xs.length:=by lia
  subst e;exact .inl #[#[b,jJ _],hd σ H p]
end
end L2
namespace L2
open PySem PySem.Spec PyProof.Rows
def nb{x y:Nat}(h:x<y∨y<x):@Ne Addr x y:=λe=>by have e:x=y:=e;omega
section
variable{prog:Program}{w:World}{A:Around}{E:Value->Shared->Prop}{s:Shared}
def tp_item(ji:s.heap.IsTupleIter it t i)(jt:s.heap.IsTuple t us)(jx:us[i]?=some x)
  (jq:∀h',h'.IsTupleIter it t (i+1)->Heap.SameBut it s.heap h'->Q x {s with heap:=h'}):wpAny (model prog w) A (Builtin.SmallTypes.nextOf (.ref it)) Q E s:=by
 let#[l,b,e,a]:=id ji;let#[h,c,_,j,d]:=jt;have ty:=ji.typeIs;unfold Builtin.SmallTypes.nextOf;refine jD (wpAny_callSpecial?_slot (name:=Str.ofString "__next__") ty F.slot_tuple_iterator_next (wpAny_call_entry F.slot_tuple_iterator_next ty F.entry_tuple_iterator_next ?_ (F.args_tuple_iterator_next_1 _)));refine jD (m:=field (.ref it) 0) (kK b a (x:=.ref t) rfl ?_);show wpAny _ _ (ite ((Value.ref t==Value.none)=true) _ _) _ _ s;rw[if_neg (λz:(Value.ref t==Value.none)=true=>j2 z)];refine jD (m:=field (.ref it) 1) (kK b a (x:=.int i 0) rfl (jD (m:=seqItems? (.ref t)) (wpAny_seqItems c d ?_)));simp only[Int.toNat_natCast,jx];refine jD (lJ b a (by simp) (jN #[x,8,jN (jq _ #[_,kZ _ b (lM (kT a _)),(Obj.cls_mapFields ..).trans e,?_] (Heap.SameBut.update ..))]));rw[kT a];simp[rawInt]
def tp_end(hh:A.handled=none)(ji:s.heap.IsTupleIter it t i)(jt:s.heap.IsTuple t us)(jx:us[i]?=none)
  (je:∀h' e,Heap.ExtBut it s.heap h'->(∃o,h'.get? e=some o/\o.cls=.type "StopIteration")->E (.ref e) {s with heap:=h'}):wpAny (model prog w) A (Builtin.SmallTypes.nextOf (.ref it)) Q E s:=by
 let#[q,c,p,b]:=id ji;let#[j,d,_,l,h]:=jt;have ty:=ji.typeIs;unfold Builtin.SmallTypes.nextOf;refine jD (wpAny_callSpecial?_slot (name:=Str.ofString "__next__") ty F.slot_tuple_iterator_next (wpAny_call_entry F.slot_tuple_iterator_next ty F.entry_tuple_iterator_next ?_ (F.args_tuple_iterator_next_1 _)));refine jD (m:=field (.ref it) 0) (kK c b (x:=.ref t) rfl ?_);show wpAny _ _ (ite ((Value.ref t==Value.none)=true) _ _) _ _ s;rw[if_neg (λz:(Value.ref t==Value.none)=true=>j2 z)];refine jD (m:=field (.ref it) 1) (kK c b (x:=.int i 0) rfl (jD (m:=seqItems? (.ref t)) (wpAny_seqItems d h ?_)));simp only[Int.toNat_natCast,jx];refine jD (wpAny_rule (jD (lJ c b (by simp) (jD (m:=newExc (.type "StopIteration") []) ?_))));simp only[newExc,newTuple];refine jD (wpAny_newObj_type (jD (m:=firstArgMember _ _) (wpAny_of_eq (a:=Value.none) (by first|rfl|(simp only[firstArgMember];rfl)) (wpAny_newObj_type ?_ (by size_fits)))) (by size_fits));simp only[raiseNew];refine jD (wpAny_handled ?_);first|rw[show A.in1.handled=none from hh]|rw[hh]
 refine jD (jN (wpAny_throw ?_));exact je _ _ (((Heap.SameBut.update ..).extBut.push _).push _) #[_,jT _ rfl,8]
def IsTI.but(z:h.IsTupleIter it t i)(k:Heap.ExtBut b h h')(ne:it≠b):h'.IsTupleIter it t i:=by
 let#[o,e,r]:=z;exact#[o,k _ _ ne e,r]
def IsLI.but(z:h.IsListIter it t i)(k:Heap.ExtBut b h h')(ne:it≠b):h'.IsListIter it t i:=by
 let#[o,e,r]:=z;exact#[o,k _ _ ne e,r]
def IsL.but(z:h.IsList t us)(k:Heap.ExtBut b h h')(ne:t≠b):h'.IsList t us:=by
 let#[o,e,r]:=z;exact#[o,k _ _ ne e,r]
def IsT.but(z:h.IsTuple t us)(k:Heap.ExtBut b h h')(ne:t≠b):h'.IsTuple t us:=by
 let#[o,e,r]:=z;exact#[o,k _ _ ne e,r]
def zm_item{n l1 l2:Nat}{Q:Value->Shared->Prop}(m1:l1<n)(m2:l2<n)
  (e0:IsZip s.heap (n+4) (n+2) (n+3) .none)(e1:IsPair s.heap (n+2) (.ref n) (.ref (n+1)))(e2:IsPair s.heap (n+3) a b)
  (i1:s.heap.IsTupleIter n l1 k)(i2:s.heap.IsListIter (n+1) l2 k)(L1:s.heap.IsTuple l1 xs)(L2:s.heap.IsList l2 ys)(hx:xs[k]?=some x)(hy:ys[k]?=some y)
  (hQ:∀h',IsZip h' (n+4) (n+2) (n+3) (rawInt s.heap.objs.size)->IsPair h' (n+3) x y->h'.IsTupleIter n l1 (k+1)->h'.IsListIter (n+1) l2 (k+1)->IsPair h' s.heap.objs.size x y->
   (∀c o,c≠n+4->c≠n+3->c≠n->c≠n+1->s.heap.get? c=some o->h'.get? c=some o)->Q (.ref s.heap.objs.size) {s with heap:=h'}):
  wpAny (model prog w) A (Builtin.«zip.__next__» #[[.ref (n+4)],[]]) (λfin s'=>∃v,fin=.done (.ret v)/\Q v s') E s:=by
 show wpAny _ _ (field (.ref (n+4)) 2>>=_) _ _ _;refine jD (kK e0 rfl (x:=.bool false) rfl ?_);show wpAny _ _ (field (.ref (n+4)) 3>>=_) _ _ _;refine jD (kK e0 rfl (x:=.ref (n+2)) rfl (jD (wpAny_seqItems e1 rfl ?_)));show wpAny _ _ (Builtin.SmallTypes.ownedTupleIsFree (.ref (n+4))>>=_) _ _ _;refine jD ?_;unfold Builtin.SmallTypes.ownedTupleIsFree;refine jD (kK e0 rfl (x:=.none) rfl (jN ?_));simp only[if_true];refine jD (wpAny_rule (jD (kK e0 rfl (x:=.ref (n+3)) rfl ?_)));refine jD (wpAny_setField_rec e0 (by simp) λU H h=>jD ?_);replace H:IsZip U (n+4) (n+2) (n+3) .ellipsis:=H;simp only[List.zipIdx_cons,List.zipIdx_nil,List.forIn_cons,List.forIn_nil];skip;refine jD (jD (wpAny_onRaise ?_));show wpAny _ _ (Builtin.SmallTypes.nextOf (.ref n)>>=_) _ _ _;refine jD (tp_item (IsTI.but i1 h.extBut (nb (by omega))) (IsT.but L1 h.extBut (nb (by omega))) hx λT R l=>jN ?_);have N:IsPair T (n+3) a b:=l.extBut _ _ (nb (by omega)) (h.extBut _ _ (nb (by omega)) e2);refine jD (wpAny_seqItems N rfl (jD (wpAny_updateSeq_pair N λY B j=>jD (wpAny_letGo (jN ?_)))));replace B:IsPair Y (n+3) x b:=B;refine jD (jD (wpAny_onRaise ?_));show wpAny _ _ (Builtin.SmallTypes.nextOf (.ref (n+1))>>=_) _ _ _;refine jD (wpAny_nextOf_list_item (IsLI.but (IsLI.but (IsLI.but i2 h.extBut (nb (by omega))) l.extBut (nb (by omega))) j.extBut (nb (by omega))) (IsL.but (IsL.but (IsL.but L2 h.extBut (nb (by omega))) l.extBut (nb (by omega))) j.extBut (nb (by omega))) hy λS P p=>jN ?_);have L:IsPair S (n+3) x b:=p.extBut _ _ (nb (by omega)) B;refine jD (wpAny_seqItems L rfl (jD (wpAny_updateSeq_pair L λd z m=>jD (wpAny_letGo (jN (jN ?_))))));replace z:IsPair d (n+3) x y:=z;refine jD (wpAny_seqItems z rfl (jD (wpAny_newTuple ?_)));have sz:d.objs.size=s.heap.objs.size:=by rw[m.1,p.1,j.1,l.1,h.1]
 have J:IsZip d (n+4) (n+2) (n+3) .ellipsis:=m.extBut _ _ (nb (by omega)) (p.extBut _ _ (nb (by omega)) (j.extBut _ _ (nb (by omega)) (l.extBut _ _ (nb (by omega)) H)))
 have O:∀c o,c≠n+4->c≠n+3->c≠n->c≠n+1->s.heap.get? c=some o->d.get? c=some o:=λc o i t D G e=>
  m.extBut _ _ t (p.extBut _ _ G (j.extBut _ _ t (l.extBut _ _ D (h.extBut _ _ i e))))
 have g1:d.IsTupleIter n l1 (k+1):=IsTI.but (IsTI.but (IsTI.but R j.extBut (nb (by omega))) p.extBut (nb (by omega))) m.extBut (nb (by omega));have Z:d.IsListIter (n+1) l2 (k+1):=IsLI.but P m.extBut (nb (by omega));have lt:n+4<d.objs.size:=jO J;show wpAny _ _ (Builtin.SmallTypes.ownedTupleHandOut (.ref (n+4)) (.ref d.objs.size)>>=_) _ _ _;refine jD ?_;unfold Builtin.SmallTypes.ownedTupleHandOut;have X:IsZip (d.push {cls:=.type "tuple",data:=.seq (List.toArray [x,y])}) (n+4) (n+2) (n+3) .ellipsis:=jG _ J;refine jD (wpAny_setField_rec X (by simp) λW F M=>?_);replace F:IsZip W (n+4) (n+2) (n+3) (rawInt d.objs.size):=F;refine wpAny_setField_rec F (by simp) λu q I=>?_;replace q:IsZip u (n+4) (n+2) (n+3) (rawInt d.objs.size):=q;have up:∀c o,c≠n+4->d.get? c=some o->u.get? c=some o:=λc o i e=>I.extBut _ _ i (M.extBut _ _ i (jG _ e));have K:IsPair u d.objs.size x y:=I.extBut _ _ (k8 lt) (M.extBut _ _ (k8 lt) (jT _ rfl));rw[sz]at q K;refine jN #[9,?_];show Q (.ref d.objs.size) _;rw[sz];exact hQ u q (up _ _ (nb (by omega)) z) (let⟨o,e,r⟩:=g1;#[o,up _ o (nb (by omega)) e,r]) (let⟨o,e,r⟩:=Z;#[o,up _ o (nb (by omega)) e,r]) K λc o i t D G e=>up c o i (O c o i t D G e)
def zm_end{n l1 l2:Nat}(hh:A.handled=none)(m1:l1<n)(m2:l2<n)
  (e0:IsZip s.heap (n+4) (n+2) (n+3) .none)(e1:IsPair s.heap (n+2) (.ref n) (.ref (n+1)))(e2:IsPair s.heap (n+3) a b)
  (i1:s.heap.IsTupleIter n l1 k)(i2:s.heap.IsListIter (n+1) l2 k)(L1:s.heap.IsTuple l1 xs)(L2:s.heap.IsList l2 ys)(hend:xs[k]?=none∨ys[k]?=none)
  (hE:∀h' e,(∀c o,c≠n+4->c≠n+3->c≠n->c≠n+1->s.heap.get? c=some o->h'.get? c=some o)->(∃o,h'.get? e=some o/\o.cls=.type "StopIteration")->E (.ref e) {s with heap:=h'}):
  wpAny (model prog w) A (Builtin.«zip.__next__» #[[.ref (n+4)],[]]) Q E s:=by
 show wpAny _ _ (field (.ref (n+4)) 2>>=_) _ _ _;refine jD (kK e0 rfl (x:=.bool false) rfl ?_);show wpAny _ _ (field (.ref (n+4)) 3>>=_) _ _ _;refine jD (kK e0 rfl (x:=.ref (n+2)) rfl (jD (wpAny_seqItems e1 rfl ?_)));show wpAny _ _ (Builtin.SmallTypes.ownedTupleIsFree (.ref (n+4))>>=_) _ _ _;refine jD ?_;unfold Builtin.SmallTypes.ownedTupleIsFree;refine jD (kK e0 rfl (x:=.none) rfl (jN ?_));simp only[if_true];refine jD (wpAny_rule (jD (kK e0 rfl (x:=.ref (n+3)) rfl ?_)));refine jD (wpAny_setField_rec e0 (by simp) λK q j=>jD ?_);replace q:IsZip K (n+4) (n+2) (n+3) .ellipsis:=q;simp only[List.zipIdx_cons,List.zipIdx_nil,List.forIn_cons,List.forIn_nil];skip;refine jD (jD (wpAny_onRaise ?_));show wpAny _ _ (Builtin.SmallTypes.nextOf (.ref n)>>=_) _ _ _
 cases hx:xs[k]? with
 |none=>
  refine jD (tp_end hh (IsTI.but i1 j.extBut (nb (by omega))) (IsT.but L1 j.extBut (nb (by omega))) hx λr e l⟨u,d,i⟩=>?_);have D:IsZip r (n+4) (n+2) (n+3) .ellipsis:=l _ _ (nb (by omega)) q;have ne:e≠n+4:=λx=>by subst x;rw[D]at d;cases d;simp at i
  exact wpAny_setField_rec D (by simp) λv _ m=>hE v e (λc o p _ t _ x=>m.extBut _ _ p (l _ _ t (j.extBut _ _ p x))) #[u,m.extBut _ _ ne d,i]
 |some x=>
  have M:ys[k]?=none:=by rcases hend with h|h;rw[hx]at h;cases h;exact h
  refine jD (tp_item (IsTI.but i1 j.extBut (nb (by omega))) (IsT.but L1 j.extBut (nb (by omega))) hx λr N l=>jN ?_);have y:IsPair r (n+3) a b:=l.extBut _ _ (nb (by omega)) (j.extBut _ _ (nb (by omega)) e2);refine jD (wpAny_seqItems y rfl (jD (wpAny_updateSeq_pair y λv z m=>jD (wpAny_letGo (jN ?_)))));replace z:IsPair v (n+3) x b:=z;refine jD (jD (wpAny_onRaise ?_));show wpAny _ _ (Builtin.SmallTypes.nextOf (.ref (n+1))>>=_) _ _ _;refine jD (wpAny_nextOf_list_end hh (IsLI.but (IsLI.but (IsLI.but i2 j.extBut (nb (by omega))) l.extBut (nb (by omega))) m.extBut (nb (by omega))) (IsL.but (IsL.but (IsL.but L2 j.extBut (nb (by omega))) l.extBut (nb (by omega))) m.extBut (nb (by omega))) M λH e G⟨u,d,i⟩=>?_);have F:IsZip H (n+4) (n+2) (n+3) .ellipsis:=G _ _ (nb (by omega)) (m.extBut _ _ (nb (by omega)) (l.extBut _ _ (nb (by omega)) q));have ne:e≠n+4:=λx=>by subst x;rw[F]at d;cases d;simp at i
  exact wpAny_setField_rec F (by simp) λI _ B=>hE I e (λc o p J t L x=>B.extBut _ _ p (G _ _ L (m.extBut _ _ J (l.extBut _ _ t (j.extBut _ _ p x))))) #[u,B.extBut _ _ ne d,i]
end
nonrec abbrev zmh1(h:Heap)(l1:Addr):Heap:=h.push {cls:=.type "tuple_iterator",data:=.fields (List.toArray [.ref l1,.int 0 0])}
nonrec abbrev zmh2(h:Heap)(l1 l2:Addr):Heap:=(zmh1 h l1).push {cls:=.type "list_iterator",data:=.fields (List.toArray [.ref l2,.int 0 0])}
nonrec abbrev zmh3(h:Heap)(l1 l2:Addr):Heap:=(zmh2 h l1 l2).push {cls:=.type "tuple",data:=.seq (List.toArray [.ref h.objs.size,.ref (zmh1 h l1).objs.size])}
nonrec abbrev zmh4(h:Heap)(l1 l2:Addr):Heap:=(zmh3 h l1 l2).push {cls:=.type "tuple",data:=.seq (List.toArray [.none,.none])}
nonrec abbrev zmh5(h:Heap)(l1 l2:Addr):Heap:=(zmh4 h l1 l2).push {cls:=.type "zip",data:=.fields (List.toArray [.none,.bool false,.bool false,.ref (zmh2 h l1 l2).objs.size,.ref (zmh3 h l1 l2).objs.size])}
def zm_new(l1 l2:Addr)(xs ys:Array Value):
  Meets (Builtin.«zip.__new__» #[[.type "zip",.ref l1,.ref l2],[]]) (λ_ R s=>s.heap.IsTuple l1 xs/\s.heap.IsList l2 ys/\
   R (.ok (.ret (.ref (zmh4 s.heap l1 l2).objs.size))) {s with heap:=zmh5 s.heap l1 l2}):=
 .of_wp λa w A R s h=>by
  let#[j,g,d,b,i]:=s;let#[l,m,h]:=h;have c:=sub_zip;have M1:Heap.IsTuple (Shared.heap #[j,g,d,b,i]) l1 xs:=l;have M2:Heap.IsList (Shared.heap #[zmh1 j l1,g,d,b,i]) l2 ys:=let⟨o,e,r⟩:=m;#[o,jG _ e,r]
  wp_walk using wpAny_pyIter_tuple M1,wpAny_pyIter_list M2
  exact#[9,h]
def zm_call{l1 l2 n:Nat}(hn:n=s.heap.objs.size)(hl1:s.heap.IsTuple l1 xs)(hl2:s.heap.IsList l2 ys)
  (h:∀h',IsZip h' (n+4) (n+2) (n+3) .none->IsPair h' (n+2) (.ref n) (.ref (n+1))->IsPair h' (n+3) .none .none->h'.IsTupleIter n l1 0->h'.IsListIter (n+1) l2 0->
   (∀c o,s.heap.get? c=some o->h'.get? c=some o)->Q (.ref (n+4)) {s with heap:=h'}):
  wpAny (model prog w) A (call (.type "zip") [.ref l1,.ref l2]) Q E s:=by
 refine callType_new F.called_zip (by decide) (F.typeCall_zip_2 _ _) (F.newCall_zip_2 _ _) (λi=>F.args_object_init_3 i _ _) F.entry_zip_new (zm_new l1 l2 xs ys) #[hl1,hl2,?_];have b:(zmh1 s.heap l1).objs.size=n+1:=by rw[hn];exact Heap.size_push ..
 have d:(zmh2 s.heap l1 l2).objs.size=n+2:=by rw[Heap.size_push,b]
 have l:(zmh3 s.heap l1 l2).objs.size=n+3:=by rw[Heap.size_push,d]
 have p:(zmh4 s.heap l1 l2).objs.size=n+4:=by rw[Heap.size_push,l]
 have a:∀{h:Heap}{o o':Obj}{c},h.get? c=some o->(h.push o').get? c=some o:=λe=>jG _ e;have j:(zmh5 s.heap l1 l2).get? (zmh4 s.heap l1 l2).objs.size=some _:=jT _ rfl;have q:(zmh5 s.heap l1 l2).get? (zmh3 s.heap l1 l2).objs.size=some _:=a (jT _ rfl);have m:(zmh5 s.heap l1 l2).get? (zmh2 s.heap l1 l2).objs.size=some _:=a (a (jT _ rfl));have r:(zmh5 s.heap l1 l2).get? (zmh1 s.heap l1).objs.size=some _:=a (a (a (jT _ rfl)));have g1:(zmh5 s.heap l1 l2).get? s.heap.objs.size=some _:=a (a (a (a (jT _ rfl))));show _/\_;rw[d,l,p]at j;rw[l]at q;rw[b,d,<-hn]at m;rw[b]at r;rw[<-hn]at g1;rw[p];exact#[#[_,j,8],h _ j m q #[_,g1,8,8] #[_,r,8,8] λc o x=>a (a (a (a (a x))))]
section
variable{X:Cx}
abbrev Itzm(K:W.Frag)(a b:Addr)(xs ys:List V):It:=
 #[λi H=>SqT K H a xs/\SqL K H b ys/\i<xs.length/\i<ys.length,λi H v H'=>∃x y t,xs[i]?=some x/\ys[i]?=some y/\H t=none/\v=.ref t/\H'=upd H t (.tup [x,y]),λi H=>SqT K H a xs/\SqL K H b ys/\(xs.length<=i∨ys.length<=i)]
def turn_zm{n a b:Nat}{K:W.Frag}(m1:a<n)(m2:b<n)(xs ys:List V):
  Turn P w K (.Tuple elts x1 tpos) (Itzm K a b xs ys) [n+4,n+2,n+3,n,n+1] (n+4) (λi h=>∃p q,IsZip h (n+4) (n+2) (n+3) .none/\IsPair h (n+2) (.ref n) (.ref (n+1))/\IsPair h (n+3) p q/\h.IsTupleIter n a i/\h.IsListIter (n+1) b i)where
 mem:=by simp
 obj:=λi h A d hd=>by
  let#[p,q,m,B,G,#[o4,Y,_,d4],#[o5,W,_,d5]]:=A;simp only[jR,jV,lN]at hd;rcases hd with rfl|rfl|rfl|rfl|rfl
  ·exact#[_,m,λv z=>by have N:Data.fields _=Data.cell v:=z;cases N]
  ·exact#[_,B,λv z=>by have N:Data.seq _=Data.cell v:=z;cases N]
  ·exact#[_,G,λv z=>by have N:Data.seq _=Data.cell v:=z;cases N]
  ·exact#[_,Y,λv z=>by rw[d4]at z;cases z]
  ·exact#[_,W,λv z=>by rw[d5]at z;cases z]
 keep:=λi h O A k=>by
  let#[p,q,m,B,G,#[o4,Y,r4],#[o5,W,r5]]:=A;exact#[p,q,k _ (by simp) _ m,k _ (by simp) _ B,k _ (by simp) _ G,#[o4,k _ (by simp) _ Y,r4],#[o5,k _ (by simp) _ W,r5]]
 item:=by
  intro X hP hw hK j i D s σ H E I U A hg;subst hP hw hK;let#[ha,M,hx,hy]:=hg;let#[p,q,m,B,G,h4,h5]:=A;let#[us,ru,pu,_]:=I.tuple ha;let#[ws,J,pw,_]:=I.list M;have ex:xs[i]?=some xs[i]:=jF hx;have ey:ys[i]?=some ys[i]:=jF hy;let#[u,eu,ab]:=i4 ru ex;let#[v,ev,aa]:=i4 J ey;have Q:s.TypeIs (.ref (n+4)) "zip":=#[_,m,8];unfold pyNext;refine jD (wpAny_attempt (wpAny_callSpecial?_slot (name:=Str.ofString "__next__") Q F.slot_zip_next (wpAny_call_entry F.slot_zip_next Q F.entry_zip_next (zm_item m1 m2 m B G h4 h5 (show s.heap.IsTuple a us.toArray from pu) pw.isList (by simpa using eu) (by simpa using ev) λO a1 a2 a3 a4 a6 a7=>jN ?_) (F.args_zip_next_1 _))));refine#[9,?_];refine wpAny_letOwnedTupleGo_zip (s:={s with heap:=O}) a1 λy z2 L=>?_;have nt:s.heap.objs.size≠n+4:=k8 (jO m)
  have I1:Inv X D σ H {s with heap:=y,toks:=s.toks}:=I.turnedL (its:=[n+4,n+2,n+3,n,n+1]) (t':=s.toks) (λc o j e=>by
   simp only[jR,jV,lN,not_or]at j;exact(L.2 c j.1).trans (a7 c o j.1 j.2.2.1 j.2.2.2.1 j.2.2.2.2 e)) U
  have S:H s.heap.objs.size=none:=I.hok.fresh (jJ _);have Z:y.get? s.heap.objs.size=some {cls:=.type "tuple",data:=.seq (List.toArray [u,v])}:=(L.2 _ nt).trans a6
  have ac:HOk X.prog X.w (upd H s.heap.objs.size (.tup [xs[i],ys[i]])) y:=λc o e=>by
   by_cases M:c=s.heap.objs.size
   ·subst M;rw[aC]at e
    cases e;exact#[zL2,[u,v],.cons ab (.cons aa .nil),_,Z,8,9]
   ·rw[aG M]at e;exact(I1.hok c o e).stay (λ_ _ _ q=>q) (λc q=>by rw[aG (aP q S)];exact q) λc xs q=>by rw[aG (aP q S)];exact q
  have I2:=I1.trackI (t:=s.heap.objs.size) I.sz S (k8 I.lt) (λx c e z=>by
   let#[v,q]:=I.cell x c e;exact absurd q.lt (by rw[z];exact ku _)) (λp hp z=>absurd (jO (I.pin p hp).1) (by rw[z];exact ku _)) ac
  have si:=λ{d l k}(z:O.IsTupleIter d l k)(nz:d≠n+4)=>show y.IsTupleIter d l k by
   let#[o,e,r]:=z;exact#[o,(L.2 _ nz).trans e,r]
  have sl:=λ{d l k}(z:O.IsListIter d l k)(nz:d≠n+4)=>show y.IsListIter d l k by
   let#[o,e,r]:=z;exact#[o,(L.2 _ nz).trans e,r]
  refine#[.ref s.heap.objs.size,_,I2,8,#[_,_,_,ex,ey,S,8,8],#[u,v,z2,(L.2 _ (nb (by omega))).trans (a7 _ _ (nb (by omega)) (nb (by omega)) (nb (by omega)) (nb (by omega)) B),(L.2 _ (nb (by omega))).trans a2,si a3 (nb (by omega)),sl a4 (nb (by omega))],λc j=>?_]
  have:c≠s.heap.objs.size:=by
   have lt:(n+4:Nat)<s.heap.objs.size:=jO m;simp only[jR,jV,lN]at j;rcases j with rfl|rfl|rfl|rfl|rfl<;>exact nb (by omega)
  rw[aG this];exact(U c j).1
 done:=by
  intro X hP hw hK j i D s σ H E I U A hg;subst hP hw hK;let#[ha,M,R]:=hg;let#[p,q,m,B,G,h4,h5]:=A;let#[us,ru,pu,_]:=I.tuple ha;let#[ws,J,pw,_]:=I.list M;have lu:=ru.length;have lw:=J.length;have Q:s.TypeIs (.ref (n+4)) "zip":=#[_,m,8];unfold pyNext;refine jD (wpAny_attempt (wpAny_callSpecial?_slot (name:=Str.ofString "__next__") Q F.slot_zip_next (wpAny_call_entry F.slot_zip_next Q F.entry_zip_next (zm_end (I.ok.hd j) m1 m2 m B G h4 h5 (show s.heap.IsTuple a us.toArray from pu) pw.isList (R.imp (λh=>by simp;omega) (λh=>by simp;omega)) λO e hk⟨o,ho,j⟩=>?_) (F.args_zip_next_1 _))))
  exact jD (wpAny_isInstance (T:="StopIteration") (b:=true) #[o,ho,j] isSubtype_stop (jN #[8,I.turnedL (its:=[n+4,n+2,n+3,n,n+1]) (t':=s.toks) (λc o j e=>by
   simp only[jR,jV,lN,not_or]at j;exact hk c o j.1 j.2.2.1 j.2.2.2.1 j.2.2.2.2 e) U]))
 self:=λ_ _ _ _ _ A h=>by
  let#[p,q,m,_]:=A;exact wpAny_pyIter_zip m h
abbrev iZipM(K:W.Frag)(ta:TA):TI:=λσ H R=>ta σ H λvs H1=>∃a b xs ys,vs=[.ref a,.ref b]/\SqT K H1 a xs/\SqL K H1 b ys/\R (Itzm K a b xs ys) H1
def pi_zipM(hg:Gl X "zip")(hm:X.mg "zip"=none)(ha:PA X [a,b] ta)(hs:starEach [a,b] X.env=[(false,eval a X.env),(false,eval b X.env)]:=by rfl)(hs2:starEach [b] X.env=[(false,eval b X.env)]:=by rfl):
  PI X (.Tuple elts x1 tpos) (.Call (.Name "zip" p) [a,b] [] pos) (iZipM X.K ta):=by
 intro d s σ H R I h;refine Call_ (ld_blt I hg hm boot_zip (PyProof.Rows.callWith_type1 (thn (ha pos d s σ H _ I h) λw i⟨U,D,j,E,G⟩=>?_) (by rw[hs,hs2]) (by rw[hs2];rfl)));let#[x,A,z,N,e,T,y,q]:=G;subst e
 cases E with
 |cons r rr=>
  cases rr with
  |cons r' rr=>
   cases rr
   cases r
   cases r';let#[w,W,l,_]:=j.tuple T;let#[Y,J,m,_]:=j.list y;have M:x<i.heap.objs.size:=by let#[o,e,_]:=l;exact jO e
   have B:A<i.heap.objs.size:=by let#[o,n,e,_]:=m;exact jO e
   refine zm_call rfl (show i.heap.IsTuple x w.toArray from l) m.isList λS u K F Q O L=>?_;have P:Inv X d σ D {i with heap:=S}:=j.kept (t':=i.toks) L;refine wpAny_pyIter_zip u #[_,_,_,_,9,P,turn_zm M B z N,#[.none,.none,u,K,F,Q,O],λc v=>?_,q]
   have t:i.heap.objs.size<=c:=by
    simp only[jR,jV,lN]at v;rcases v with rfl|rfl|rfl|rfl|rfl<;>first|exact Nat.le_add_right _ _|exact jJ _
   exact j.fpOk t (j.hok.fresh t)
end
section
variable{l:Addr}{k:Nat}{g:TG}{tc:TT}{te:TE}{ρ:St}{R:Hp->Prop}{H₀:Hp}
def compG_zipM{K:W.Frag}(Pv:Nat->Hp->Prop)(h0:Pv 0 (upd H₀ l (.lst [])))(hl:∀i H,Pv i H->SqT K H a xs/\SqL K H b ys)
  (hs:∀i x y t H,xs[i]?=some x->ys[i]?=some y->H t=none->Pv i H->∀zs:St,zs.length=k->g (.ref t) (zs++ρ) (upd H t (.tup [x,y])) λσ2 H2=>(∃zs':St,zs'.length=k/\σ2=zs'++ρ)/\tc σ2 H2 λb H3=>if b=true then te σ2 H3 λy H4=>∃ys',H4 l=some (.lst ys')/\ys'.length<sizeLine/\fw (min xs.length ys.length) Pv i (upd H4 l (.lst (ys'++[y])))else fw (min xs.length ys.length) Pv i H3)
  (hd:∀H,Pv (min xs.length ys.length) H->R H):
  ∃W:Nat->Nat->Hp->Prop,(∃m,W 0 m (upd H₀ l (.lst [])))/\∀i m H,W i m H->
   ((Itzm K a b xs ys).stop i H/\R H)∨((Itzm K a b xs ys).go i H/\∀x H',(Itzm K a b xs ys).yld i H x H'->∀zs:St,zs.length=k->g x (zs++ρ) H' λσ2 H2=>(∃zs':St,zs'.length=k/\σ2=zs'++ρ)/\tc σ2 H2 λb H3=>if b=true then te σ2 H3 λy H4=>∃ys,H4 l=some (.lst ys)/\ys.length<sizeLine/\∃m',m'<m/\W (i+1) m' (upd H4 l (.lst (ys++[y])))else∃m',m'<m/\W (i+1) m' H3):=
 gl (n:=min xs.length ys.length) Pv h0 (λi H hi p=>#[(hl i H p).1,(hl i H p).2,4,4]) (λH p=>#[(hl _ H p).1,(hl _ H p).2,4]) (λi x H H' hi y p=>by
  let#[h,e,t,q,o,c,d,j]:=y;subst d j;exact hs i h e t _ q o c p) hd
end
end L2
namespace L2
open PySem PySem.Spec PyProof.Rows
abbrev KTup(K:W.Frag)(ss:List Str)(v:Value):Prop:=∃(t:Addr)(o:Obj)(its:Array Value)(n:Nat),v=.ref t/\K.lookup t=some o/\o.cls=.type "tuple"/\o.data=.seq its n/\its.size<=sizeLine/\Vals (ss.map V.str) its.toList
abbrev KTb(K:W.Frag)(mg:Str->Option Value)(x:Str)(D:List (Str×List Str)):Prop:=∃(f:Addr)(o:Obj)(es:Array DictEntry)(ep:Nat),mg x=some (.ref f)/\(f==sysModules)=false/\K.lookup f=some o/\o.ExactDict/\o.data=.dict es ep/\KTD.Rows (KTup K) es.toList D
section
variable{prog:Program}{w:World}{A:Around}{E:Value->Shared->Prop}{s:Shared}
def dict_rows{D:List (Str×δ)}(ho:s.heap.get? a=some o)(hd:o.data=.dict es ep)(hr:KTD.Rows R es.toList D)
  (hq:∀r,(∀d,KTD.datumAt z D=some d->∃v,r=some v/\R d v)->(KTD.datumAt z D=none->r=none)->Q r {s with toks:=s.toks+1}):wpAny (model prog w) A (dictGet a (.str z tk)) Q E s:=by
 have m:(es.all λe=>isExactStrKey e.key)=true:=by
  have:=hr.exact
  rwa[<-Array.all_toList]
 have b:Q (findBy (λk v=>v.isStr k) es z) {s with toks:=s.toks+1}:=by
  have c:findBy (λk v=>v.isStr k) es z=(es.toList.find? λe=>e.key.isStr z).map (·.val):=by
   let#[l]:=es;simp[findBy]
  rw[c];refine hq _ (λd e=>?_) λe=>hr.find_none e;let#[v,j,h]:=hr.find_some e;exact#[v,j,h]
 unfold dictGet
 (try with_reducible refine wpAny_holding ?_)
 refine jD (wpAny_pyHash_str (jD (KTD.kt_dictFind_strs (s:={s with toks:=s.toks+1}) ho hd m ?_)));rw[findBy_of_findIdx?]at b
 revert b
 cases es.findIdx? λe=>e.key.isStr z with
 |none=>exactλb=>jN b
 |some i=>exactλb=>jD (wpAny_dictEntries (s:={s with toks:=s.toks+1}) ho hd (jN b))
def meets_rows{D:List (Str×δ)}(hs:(a==sysModules)=false):
  MeetsIn prog w (Builtin.«dict.get» #[[.ref a,.str z tk],[]]) (λ_ R' s=>(∃o es ep,s.heap.get? a=some o/\o.data=.dict es ep/\KTD.Rows R es.toList D)/\∀v,(∀d,KTD.datumAt z D=some d->R d v)->(KTD.datumAt z D=none->v=.none)->R' (.ok (.ret v)) {s with toks:=s.toks+1}):=
 .of_wp λA R' s⟨⟨o,es,ep,m,hd,p⟩,h⟩=>by
  show wpAny _ _ (dictGet a (.str z tk)>>=_) _ _ s;refine jD (dict_rows m hd p λr i j=>?_)
  cases r with
  |some v=>exact jN #[v,8,h v (λd e=>by let#[l,b,c]:=i d e;cases b;exact c) λe=>by cases j e]
  |none=>
   show wpAny _ _ (Builtin.Dict.missed a (.str z tk)>>=_) _ _ _;exact jD (wpAny_missed_other hs (jN #[.none,8,h .none (λd e=>by let#[l,b,c]:=i d e;cases b) λ_=>rfl]))
end
abbrev tKGet(K:W.Frag)(D:List (Str×List Str))(ty:TE):TE:=λσ H Q=>ty σ H λy H1=>∃z,y=.str z/\(∀ss t,KTD.datumAt z D=some ss->(∀H',SqT K H' t (ss.map V.str))->Q (.ref t) H1)/\(KTD.datumAt z D=none->Q .non H1)
section
variable{X:Cx}
def pe_kget(hT:KTb X.K X.mg x D)(he:PE X e ty)(m:M1 X (.Name x np) "get" apos e cpos)(hg:Gl X x:=by rfl)(hdb:(x==("__debug__":Str))=false:=by decide):
  PE X (.Call (.Attribute (.Name x np) "get" apos) [e] [] cpos) (tKGet X.K D ty):=by
 intro a s σ H Q I h;let#[f,o,M,J,E,N,i,j,l,c]:=hT;refine wpAny_Call_method m.base m.few m.line kF PySem.F.slot_dict_get PySem.F.type_dict_get (dU I hg E ?_ hdb);refine#[#[o,I.kIn _ _ i,j.1],λb q=>by cases q;exact#[o,I.kIn _ _ i,j.2.1],?_];rw[m.trees];refine Calls.callWith_builtin rfl (Calls.evalArgs_plain (Calls.spliced_cons (thn (he a s σ H _ I h) λS W⟨y,w,p,L,z,G,P,A⟩=>Calls.spliced_nil ?_)));subst G;let#[U,8]:=L;have u:=p.kIn _ _ i;refine call_meetsIn PySem.F.slot_dict_get #[o,u,j.1] PySem.F.entry_dict_get (PySem.F.args_dict_get_2 _ _) (meets_rows (R:=KTup X.K) (D:=D) N) #[#[o,M,J,u,l,c],λv g1 O=>?_]
 cases e:KTD.datumAt z D with
 |some ss=>
  let#[t,B,d,n,8,r]:=g1 ss e;exact#[.ref t,w,p.tok _,8,P ss t e λT=>.inr #[B,d,n,r]]
 |none=>
  rw[O e];exact#[.non,w,p.tok _,8,A e]
def psx_ret(he:PX X e te):PSx X (.Return (some e) pos) (λE=>tRet (te E)):=by
 intro a s σ H D E I h;exact wpAny_Return_some (thn (he a s σ H _ E I h) (by rintro v j⟨x,i,d,b,c⟩;exact#[x,σ,i,d,b,c]))
def pe_mk0(F:MkB X.prog X.w X.K X.mg X.base CX C k ps dvs sp)(hr:Room j X.A)(hm:X.mg x=some (.ref C))(hx:dk CX X E)(hj:k+1<=j:=by decide)(hg:Gl X x:=by rfl)(hdb:(x==("__debug__":Str))=false:=by decide):
  PE X (.Call (.Name x p) [] [] pos) (tMake C sp dvs E tNil):=by
 let#[f,e,ds,a,b,c,d]:=F;exact pe_make0 a d (hr.mono hj) hg hm b c hx hdb
end
end L2
namespace L2
open PySem PySem.Spec PyProof.Rows
section
variable{X:Cx}
abbrev ViewI(v d:Addr):HO:=.ext λh=>h.IsItemsView v d
abbrev rItemsV:V->List V->Hp->VK->Prop:=λx vs H Q=>∃a kvs,x=.ref a/\vs=[]/\Rd H a (.dK kvs)/\∀v,H v=none->Q (.ref v) (upd H v (ViewI v a))
def ir:MtM X "dict.items" rItemsV:=by
 intro d s σ H x y v B Q I l m h;let#[a,j,8,8,u,q]:=h
 cases l
 cases m;let#[D,p,t,E,i]:=fM I.hok u;refine call_meetsIn PySem.F.slot_dict_items i.typeIs PySem.F.entry_dict_items (PySem.F.args_dict_items_1 _) (meets_dict_items (bS X.prog X.w) a p) #[#[t,i],?_];have e:(s.heap.push {cls:=.type "dict_items",data:=.fields (List.toArray [.ref a])}).get? s.heap.objs.size=some {cls:=.type "dict_items",data:=.fields (List.toArray [.ref a])}:=jT _ rfl;refine#[.ref s.heap.objs.size,_,I.laid (t':=s.toks) (λb o e=>jG _ e) (jJ _) (show ObjOk X.prog X.w _ _ _ (ViewI _ a) from#[#[_,e,8,8],#[_,e],λG A z k=>?_]),8,q _ (I.hok.fresh (jJ _))];let#[o,r,c]:=z;exact#[o,k _ r,c]
def tracks(h0:X.s₀.heap.objs.size<=N)(hL:X.env.locals<N)(hc:∀x c,X.env.cells.lookup x=some c->c<N)(hp:∀p∈X.pn++pins,p.1<N):
  ∀(L:List (Addr×List V))(H:Hp),Inv X pins σ H s->(∀p∈L,H p.1=none/\N<=p.1/\∀H',ObjOk X.prog X.w H' s.heap p.1 (.tup p.2))->(L.map (·.1)).Nodup->
   ∃H',Inv X pins σ H' s/\(∀p∈L,H' p.1=some (.tup p.2))/\∀b,b∉L.map (·.1)->H' b=H b
 |[],H,I,_,_=>#[H,I,λ_ h=>absurd h jV,λ_ _=>rfl]
 |p::L,H,I,h,nd=>by
  let#[r,v]:=lL.mp (show(p.1::L.map (·.1)).Nodup from nd);let#[j,l,A]:=h p jX;have d:N<=p.1:=l
  have u:Inv X pins σ (upd H p.1 (.tup p.2)) s:=I.trackI (jK h0 l) j (λz=>ku N (j8 (z▸d) hL)) (λx c q z=>ku N (j8 (z▸d) (hc x c q))) (λq a z=>ku N (j8 (z▸d) (hp q a))) λc o e=>by
   by_cases i:c=p.1
   ·subst i;rw[aC]at e
    cases e;exact A _
   ·rw[aG i]at e;exact(I.hok c o e).stay (λ_ _ _ q=>q) (λc q=>by rw[aG (aP q j)];exact q) λc D q=>by rw[aG (aP q j)];exact q
  let#[H',J,y,m]:=tracks h0 hL hc hp L _ u (λq a=>by
   let#[t,w,B]:=h q (jW _ a);refine#[?_,w,B];rw[aG λz=>r (by rw[<-z];exact j9.mpr #[q,a,8])];exact t) v
  refine#[H',J,λq a=>?_,λb i=>?_]
  ·rcases jR.mp a with rfl|a
   ·rw[m _ r,aC]
   ·exact y q a
  ·have i:¬(b=p.1∨b∈L.map (·.1)):=λz=>i (jR.mpr z);rw[m b λz=>i (.inr z),aG λz=>i (.inl z)]
def vals_refs:∀as:List Addr,Vals (as.map V.ref) (as.map Value.ref)
 |[]=>.nil
 |_::as=>.cons rfl (vals_refs as)
def dW(hh:X.A.handled=none):et X (.type "list") (λxs H Q=>∃v a kvs,xs=[.ref v]/\H v=some (ViewI v a)/\Rd H a (.dK kvs)/\∀l H' ts,H l=none->Same H H'->H' l=some (.lst ts)->ts.length=kvs.length->(∀(j:Nat)(t:V)(kv:Key×V),ts[j]?=some t->kvs[j]?=some kv->∃q,t=.ref q/\H' q=some (.tup [kV kv.1,kv.2]))->Q (.ref l) H'):=by
 intro B s σ H xs us Q I r h;let#[v,p,kvs,8,hv,Y,q]:=h;let#[u,8,rx]:=fS r
 cases rx;let#[E,hs,vs,kv,hD]:=fM I.hok Y;let#[ep,M]:=hD.dictAt;let#[i,_]:=(show ObjOk X.prog X.w H s.heap v (ViewI v p) from I.hok v _ hv);have el:=kv.length;have K:vs.length<=sizeLine:=by rw[<-el];exact E
 refine PySem.W.kdx_call (knd:=bS X.prog X.w) (kvs:=vs) (ep:=ep) hh i M K λh' Z U c d hk P hl F A=>?_;have fr:H s.heap.objs.size=none:=I.hok.fresh (jJ _);have la:d.length=kvs.length:=by rw[hl,el]
 have I1:Inv X B σ (upd H s.heap.objs.size (.lst (d.map V.ref))) {s with heap:=h',toks:=Z}:=I.laid (t':=Z) hk (jJ _) (show ObjOk X.prog X.w _ h' _ (.lst (d.map V.ref)) from#[by rw[jE,la];exact E,U.toList,c,by rw[A];exact vals_refs d,by simpa using P]);have S:d.Nodup:=F.rise.imp λh=>km h
 have mz:((d.zip kvs).map λz=>(z.1,[kV z.2.1,z.2.2])).map (·.1)=d:=by
  rw[kU];show(d.zip kvs).map (·.1)=d;exact List.map_fst_zip ()
 let#[H',J,k1,O]:=tracks (N:=s.heap.objs.size) I.sz I.lt (λx c e=>by let#[v,q]:=I.cell x c e;exact q.lt) (λp Y=>jO (I.pin p Y).1) ((d.zip kvs).map λz=>(z.1,[kV z.2.1,z.2.2])) _ I1 (λz E=>by
  let#[y,L,8]:=j9.mp E;let#[j,hj]:=kO.mp L;let#[a1,a2]:=List.getElem?_zip_eq_some.mp hj;let#[T,k,x,g1,g2,g3]:=F.pairs j _ a1;let#[v',R,rv]:=KV.get kv a2;rw[R]at g1
  cases g1;have G:=F.above _ (jP a1);refine#[?_,Nat.le_of_lt G,λH'=>#[zL2,[T,x],.cons (is_kV g2) (.cons rv .nil),_,g3,8,9]];show upd H s.heap.objs.size _ y.1=none;rw[aG (k8 G)];exact I.hok.fresh (Nat.le_of_lt G)) (by rw[mz];exact S)
 rw[mz]at O;have D:∀b:Nat,b<=s.heap.objs.size->b∉d:=λb hb z=>ku _ (j8 hb (F.above b z));refine#[.ref s.heap.objs.size,H',J,8,q _ H' (d.map V.ref) fr (λb o e=>?_) ?_ (by rw[jE,la]) λj t y m L=>?_]
 ·have lt:b<s.heap.objs.size:=(I.hok b o e).lt;rw[O b (D b (Nat.le_of_lt lt)),aG (km lt)];exact e
 ·rw[O _ (D _ (jJ _)),aC]
 ·rw[jM]at m
  cases e:d[j]? with
  |none=>rw[e]at m;cases m
  |some x=>
   rw[e]at m
   cases m;exact#[x,8,k1 (x,[kV y.1,y.2]) (j9.mpr #[(x,y),jP (List.getElem?_zip_eq_some.mpr #[e,L]),8])]
end
end L2
namespace L2
open PySem PySem.W PyProof.Rows
abbrev KsT(n:Nat)(c:Nat->Nat->Bool):KasT α->(α->Prop)->Prop
 |.ret a,Q=>Q a
 |.ask i j k,Q=>i<n/\j<n/\KsT n c (k (c i j)) Q
section
variable{n:Nat}{c:Nat->Nat->Bool}
def KsT.bind{Q:β->Prop}:∀(t:KasT α),KsT n c t (λa=>KsT n c (f a) Q)->KsT n c (t.bind f) Q
 |.ret _,h=>h
 |.ask _ _ k,h=>#[h.1,h.2.1,KsT.bind (k _) h.2.2]
def KsT.mono{Q Q':α->Prop}(hq:∀a,Q a->Q' a):∀(t:KasT α),KsT n c t Q->KsT n c t Q'
 |.ret _,h=>hq _ h
 |.ask _ _ k,h=>#[h.1,h.2.1,KsT.mono hq (k _) h.2.2]
def KsT.wp(hc:∀i j(C:Bool->Shared->Prop),i<n->j<n->C (c i j) s->cmp i j C s):∀t:KasT α,KsT n c t (λa=>G a s)->t.kasWp cmp G s
 |.ret _,h=>h
 |.ask i j k,h=>hc i j _ h.1 h.2.1 (KsT.wp hc (k _) h.2.2)
structure KsL(n:Nat)(c:Nat->Nat->Bool):Prop where
 tr:∀i j k,c i j=true->c j k=true->c i k=true
 tri:∀i j,i<n->j<n->i≠j->c i j=false->c j i=true
 as:∀i j,c i j=true->c j i=true->False
structure KsP(n:Nat)(p:Array Nat):Prop where
 z:0<n
 sz:p.size=n
 pm:p.toList.Perm (List.range n)
variable{p:Array Nat}
def KsP.at_(h:KsP n p)(hi:i<n):p.toList[i]?=some (p.getD i 0):=by
 have:i<p.size:=by rw[h.sz];exact hi
 rw[Array.getElem?_toList];simp[Array.getD,this]
def KsP.lt(h:KsP n p)(i:Nat):p.getD i 0<n:=by
 by_cases hi:i<n
 ·exact List.mem_range.mp (h.pm.mem_iff.mp (jP (h.at_ hi)))
 ·have:¬i<p.size:=by rw[h.sz];exact hi
  simp only[Array.getD,this,dite_false];exact h.z
def KsP.ne(h:KsP n p)(hi:i<n)(hj:j<n)(e:i≠j):p.getD i 0≠p.getD j 0:=λq=>
 e ((List.getElem?_inj (by rw[ki,h.sz];exact hi) (h.pm.nodup_iff.mpr List.nodup_range)).mp (by rw[h.at_ hi,h.at_ hj,q]))
abbrev KsU(c:Nat->Nat->Bool)(p:Array Nat)(m:Nat):Prop:=∀i j,i<j->j<m->c (p.getD i 0) (p.getD j 0)=true
abbrev KsD(c:Nat->Nat->Bool)(p:Array Nat)(m:Nat):Prop:=∀i j,i<j->j<m->c (p.getD j 0) (p.getD i 0)=true
def KsU.snoc(L:KsL n c)(h:KsU c p m)(hm:1<=m)(e:c (p.getD (m-1) 0) (p.getD m 0)=true):KsU c p (m+1):=λi j a b=>by
 by_cases hj:j<m
 ·exact h i j a hj
 ·obtain rfl:j=m:=by lia
  by_cases hi:i=j-1
  ·rw[hi];exact e
  ·exact L.tr _ _ _ (h i (j-1) () ()) e
def KsD.snoc(L:KsL n c)(h:KsD c p m)(hm:1<=m)(e:c (p.getD m 0) (p.getD (m-1) 0)=true):KsD c p (m+1):=λi j a b=>by
 by_cases hj:j<m
 ·exact h i j a hj
 ·obtain rfl:j=m:=by lia
  by_cases hi:i=j-1
  ·rw[hi];exact e
  ·exact L.tr _ _ _ e (h i (j-1) () ())
def asc_t(L:KsL n c)(hp:KsP n p):∀(f a:Nat),1<=a->a+f=n->KsU c p a->KsT n c (kas_asc p f a) (λm=>a<=m/\m<=n/\KsU c p m/\(m<n->c (p.getD m 0) (p.getD (m-1) 0)=true))
 |0,a,_,e,U=>#[jJ _,by omega,U,λh=>by omega]
 |f+1,a,h1,e,U=>by
  refine#[hp.lt _,hp.lt _,?_]
  cases hc:c (p.getD a 0) (p.getD (a-1) 0) with
  |true=>exact#[jJ _,by omega,U,λ_=>hc]
  |false=>
   exact KsT.mono (λm h=>#[by omega,h.2]) _ (asc_t L hp f (a+1) (by omega) (by omega) (U.snoc L h1 (L.tri _ _ (hp.lt _) (hp.lt _) (hp.ne (by omega) (by omega) (by omega)) hc)))
def desc_t(L:KsL n c)(hp:KsP n p):∀(f k:Nat),1<=k->k+f=n->KsD c p k->KsT n c (kas_desc f p k 0) (λr=>r.1=p/\r.2.2=0/\k<=r.2.1/\r.2.1<=n/\KsD c p r.2.1)
 |0,k,_,e,D=>#[8,8,jJ _,by show k<=n;omega,D]
 |f+1,k,h1,e,D=>by
  refine#[hp.lt _,hp.lt _,?_]
  cases hc:c (p.getD k 0) (p.getD (k-1) 0) with
  |true=>
   exact KsT.mono (λm h=>#[h.1,h.2.1,by omega,h.2.2.2]) _ (desc_t L hp f (k+1) (by omega) (by omega) (D.snoc L h1 hc))
  |false=>
   refine#[hp.lt _,hp.lt _,?_];rw[L.tri _ _ (hp.lt _) (hp.lt _) (hp.ne (by omega) (by omega) (by omega)) hc];exact#[8,8,jJ _,by show k<=n;omega,D]
def getD_q{a:Array Nat}(h:a[i]?=some x):a.getD i 0=x:=by
 let#[hi,e]:=kB.mp h;simp[Array.getD,hi,e]
def rev_at(hp:KsP n p)(hk:k<=n)(hi:i<n):(kas_rev p 0 k).getD i 0=p.getD (if i<k then k-1-i else i) 0:=by
 refine getD_q ?_;unfold kas_rev;rw[getElem?_mirror_all (by rw[hp.sz];exact hk)];have q:∀j,j<n->p[j]?=some (p.getD j 0):=λj a=>by rw[<-Array.getElem?_toList];exact hp.at_ a
 split
 ·rename_i h;rw[if_pos h.2,show 0+k-1-i=k-1-i by lia];exact q _ ()
 ·rename_i h;rw[if_neg ()];exact q _ hi
def rev_pp(hp:KsP n p)(k:Nat):KsP n (kas_rev p 0 k):=#[hp.z,by rw[kas_rev_size];exact hp.sz,(Array.perm_iff_toList_perm.mp (mirror_perm _ _ _ _)).trans hp.pm]
def rev_up(hp:KsP n p)(hk:k<=n)(D:KsD c p k):KsU c (kas_rev p 0 k) k:=λi j a b=>by
 rw[rev_at hp hk (by omega),rev_at hp hk (by omega),if_pos (by omega),if_pos b];exact D _ _ (by omega) (by omega)
def tail_t(L:KsL n c)(hp:KsP n p)(h1:1<=k)(hk:k<=n)(D:KsD c p k):KsT n c (kas_tail3 k n p) (λr=>KsP n r.2/\r.1<=n/\1<=r.1/\KsU c r.2 r.1):=by
 unfold kas_tail3;exact KsT.bind _ (KsT.mono (λm h=>#[rev_pp hp k,h.2.1,by show 1<=m;omega,h.2.2.1]) _ (asc_t L (rev_pp hp k) (n-k) k h1 (by omega) (rev_up hp hk D)))
def count_t(L:KsL n c)(hp:KsP n p)(h2:2<=n):KsT n c (kas_count n p) (λr=>KsP n r.2/\r.1<=n/\1<=r.1/\KsU c r.2 r.1):=by
 unfold kas_count;refine KsT.bind _ (KsT.mono (λm h=>?_) _ (asc_t L hp (n-1) 1 (jJ _) () λi j a b=>by lia));let#[d,l,U,q]:=h
 split
 ·exact#[hp,l,d,U]
 ·rename_i ne;have u:m≠n:=λe=>ne (by rw[e];exact beq_self_eq_true n)
  split
  ·refine#[hp.lt _,hp.lt _,?_];rw[U 0 (m-1) () ()];exact#[hp,l,d,U]
  ·obtain rfl:m=1:=by lia
   unfold kas_descPart;refine KsT.bind _ (KsT.mono (λr h=>?_) _ (desc_t L hp (n-2) 2 () () λi j a b=>?_))
   ·let#[s,o,v,t,D]:=h;rw[o,if_neg (by decide),s];exact tail_t L hp () t D
   ·obtain rfl:i=0:=by lia
    obtain rfl:j=1:=by lia
    exact q ()
def place_t(L:KsL n c)(hp:KsP n p)(hk:k<n):∀(f l r:Nat),r-l<=f->l<=r->r<=k->KsU c p k->(∀i,i<l->c (p.getD i 0) (p.getD k 0)=true)->(∀i,r<=i->i<k->c (p.getD k 0) (p.getD i 0)=true)->
  KsT n c (kas_place p k f l r) (λm=>m<=k/\(∀i,i<m->c (p.getD i 0) (p.getD k 0)=true)/\∀i,m<=i->i<k->c (p.getD k 0) (p.getD i 0)=true)
 |0,l,r,h1,h2,h3,U,A,B=>#[by omega,A,λi a b=>B i (by omega) b]
 |f+1,l,r,h1,h2,h3,U,A,B=>by
  show KsT n c (if l≥r then _ else _) _
  split
  ·exact#[by omega,A,λi a b=>B i (by omega) b]
  ·refine#[hp.lt _,hp.lt _,?_];generalize o:(l+r)/2=m;have h:l<=m:=by omega
   have j:m<r:=by omega
   cases hc:c (p.getD k 0) (p.getD m 0) with
   |true=>
    refine place_t L hp hk f l m (by omega) h (by omega) U A λi a b=>?_;by_cases e:m=i
    ·rw[<-e];exact hc
    ·exact L.tr _ _ _ hc (U m i (by omega) b)
   |false=>
    have d:=L.tri _ _ (hp.lt _) (hp.lt _) (hp.ne hk (by omega) (by omega)) hc;refine place_t L hp hk f (m+1) r (by omega) (by omega) h3 U (λi a=>?_) B;by_cases e:i=m
    ·rw[e];exact d
    ·exact L.tr _ _ _ (U i m (by omega) (by omega)) d
def bub_at(hp:KsP n p)(hk:k<n)(hl:l<=k)(hi:i<n):(bubble p k (k-l)).getD i 0=p.getD (if i=l then k else if l<i/\i<=k then i-1 else i) 0:=by
 refine getD_q ?_;have q:∀j,j<n->p[j]?=some (p.getD j 0):=λj a=>by rw[<-Array.getElem?_toList];exact hp.at_ a
 rw[getElem?_bubble (by rw[hp.sz];exact hk) (k-l) (by omega),show k-(k-l)=l by omega]
 split
 ·exact q _ hk
 ·split
  ·exact q _ (by omega)
  ·exact q _ hi
def bin_t(L:KsL n c):∀(f:Nat)(p:Array Nat)(k:Nat),KsP n p->1<=k->k+f=n->KsU c p k->KsT n c (kas_bin f p k) (λq=>KsP n q/\KsU c q n)
 |0,p,k,hp,h1,e,U=>#[hp,by rw[<-e];exact U]
 |f+1,p,k,hp,h1,e,U=>by
  have d:k<n:=by omega
  show KsT n c ((kas_place p k k 0 k).bind _) _;refine KsT.bind _ (KsT.mono (λl h=>?_) _ (place_t L hp d k 0 k (by omega) (by omega) (jJ _) U (λi a=>by omega) λi a b=>by omega));let#[m,A,B]:=h;refine bin_t L f _ (k+1) #[hp.z,by rw[bubble_size];exact hp.sz,(Array.perm_iff_toList_perm.mp (bubble_perm _ _ _)).trans hp.pm] (by omega) (by omega) λi j a b=>?_;rw[bub_at hp d m (by omega),bub_at hp d m (by omega)];by_cases e1:i=l
  ·rw[if_pos e1,if_neg (by omega),if_pos (by omega)];exact B _ (by omega) (by omega)
  ·rw[if_neg e1];by_cases e2:l<i/\i<=k
   ·rw[if_pos e2,if_neg (by omega),if_pos (by omega)];exact U _ _ (by omega) (by omega)
   ·rw[if_neg e2];by_cases e3:j=l
    ·rw[if_pos e3];exact A _ (by omega)
    ·rw[if_neg e3]
     split
     ·exact U _ _ (by omega) (by omega)
     ·exact U _ _ a (by omega)
def sort_t(L:KsL n c)(h2:2<=n):KsT n c (kas_sort n) (λq=>KsP n q/\KsU c q n):=by
 unfold kas_sort;have d:KsP n (List.toArray (List.range n)):=#[4,by rw[j0,List.length_range],.refl _];refine KsT.bind _ (KsT.mono (λr h=>?_) _ (count_t L d h2));let#[b,i,a,U]:=h
 split
 ·rw[Nat.max_eq_left a];exact bin_t L _ _ _ b a () U
 ·have e:r.1=n:=by lia
  rw[e]at U;exact#[b,U]
end
end L2
namespace L2
open PySem PySem.W PySem.Spec PyProof.Rows
def nCps_ext{a b:Str}(h:a.cps.toList=b.cps.toList):a=b:=by
 let#[a]:=a;let#[b]:=b;have e:a=b:=Array.toList_inj.mp h;rw[e]
def nCps_tri{a b:Str}(h:¬a.cps.toList<b.cps.toList)(ne:a≠b):b.cps.toList<a.cps.toList:=by
 refine Decidable.byContradiction λc=>ne (nCps_ext (List.le_antisymm (List.not_lt.mp c) (List.not_lt.mp h)))
abbrev nLt(a b:Str):Bool:=decide (a.cps.toList<b.cps.toList)
def nLt_tr(h1:nLt a b=true)(h2:nLt b c=true):nLt a c=true:=jL (List.lt_trans (kG h1) (kG h2))
def nLt_as(h1:nLt a b=true)(h2:nLt b a=true):False:=List.lt_irrefl _ (List.lt_trans (kG h1) (kG h2))
def nLt_tri(h:nLt a b=false)(ne:a≠b):nLt b a=true:=jL (nCps_tri (of_decide_eq_false h) ne)
section
variable{prog:Program}{w:World}{A:Around}{E:Value->Shared->Prop}{s:Shared}
abbrev FstT(h:Heap)(v:Value)(e:Str):Prop:=∃x o t1 y n,v=.ref x/\h.get? x=some o/\o.cls=.type "tuple"/\o.data=.seq (List.toArray [.str e t1,y]) n
def lt_fst(h1:FstT s.heap v e)(h2:FstT s.heap u f)(hs:e=f->v=u)(h:Q (nLt e f) s):wpAny (model prog w) A (keyLt' (tuples' true) v u) Q E s:=by
 let#[x,o,m,i,n,8,c,_,hd]:=h1;let#[y,j,p,d,l,8,a,_,b]:=h2;refine kat_lt c hd a b ?_;refine kat_cons (wpAny_eqBool_str ?_);by_cases e1:e=f
 ·cases hs e1;rw[c]at a
  cases a;rw[hd]at b
  cases b;rw[jL e1];refine kat_yes (kat_cons (SeqAt.EqAt.same _ _ _ _ _ (kat_yes (kat_nil ?_))));unfold nLt at h
  have:(decide (e.cps.toList<e.cps.toList))=false:=jI (List.lt_irrefl _)
  rw[this]at h;exact h
 ·rw[jI e1];exact kat_no (oneLt_str h)
def sort_fst{fs:List Str}(ho:s.heap.get? a=some (seqObj "list" vs.toArray n))(hl:vs.length=fs.length)
  (tw:∀(i:Nat) v e,vs[i]?=some v->fs[i]?=some e->FstT s.heap v e/\v≠.ref a)(nd:fs.Nodup)(h64:vs.length<64)
  (h:∀(out:Array Value)(q:List Nat),q.Perm (List.range vs.length)->out.toList=q.map (λi=>vs.getD i Value.none)->q.Pairwise (λi j=>nLt (fs.getD i "") (fs.getD j "")=true)->P (.done (.ret .none)) {s with heap:=sortedHeap s.heap a vs out}):
  wpAny (model prog w) A (Builtin.«list.sort» #[[.ref a],[]]) P E s:=by
 have ha:a<s.heap.objs.size:=jO ho;obtain⟨e1,N⟩:∃k,(s.heap.update a (Obj.mapSeq λ_=>((List.toArray []):Array Value))).get? a=some (seqObj "list" (List.toArray []) k):=#[_,get?_update_seq ho λ_=>(List.toArray [])]
 have kp:∀b u,b≠a->s.heap.get? b=some u->(((s.heap.update a (Obj.mapSeq λ_=>((List.toArray []):Array Value))).push (seqObj "tuple" vs.toArray 0)).push (seqObj "list" (List.toArray []) 0)).get? b=some u:=λb u nb hb=>by
  refine jG _ (jG _ ?_);rw[Heap.get?_update_ne _ _ _ _ nb];exact hb
 have D:(((s.heap.update a (Obj.mapSeq λ_=>((List.toArray []):Array Value))).push (seqObj "tuple" vs.toArray 0)).push (seqObj "list" (List.toArray []) 0)).get? a=some (seqObj "list" (List.toArray []) e1):=jG _ (jG _ N);rw[list_sort_plain];refine jD (listItems_at ho rfl ?_);refine jD (listUpdate_at ho rfl ?_ (by rw[j0,sizeLine_eq];lia) (jZ _));refine jD (seqEpoch_at N rfl ?_);refine jD (wpAny_newTuple ?_ (by show vs.length<=_;rw[sizeLine_eq];lia));refine jD (wpAny_newList ?_ (jZ _));refine wpAny_holding ?_;show wpAny (model prog w) A _ P E {s with heap:=((s.heap.update a (Obj.mapSeq λ_=>(List.toArray []))).push (seqObj "tuple" vs.toArray 0)).push (seqObj "list" (List.toArray []) 0)};dsimp only;by_cases h2:vs.toArray.size<2
 ·have B:vs.length<2:=by simpa using h2
  rw[if_pos h2,if_pos h2];refine jD (jN ?_);rw[StateT.run_pure];refine jD (jN ?_);dsimp only;refine jD (seqEpoch_at D rfl ?_);refine jD (listUpdate_at D rfl ?_ (hsz2:=by rw[Array.size_map];show(pairsOf vs).size<=_;rw[pairsOf_size,sizeLine_eq];lia));simp only[bne_self_eq_false,lF,if_false];refine jN (h _ (List.range vs.length) (.refl _) ?_ ?_)
  ·show((pairsOf vs).map (·.2)).toList=_;rw[Array.toList_map,pairsOf_toList,List.map_snd_zip (jJ _)]
   match vs,B with
   |[],_=>rfl
   |[_],_=>rfl
  ·match vs,B with
   |[],_=>exact .nil
   |[_],_=>exact List.pairwise_singleton _ _
 ·have B:2<=vs.length:=by simp at h2;lia
  rw[if_neg h2,if_neg h2]
  have J:∀i,i<vs.length->FstT (((s.heap.update a (Obj.mapSeq λ_=>((List.toArray []):Array Value))).push (seqObj "tuple" vs.toArray 0)).push (seqObj "list" (List.toArray []) 0)) (vs.getD i Value.none) (fs.getD i ""):=λi hi=>by
   have ev:vs[i]?=some (vs.getD i Value.none):=by rw[j3,jF hi];rfl
   have ef:fs[i]?=some (fs.getD i ""):=by rw[j3,jF ()];rfl
   let#[#[x,o,Y,t2,m,e,U,Z,hd],ne]:=tw i _ _ ev ef;exact#[x,o,Y,t2,m,e,kp x o (λz=>ne (by rw[e,z])) U,Z,hd]
  have aa:KsL vs.length (λi j=>nLt (fs.getD i "") (fs.getD j "")):=by
   refine#[λi j k=>nLt_tr,λi j hi O ne q=>nLt_tri q λe=>ne ?_,λi j=>nLt_as];refine(List.getElem?_inj (l:=fs) () nd).mp ?_;rw[j3,j3,jF (),jF ()]at e;rw[jF (),jF ()];exact kI some e
  generalize X:(((s.heap.update a (Obj.mapSeq λ_=>((List.toArray []):Array Value))).push (seqObj "tuple" vs.toArray 0)).push (seqObj "list" (List.toArray []) 0))=H at D J
  obtain⟨F,W,ad,R⟩:yE1 λ(F:List Value)=>KatTups H vs F×' F.length=vs.length×'∀v∈F,∃x t,v=.str x t:=by
   have gen:∀(l:List Value),(∀v∈l,∃e,FstT H v e)->yE1 λ(F:List Value)=>KatTups H l F×' F.length=l.length×'∀v∈F,∃x t,v=.str x t:=λl=>by
    induction l with
    |nil=>exactλ_=>#[[],.nil,8,λv I=>nomatch I]
    |cons y r ih=>
     intro hy;let#[F,k1,k2,k3]:=ih λv I=>hy v (jW _ I);let#[e,x,o,Y,t2,m,8,U,Z,hd]:=hy y jX;refine#[.str e Y::F,.cons U Z hd rfl k1,by rw[jU,jU,k2],λv I=>?_];rcases jR.mp I with q|q
     ·exact#[_,_,q]
     ·exact k3 v q
   refine gen vs λv I=>?_;let#[i,hi,e]:=List.mem_iff_getElem.mp I
   have:=J i hi
   rw[j3,jF hi]at this;exact#[_,by rw[<-e];exact this]
  refine jD (kat_kind (s:={s with heap:=H}) (T:=.type "str") W () (λv I=>?_) rfl ?_)
  ·let#[x,t,8]:=R v I;exact .now
  refine jD (kr (kat_run (Q:=λd M=>M={s with heap:=H}×' failedOf d=none×'∃p:Array Nat,arrOf d=p.map (kas_item (vs.toArray.zip vs.toArray))/\KsP vs.length p/\KsU (λi j=>nLt (fs.getD i "") (fs.getD j "")) p vs.length)
   (G:=λp M=>M={s with heap:=H}/\KsP vs.length p/\KsU (λi j=>nLt (fs.getD i "") (fs.getD j "")) p vs.length) rfl B h64 (λp d M a1 a2 a3 a4=>#[a4.1,a3,p,a2,a4.2]) ?_) ?_ λ_ _ e=>e)
  ·refine KsT.wp (n:=vs.length) (c:=λi j=>nLt (fs.getD i "") (fs.getD j "")) (λi j C hi O hC=>?_) _ (KsT.mono (λp L=>#[8,L]) _ (sort_t aa B));refine lt_fst (s:={s with heap:=H}) (J i hi) (J j O) (λe=>?_) hC;rw[j3,j3,jF (),jF ()]at e;have e:i=j:=(List.getElem?_inj (l:=fs) () nd).mp (by rw[jF (),jF ()];exact kI some e);rw[e]
  rintro⟨⟨⟩,d⟩M⟨rfl,hf,p,ab,L,hU⟩;dsimp only;have K:=kat_snds rfl ab;have ac:((arrOf d).map (·.2)).size=vs.length:=by rw[K,j0,jE,ki,L.sz]
  refine jD (seqEpoch_at (s:={s with heap:=H}) D rfl ?_);refine jD (listUpdate_at (s:={s with heap:=H}) D rfl ?_ (jZ _) (by rw[ac,sizeLine_eq];lia));rw[hf];simp only[bne_self_eq_false,lF,if_false];refine jN ?_;rw[<-X];refine h _ p.toList L.pm (by rw[K]) (List.pairwise_iff_getElem.mpr λi j hi O lt=>?_)
  have q:∀k(S:k<p.toList.length),p.toList[k]=p.getD k 0:=λk S=>by
   have:=L.at_ (i:=k) (by rw[<-L.sz,<-ki];exact S)
   rw[jF S]at this;exact kh this
  rw[q,q];exact hU i j lt (by rw[<-L.sz,<-ki];exact O)
end
section
variable{X:Cx}
def gN(hh:X.A.handled=none):et X (.builtin "sorted") (λxs H Q=>∃(p:Addr)(ts:List V)(fs:List Str),xs=[.ref p]/\SqL X.K H p ts/\ts.length=fs.length/\(∀(i:Nat) v e,ts[i]?=some v->fs[i]?=some e->∃t y,v=.ref t/\H t=some (.tup [.str e,y]))/\fs.Nodup/\fs.length<64/\
  ∀l(q:List Nat),H l=none->q.Perm (List.range fs.length)->(q.map λi=>fs.getD i "").Pairwise (λa b=>nLt a b=true)->Q (.ref l) (upd H l (.lst (q.map λi=>ts.getD i .non)))):=by
 intro aa s σ H xs us Q I r h;let#[p,ts,fs,8,hq,hl,tw,nd,ab,k]:=h;let#[u,8,rx]:=fS r
 cases rx;let#[A,M,pl,hz]:=I.list hq;have el:=M.length
 have T:∀(i:Nat) v e,A[i]?=some v->fs[i]?=some e->FstT s.heap v e:=λi v e L N=>by
  let#[hi,_]:=jH.mp L;obtain⟨t,Y⟩:∃t,ts[i]?=some t:=#[_,jF ()];let#[x,y,8,hx]:=tw i t e Y N;have rr:=dF M Y L
  cases rr;let#[ws,r2,#[o,g,W,n,hd],_]:=I.tuple (SqT.of (K:=X.K) hx)
  cases r2 with
  |cons E r3=>
   cases r3 with
   |cons Z r4=>
    cases r4;let#[R,8]:=E;exact#[x,o,R,_,n,8,g,W,hd]
 refine Calls.call_function_entry kind_sorted plain_sorted entry_sorted (args_sorted1 _) ?_;unfold Builtin.«sorted»;refine jD (m:=checkCount "sorted" 1 1 _) (jN ?_);refine jD (collect_list pl.isList ?_ (by rw[sizeLine_eq];lia));refine jD (wpAny_newList ?_ (by rw[sizeLine_eq];lia));have S:((s.heap.push (seqObj "list" (List.toArray []) 0)).update s.heap.objs.size (Obj.mapSeq (·++A.toArray))).objs.size=s.heap.objs.size+1:=by rw[Heap.size_update,size_push']
 generalize U:(s.heap.push (seqObj "list" (List.toArray []) 0)).update s.heap.objs.size (Obj.mapSeq (·++A.toArray))=d at S
 have B:∀b o,s.heap.get? b=some o->d.get? b=some o:=λb o q=>by
  have P:b<s.heap.objs.size:=jO q;rw[<-U,Heap.get?_update_ne _ _ _ _ (km P)];exact jG _ q
 have D:(d.push (seqObj "list" A.toArray 0)).get? d.objs.size=some (seqObj "list" A.toArray 0):=jT _ rfl;show wpAny _ _ _ _ _ {s with heap:=d.push (seqObj "list" A.toArray 0)};have w:∀b o,s.heap.get? b=some o->b<d.objs.size:=λb o z=>jO (B b o z);refine jD (wpAny_holding (wpAny_call_entry slot_list_sort #[_,D,8] entry_list_sort (sort_fst (s:={s with heap:=d.push (seqObj "list" A.toArray 0)}) (fs:=fs) D () (λi v e L N=>?_) nd () λout q E Z q3=>#[9,?_]) (args_list_sort _)))
 ·let#[x,o,R,t2,n,8,g,W,hd]:=T i v e L N;exact#[#[x,o,R,t2,n,8,jG _ (B _ _ g),W,hd],λz=>by cases z;exact absurd (w _ _ g) (ku _)]
 let#[e,F]:=sortedHeap_at (out:=out) D;refine jN #[9,?_]
 have keep:∀b o,s.heap.get? b=some o->(sortedHeap (d.push (seqObj "list" A.toArray 0)) d.objs.size A out).get? b=some o:=λb o z=>by
  have:=w b o z
  rw[sortedHeap_old (km this) (by rw[size_push'];exact Nat.lt_succ_of_lt this)];exact jG _ (B b o z)
 have G:H d.objs.size=none:=by
  cases e:H d.objs.size with
  |none=>rfl
  |some ob=>exact absurd (I.hok.kept B _ _ e).lt (ku _)
 have I1:=I.kept (t':=s.toks) keep;rw[<-el,hl]at E
 have vo:Vals (q.map λi=>ts.getD i .non) out.toList:=by
  rw[Z]
  have gen:∀l:List Nat,(∀i∈l,i<ts.length)->Vals (l.map λi=>ts.getD i .non) (l.map λi=>A.getD i Value.none):=λl=>by
   induction l with
   |nil=>exactλ_=>.nil
   |cons i r ih=>
    intro hi;have i1:=hi i jX;refine .cons ?_ (ih λj hj=>hi j (jW _ hj));show RelV (ts.getD i .non) (A.getD i Value.none);rw[j3,j3,jF i1,jF ()];exact dF M (jF i1) (jF ())
  exact gen q λi hi=>by have:=List.mem_range.mp (E.mem_iff.mp hi);lia
 have lq:q.length=fs.length:=by rw[E.length_eq,List.length_range]
 refine#[.ref d.objs.size,_,I1.trackI (t:=d.objs.size) (o:=.lst (q.map λi=>ts.getD i .non)) ?_ G ?_ (λx c e z=>?_) (λp hp z=>?_) (λc o J=>?_),8,k _ q G E (List.pairwise_map.mpr q3)]
 ·let#[_,O,_]:=I.loc;let#[_,_,_,z,_]:=O;exact jK I.ok.above (Nat.le_of_lt (w _ _ z))
 ·let#[_,O,_]:=I.loc;let#[_,_,_,z,_]:=O;exact k8 (w _ _ z)
 ·let#[v,#[o,q,_]]:=I.cell x c e;exact absurd (w _ _ q) (by rw[z];exact ku _)
 ·exact absurd (w _ _ (I.pin p hp).1) (by rw[z];exact ku _)
 ·by_cases hb:c=d.objs.size
  ·subst hb;rw[aC]at J
   cases J;exact#[by rw[jE,lq,sizeLine_eq];lia,out.toList,e,vo,by rw[Array.toArray_toList];exact F]
  ·rw[aG hb]at J;exact(I1.hok c o J).stay (λ_ _ _ q=>q) (λc q=>by rw[aG (aP q G)];exact q) λc xs q=>by rw[aG (aP q G)];exact q
end
end L2
namespace L2
open PySem PySem.W PySem.Spec PyProof.Rows
def op_alt(h1:OpR X o r1)(h2:OpR X o r2):OpR X o (λx y H Q=>r1 x y H Q∨r2 x y H Q):=by
 intro a s σ H x y v u Q I b c h;rcases h with h|h
 ·exact h1 a s σ H x y v u Q I b c h
 ·exact h2 a s σ H x y v u Q I b c h
end L2
namespace L2
open PySem PySem.Spec PyProof.Rows
section
variable{X:Cx}
abbrev rDeL(K:W.Frag)(b:Bool):R2:=λx y H Q=>∃p q xs ys,x=.ref p/\y=.ref q/\SqL K H p xs/\SqL K H q ys/\xs.length=ys.length/\(∀(j:Nat)(x y:V),xs[j]?=some x->ys[j]?=some y->EqD K H 20 x y)/\Q (.bl b) H
def deL_at(I:Inv X pins σ H s)(r:Vals xs us)(r':Vals ys ws)(hd:∀(j:Nat)(x y:V),xs[j]?=some x->ys[j]?=some y->EqD X.K H 20 x y)(hu:A.units+20<cLine)(j:Nat)(h1:j<us.toArray.size)(h2:j<ws.toArray.size):SeqAt.EqAt A s us.toArray[j] ws.toArray[j] true:=by
 have h:=r.length;have e:=r'.length;have d:j<us.length:=by simpa using h1
 have c:j<ws.length:=by simpa using h2
 have b:xs[j]?=some (xs[j]'()):=jF _;have a:ys[j]?=some (ys[j]'()):=jF _;rw[kM,kM];exact(hd j _ _ b a).at I hu (dF r b (jF d)) (dF r' a (jF c))
def op_eqDL(hu:X.A.units+64<cLine):OpR X (compareOp .Eq) (rDeL X.K true):=by
 intro b s σ H x y v u Q I l o h;let#[p,q,D,E,8,8,w,i,B,hd,k]:=h
 cases l
 cases o;let#[F,r,m,_]:=I.list w;let#[G,c,a,_]:=I.list i;have J:=r.length;have z:=c.length;refine SeqAt.eq_listAt (e:=λ_=>true) m.isList a.isList (by rw[j0,j0];lia) () (λj t d=>deL_at I r c hd (show X.A.units+1+20<cLine by lia) j t d) #[.bl _,H,I,8,?_];rw[all_tt];exact k
end
end L2
namespace G
abbrev gcd(a b:Int):Int:=(Int.gcd a b:Int)
def gcd_nonneg(a b:Int):0<=gcd a b:=Int.natCast_nonneg _
def gcd_zero(a:Int)(h:0<=a):gcd a 0=a:=by
 unfold gcd;rw[Int.gcd_zero_right];lia
def gcd_abs(a b:Int):gcd (if a<0 then-a else a) (if b<0 then-b else b)=gcd a b:=by
 unfold gcd;congr 1
 split<;>split<;>simp[Int.neg_gcd,Int.gcd_neg]
def gcd_step(a b:Int)(hb:0<b):gcd b (a%b)=gcd a b:=by
 unfold gcd;congr 1;rw[Int.gcd_comm b];have e:a=a%b+(a/b)*b:=by have:=Int.emod_add_mul_ediv a b;rw[kW]at this;lia
 have h:=Int.gcd_add_mul_right_left b (a%b) (a/b);rw[<-e]at h;exact h.symm
def gi(a b:Nat):(a:Int).fdiv (b:Int)=((a/b:Nat):Int):=by
 rw[kQ _ (Int.natCast_nonneg _)];rfl
def den_pos(x:Rat):(0:Int)<(x.den:Int):=by have:=x.den_nz;lia
def gcd_den(x:Rat):gcd x.num x.den=1:=by
 have h:=x.reduced;have e:Int.gcd x.num x.den=1:=h;unfold gcd;rw[e];rfl
def iu(a b:Int)(hb:b≠0):a.fdiv (if b<0 then-(gcd a b) else gcd a b)=(Rat.divInt a b).num/\b.fdiv (if b<0 then-(gcd a b) else gcd a b)=((Rat.divInt a b).den:Int):=by
 have j:0<Int.gcd a b:=Int.gcd_pos_of_ne_zero_right a hb;let#[k,d]:=lP a b;let#[m,c]:=Int.gcd_dvd_right a b;have e:(Int.gcd a b:Int)≠0:=by lia
 rw[Rat.num_divInt,Rat.den_divInt,if_neg hb,Int.gcd_comm b a];unfold gcd;generalize q:Int.gcd a b=g at*;have l:∀z:Int,(g*z).fdiv g=z:=λz=>by rw[kW,Int.mul_fdiv_cancel _ e]
 have i:∀z:Int,(g*z).fdiv (-(g:Int))=-z:=λz=>by
  have:(g:Int)*z=(-z)*(-(g:Int)):=by rw[Int.neg_mul_neg,kW]
  rw[this,Int.mul_fdiv_cancel _ ()]
 by_cases hs:b<0
 ·rw[if_pos hs,Int.sign_eq_neg_one_of_neg hs];constructor
  ·conv=>lhs;rw[d,i]
   have:-1*a=-k*g:=by rw[d,kW (g:Int) k,Int.neg_mul,Int.neg_mul,Int.one_mul]
   rw[this,Int.mul_ediv_cancel _ e]
  ·conv=>lhs;rw[c,i]
   have p:m<0:=by
    rcases Int.lt_trichotomy m 0 with h|h|h
    ·exact h
    ·rw[h]at c;lia
    ·have:=Int.mul_pos (show(0:Int)<g by lia) h;lia
   have:b.natAbs=m.natAbs*g:=by rw[c,lB,kH,Nat.mul_comm]
   rw[this,Nat.mul_div_cancel _ j];lia
 ·rw[if_neg hs,Int.sign_eq_one_of_pos ()];constructor
  ·conv=>lhs;rw[d,l]
   have:1*a=k*g:=by rw[d,kW (g:Int) k,Int.one_mul]
   rw[this,Int.mul_ediv_cancel _ e]
  ·conv=>lhs;rw[c,l]
   have o:0<m:=by
    rcases Int.lt_trichotomy m 0 with h|h|h
    ·have:=Int.mul_neg_of_pos_of_neg (show(0:Int)<g by lia) h;lia
    ·rw[h]at c;lia
    ·exact h
   have:b.natAbs=m.natAbs*g:=by rw[c,lB,kH,Nat.mul_comm]
   rw[this,Nat.mul_div_cancel _ j];lia
def iY{a:Int}{g:Nat}(h:(g:Int)∣a):a.fdiv (g:Int)=a.tdiv g:=by
 rw[kQ _ (Int.natCast_nonneg _),Int.tdiv_eq_ediv_of_dvd h]
def add_spec(x y:Rat):
  let g:=gcd x.den y.den
  let a:=(x.den:Int).fdiv g
  let top:=x.num*((y.den:Int).fdiv g)+y.num*a
  let left:=gcd top g
  top.fdiv left=(x+y).num/\a*((y.den:Int).fdiv left)=((x+y).den:Int):=by
 have p:=x.den_nz;have o:=y.den_nz;have e:gcd x.den y.den=((x.den.gcd y.den:Nat):Int):=by unfold gcd;rw[Int.gcd_natCast_natCast]
 have h:0<x.den.gcd y.den:=Nat.gcd_pos_of_pos_left _ ();intro g a top left;have b:a=((x.den/x.den.gcd y.den:Nat):Int):=by show(x.den:Int).fdiv (gcd x.den y.den)=_;rw[e,gi]
 have c:top=x.num*((y.den/x.den.gcd y.den:Nat):Int)+y.num*((x.den/x.den.gcd y.den:Nat):Int):=by
  show x.num*((y.den:Int).fdiv (gcd x.den y.den))+y.num*a=_;rw[b,e,gi]
 have d:left=((top.natAbs.gcd (x.den.gcd y.den):Nat):Int):=by
  show((Int.gcd top (gcd x.den y.den):Nat):Int)=_;rw[e];rfl
 have m:x+y=Rat.add x y:=rfl;rw[m];delta Rat.add;dsimp only;rw[d,b]
 split
 ·rename_i i;rw[c];simp only[i,Nat.div_one,Nat.gcd_one_right,gi];simp
 ·rename_i i;rw[Rat.maybeNormalize_eq];dsimp only;simp only[Int.divExact_eq_tdiv];rw[<-c];have l:((top.natAbs.gcd (x.den.gcd y.den):Nat):Int)∣top:=Int.ofNat_dvd_left.2 (Nat.gcd_dvd_left _ _);have j:(top.natAbs.gcd (x.den.gcd y.den):Nat)∣y.den:=Nat.dvd_trans (Nat.gcd_dvd_right _ _) (Nat.gcd_dvd_right _ _);refine#[?_,?_]
  ·rw[iY l]
  ·rw[gi,<-Int.natCast_mul,Nat.mul_div_assoc _ j]
def mul_spec(x y:Rat):
  let first:=gcd x.num y.den
  let a:=gcd y.num x.den
  x.num.fdiv first*y.num.fdiv a=(x*y).num/\(x.den:Int).fdiv a*(y.den:Int).fdiv first=((x*y).den:Int):=by
 intro first a
 have b:x*y=Rat.mul x y:=rfl;rw[b];delta Rat.mul;dsimp only;have d:first=((x.num.natAbs.gcd y.den:Nat):Int):=rfl
 have c:a=((y.num.natAbs.gcd x.den:Nat):Int):=rfl;rw[d,c];simp only[Int.divExact_eq_tdiv,Nat.divExact_eq_div];rw[iY (Int.ofNat_dvd_left.2 (Nat.gcd_dvd_left _ _)),iY (Int.ofNat_dvd_left.2 (Nat.gcd_dvd_left _ _)),gi,gi];exact#[8,by rw[Int.natCast_mul]]
end G
namespace G
abbrev Bd(n:Nat)(x:Rat):Prop:=x.num.natAbs<=2^n/\x.den<=2^n
def hG(h:m<=n):2^m<=2^n:=Nat.pow_le_pow_right (by decide) h
def Bd.mono(b:Bd m x)(h:m<=n):Bd n x:=#[jK b.1 (hG h),jK b.2 (hG h)]
def ib(a:Int)(d:Nat):(a/(d:Int)).natAbs<=a.natAbs:=by
 rcases Nat.eq_zero_or_pos d with h|h
 ·subst h;simp
 ·have hd:(0:Int)<d:=by omega
  rcases Int.le_total 0 a with ha|ha
  ·have c:=Int.ediv_nonneg ha (Int.le_of_lt hd);have e:=Int.ediv_le_self (d:Int) ha;omega
  ·have c:a/(d:Int)<=0:=Int.ediv_nonpos_of_nonpos_of_neg ha hd
   have e:a<=a/(d:Int):=by
    rw[Int.le_ediv_iff_mul_le hd];have b:0<=(-a)*((d:Int)-1):=Int.mul_nonneg () ();rw[Int.neg_mul,Int.mul_sub,Int.mul_one]at b;omega
   omega
def dE{a b m n:Nat}(ha:a<=2^m)(hb:b<=2^n):a*b<=2^(m+n):=by
 rw[Nat.pow_add];exact Nat.mul_le_mul ha hb
def Bd.add(hx:Bd m x)(hy:Bd n y):Bd (m+n+1) (x+y):=by
 constructor
 ·rw[Rat.num_add];refine jK (ib _ _) ?_;have c:=dE hx.1 hy.2;have d:=dE hx.2 hy.1;have b:(x.num*(y.den:Int)).natAbs=x.num.natAbs*y.den:=by rw[lB,kH]
  have a:(y.num*(x.den:Int)).natAbs=x.den*y.num.natAbs:=by rw[lB,kH,Nat.mul_comm]
  have:=Int.natAbs_add_le (x.num*(y.den:Int)) (y.num*(x.den:Int))
  rw[b,a]at this;rw[Nat.pow_succ];lia
 ·rw[Rat.den_add];refine jK (Nat.div_le_self _ _) (jK (dE hx.2 hy.2) (hG ()))
def Bd.neg(hx:Bd m x):Bd m (-x):=#[by rw[Rat.neg_num,Int.natAbs_neg];exact hx.1,hx.2]
def Bd.sub(hx:Bd m x)(hy:Bd n y):Bd (m+n+1) (x-y):=by
 rw[Rat.sub_eq_add_neg];exact hx.add hy.neg
def Bd.mul(hx:Bd m x)(hy:Bd n y):Bd (m+n) (x*y):=by
 constructor
 ·rw[Rat.num_mul];refine jK (ib _ _) ?_;rw[lB];exact dE hx.1 hy.1
 ·rw[Rat.den_mul];exact jK (Nat.div_le_self _ _) (dE hx.2 hy.2)
def Bd.zero:Bd 0 0:=#[5,5]
end G
namespace G
def shown_num(a:Int)(hb:0<b):a.fdiv (gcd a b)=(Rat.divInt a b).num:=by
 have:=(iu a b ()).1
 rwa[if_neg ()]at this
def shown_den(a:Int)(hb:0<b):b.fdiv (gcd a b)=((Rat.divInt a b).den:Int):=by
 have:=(iu a b ()).2
 rwa[if_neg ()]at this
end G
namespace G
open PySem
def rep_cps(c n:Nat):((List.replicate n (List.toArray [c])).foldl (·++·) ((List.toArray []):Array Nat)).toList=List.replicate n c:=by
 have:∀(n:Nat)(a:Array Nat),((List.replicate n (List.toArray [c])).foldl (·++·) a).toList=a.toList++List.replicate n c:=by
  intro n
  induction n with
  |zero=>intro a;simp
  |succ n ih=>
   intro a;rw[List.replicate_succ,List.foldl_cons,ih];simp[List.replicate_succ]
 simpa using this n (List.toArray [])
def mul_cps(c:Nat)(n:Int):(Txt.mul #[(List.toArray [c])] n).cps.toList=List.replicate n.toNat c:=by
 unfold Txt.mul;by_cases h1:n<1
 ·rw[if_pos h1,show n.toNat=0 by lia];rfl
 ·rw[if_neg h1];by_cases h2:n=1
  ·subst h2;rfl
  ·rw[if_neg (by simp[h2,Str.length])];exact rep_cps c n.toNat
def len_cps(x:Str):x.length=x.cps.toList.length:=by show x.cps.size=_;rw[ki]
abbrev sgs:Str:="abcdefghijklmnopqrstuvwxyz0123456789."
abbrev sgAt(i:Int):Nat:=sgs.cps.toList.getD i.toNat 0
abbrev turnK(k c:Int):Int:=(k*(1+c/5%36)+c/180)%37
end G
namespace G
abbrev Cop(a b:Int):Prop:=∀d:Int,d∣a->d∣b->d∣1
def Cop.one{a b:Int}(h:gcd a b=1):Cop a b:=λd c e=>by
 have:=Int.dvd_coe_gcd c e
 rw[show((Int.gcd a b:Nat):Int)=1 from h]at this;exact this
def Cop.gcd{a b:Int}(h:Cop a b):Int.gcd a b=1:=by
 have c:=Int.eq_one_of_dvd_one (Int.natCast_nonneg _) (h _ (lP a b) (Int.gcd_dvd_right a b))
 lia
def Cop.gauss(h:Cop d m)(hd:d∣m*n):d∣n:=by
 have e:=h.gcd;rw[<-Int.natAbs_dvd_natAbs]at hd⊢;rw[lB]at hd;exact Nat.Coprime.dvd_of_dvd_mul_left e hd
def Cop.quot(hc:c=G.gcd B b)(c0:c≠0)(hB:B=c*u)(hb:b=c*v):Cop u v:=λd h e=>by
 have k:c*d∣c:=by
  have:=Int.dvd_coe_gcd (a:=B) (b:=b) (c:=c*d) (by rw[hB];exact Int.mul_dvd_mul_left c h) (by rw[hb];exact Int.mul_dvd_mul_left c e)
  rw[show((Int.gcd B b:Nat):Int)=c from hc.symm]at this;exact this
 let#[z,i]:=k;refine#[z,?_]
 have:c*(d*z)=c*1:=by rw[<-Int.mul_assoc,<-i,Int.mul_one]
 exact(Int.eq_of_mul_eq_mul_left c0 this).symm
def den_ne'(x:Rat):(x.den:Int)≠0:=by have:=x.den_nz;lia
structure TInv(x:Rat)(T B s:Int):Prop where
 pB:0<B
 ps:0<s
 r:∃r,B=s*r/\Cop T r
 v:Rat.divInt T B=x
def TInv.zero:TInv 0 0 1 1:=#[5,5,#[1,5,λd _ h=>h],by rw[Rat.zero_divInt]]
def fdiv_mul{c k:Int}(h:c≠0):(c*k).fdiv c=k:=by rw[kW,Int.mul_fdiv_cancel _ h]
def TInv.step(I:TInv x T B s):
  TInv (x+y) (T*(y.den:Int).fdiv (gcd B y.den)+y.num*B.fdiv (gcd B y.den)) (B*(y.den:Int).fdiv (gcd B y.den)) (s*(gcd B y.den).fdiv (gcd s (gcd B y.den))):=by
 let#[K,ps,#[r,S,cr],hv]:=I;have yp:=den_pos y
 have A:0<gcd B y.den:=by
  have:=Int.gcd_pos_of_ne_zero_left (y.den:Int) (show B≠0 by lia)
  unfold gcd;lia
 generalize L:gcd B y.den=c at A⊢;have M:=L.symm;have dB:c∣B:=by rw[M];exact lP _ _
 have db:c∣(y.den:Int):=by rw[M];exact Int.gcd_dvd_right _ _
 let#[u,z]:=dB;let#[v,h]:=db;have H:c≠0:=by lia
 have D:Cop u v:=Cop.quot M H z h;have ey:(y.den:Int).fdiv c=v:=by rw[h,fdiv_mul H]
 have Z:B.fdiv c=u:=by rw[z,fdiv_mul H]
 have up:0<u:=Int.pos_of_mul_pos_left (by rw[kW,<-z];exact K) A;have R:0<v:=Int.pos_of_mul_pos_left (by rw[kW,<-h];exact yp) A;rw[ey,Z]
 have N:0<gcd s c:=by
  have:=Int.gcd_pos_of_ne_zero_left c (show s≠0 by lia)
  unfold gcd;lia
 generalize E:gcd s c=g at N⊢;have J:=E.symm;have d1:g∣s:=by rw[J];exact lP _ _
 have d2:g∣c:=by rw[J];exact Int.gcd_dvd_right _ _
 let#[l,p]:=d1;let#[i,j]:=d2;have G:g≠0:=by lia
 have cs:Cop l i:=Cop.quot J G p j;have ec:c.fdiv g=i:=by rw[j,fdiv_mul G]
 rw[ec];have F:0<i:=Int.pos_of_mul_pos_left (by rw[kW,<-j];exact A) N;have aa:0<l:=Int.pos_of_mul_pos_left (by rw[kW,<-p];exact ps) N
 have P:i*u=l*r:=by
  apply Int.eq_of_mul_eq_mul_left G
  rw[<-Int.mul_assoc,<-Int.mul_assoc,<-j,<-p,<-z,S]
 have k1:i∣r:=Cop.gauss (d:=i) (m:=l) (λd a b=>cs d b a) #[u,P.symm];let#[w,q]:=k1
 have e2:u=l*w:=by
  apply Int.eq_of_mul_eq_mul_left (show i≠0 by lia)
  rw[P,q,<-Int.mul_assoc,<-Int.mul_assoc,kW l i]
 refine#[Int.mul_pos K R,Int.mul_pos ps F,#[w*v,?_,?_],?_]
 ·rw[S,q];simp only[Int.mul_assoc]
 ·intro d U W
  have t:Cop d v:=λe Y o=>by
   have Q:e∣y.num*u:=by
    have:=Int.dvd_sub (Int.dvd_trans Y U) (Int.dvd_trans o (Int.dvd_mul_left T v))
    rw[Int.add_comm,Int.add_sub_cancel]at this;exact this
   rw[kW]at Q;have z2:e∣y.num:=Cop.gauss (λf h3 X=>D f X (Int.dvd_trans h3 o)) Q;exact Cop.one (gcd_den y) e z2 (by rw[h];exact Int.dvd_trans o (Int.dvd_mul_left c v))
  have O:d∣w:=Cop.gauss t (by rw[kW];exact W);have z4:d∣u:=by rw[e2];exact Int.dvd_trans O (Int.dvd_mul_left l w)
  have z5:d∣v*T:=by
   have:=Int.dvd_sub U (Int.dvd_trans z4 (Int.dvd_mul_left y.num u))
   rw[Int.add_sub_cancel,kW]at this;exact this
  exact cr d (Cop.gauss t z5) (by rw[q];exact Int.dvd_trans O (Int.dvd_mul_left i w))
 ·rw[<-hv]
  conv=>rhs;rw[<-Rat.num_divInt_den y]
  rw[Rat.divInt_add_divInt _ _ (show B≠0 by lia) (den_ne' y),Rat.divInt_eq_divInt_iff (show B*v≠0 by have:=Int.mul_pos K R;lia) (Int.mul_ne_zero () (den_ne' y)),h,z];grind
def TInv.fin(I:TInv x T B s):T.fdiv (gcd T s)=x.num/\B.fdiv (gcd T s)=(x.den:Int):=by
 let#[o,ps,#[r,a,l],i]:=I
 have e:gcd T s=gcd T B:=by
  refine Int.dvd_antisymm (gcd_nonneg _ _) (gcd_nonneg _ _) (Int.dvd_coe_gcd (lP _ _) (Int.dvd_trans (Int.gcd_dvd_right _ _) #[r,a])) (Int.dvd_coe_gcd (lP _ _) ?_);refine Cop.gauss (m:=r) (λd h j=>l d (Int.dvd_trans h (lP _ _)) j) ?_;rw[kW,<-a];exact Int.gcd_dvd_right _ _
 let#[c,b]:=iu T B ();rw[if_neg (),i]at c b;rw[e];exact#[c,b]
end G
namespace G
open PySem L2
def sum_snoc(xs:List Rat)(a:Rat):(xs++[a]).sum=xs.sum+a:=by
 induction xs with
 |nil=>simp;grind
 |cons x xs ih=>rw[List.cons_append,lI,lI,ih];grind
abbrev eO(ks:List Str)(n:Str):List Str:=if n∈ks then ks else ks++[n]
def mem_addK:m∈eO ks n↔m∈ks∨m=n:=by
 unfold eO
 split
 ·exact#[.inl,λh=>h.elim id λe=>by rw[e];assumption]
 ·simp
def fm(h:ks.Nodup):(eO ks n).Nodup:=by
 unfold eO
 split
 ·exact h
 ·rename_i a;exact List.nodup_append.mpr #[h,by simp,λx c y b e=>a (by rw[li.mp b]at e;rw[<-e];exact c)]
def len_addK(ks:List Str)(n:Str):(eO ks n).length<=ks.length+1:=by
 unfold eO
 split
 ·lia
 ·simp
abbrev upf{α:Type}(f:Str->α)(n:Str)(y:α):Str->α:=λm=>if m=n then y else f m
def dL:upf f n y n=y:=if_pos rfl
def eZ(h:m≠n):upf f n y m=f m:=if_neg h
structure Tab{α:Type}(R:Hp->V->α->Prop)(H:Hp)(kvs:List (Key×V))(ks:List Str)(f:Str->α):Prop where
 keys:kvs.map (·.1)=ks.map (λn=>(Sum.inr n:Key))
 vals:∀n∈ks,∃v,cR kvs (Sum.inr n:Key)=some v/\R H v (f n)
section
variable{α:Type}{R:Hp->V->α->Prop}{H H':Hp}{kvs:List (Key×V)}{ks:List Str}{f:Str->α}{n:Str}{v:V}{y:α}
def Tab.mono(t:Tab R H kvs ks f)(h:∀v x,R H v x->R H' v x):Tab R H' kvs ks f:=#[t.keys,λn a=>let⟨v,e,r⟩:=t.vals n a;#[v,e,h _ _ r]]
def Tab.congr(t:Tab R H kvs ks f)(h:∀n∈ks,f n=g n):Tab R H kvs ks g:=#[t.keys,λn a=>let⟨v,e,r⟩:=t.vals n a;#[v,e,by rw[<-h n a];exact r]]
def Tab.nil:Tab R H [] [] f:=#[8,λn h=>absurd h jV]
def inr_in:(Sum.inr n:Key)∈ks.map (λn=>(Sum.inr n:Key))↔n∈ks:=by
 constructor
 ·intro h;let#[y,a,e]:=j9.mp h;rw[<-Sum.inr.inj e];exact a
 ·exactλh=>j9.mpr #[n,h,8]
def Tab.none(t:Tab R H kvs ks f)(h:¬n∈ks):cR kvs (Sum.inr n:Key)=none:=by
 cases e:cR kvs (Sum.inr n:Key) with
 |none=>rfl
 |some v=>
  have:=valV_in e
  rw[t.keys]at this;exact absurd (inr_in.mp this) h
def Tab.len(t:Tab R H kvs ks f):kvs.length=ks.length:=by have:=kI List.length t.keys;rwa[jE,jE]at this
def Tab.put(t:Tab R H kvs ks f)(r:R H v y):Tab R H (bX kvs (Sum.inr n:Key) v) (eO ks n) (upf f n y):=by
 refine#[?_,λm b=>?_]
 ·by_cases hn:n∈ks
  ·let#[u,e,_]:=t.vals n hn;unfold bX eO;rw[eF,e,if_pos (show(some u).isSome=true from rfl),if_pos hn,<-t.keys,kU];refine List.map_congr_left λa _=>?_;show(if a.1=_ then _ else _:Key×V).1=a.1
   split<;>rfl
  ·rw[putK_new _ (t.none hn)];unfold eO;rw[if_neg hn,jY,jY,t.keys];rfl
 ·rw[valV_put];by_cases e:m=n
  ·subst e;rw[if_pos rfl,dL];exact#[v,8,r]
  ·rw[if_neg λz=>e (Sum.inr.inj z),eZ e];exact t.vals m ((mem_addK.mp b).resolve_right e)
def val_idx[DecidableEq κ]:∀{kvs:List (κ×V)}{i:Nat}{kv:κ×V},(kvs.map (·.1)).Nodup->kvs[i]?=some kv->cR kvs kv.1=some kv.2
 |[],_,_,_,e=>by simp at e
 |p::r,0,kv,_,e=>by
  simp at e;subst e;exact cM rfl
 |p::r,i+1,kv,nd,e=>by
  have e:r[i]?=some kv:=by simpa using e
  let#[a,b]:=lL.mp (show(p.1::r.map (·.1)).Nodup from nd);rw[cI λz=>a (by rw[z];exact j9.mpr #[kv,jP e,8])];exact val_idx b e
def Tab.at_{i:Nat}(t:Tab R H kvs ks f)(nd:ks.Nodup)(e:kvs[i]?=some kv):∃n,ks[i]?=some n/\kv.1=Sum.inr n/\cR kvs (Sum.inr n:Key)=some kv.2/\R H kv.2 (f n):=by
 have hi:i<ks.length:=by rw[<-t.len];exact(jH.mp e).1
 have d:kv.1=Sum.inr ks[i]:=by
  have g:=kI (λl=>l[i]?) t.keys;simp only[jM,e,jF hi,lj]at g;exact kh g
 have b:(kvs.map (·.1)).Nodup:=by
  rw[t.keys];exact nd.map _ (λu v h e=>h (Sum.inr.inj e))
 have a:=val_idx b e;rw[d]at a;let#[v,c,r]:=t.vals _ (lv hi);rw[a]at c
 cases c;exact#[ks[i],jF hi,d,a,r]
end
def take_next{ks:List Str}(nd:ks.Nodup)(e:ks[i]?=some n):ks.take (i+1)=ks.take i++[n]/\¬n∈ks.take i:=by
 have hi:=(jH.mp e).1;refine#[by rw[j4,e];rfl,λm=>?_];let#[j,b]:=kO.mp m
 have a:j<i:=by
  have:=(jH.mp b).1
  rw[kc]at this
  lia
 rw[List.getElem?_take,if_pos a]at b
 have:=(List.getElem?_inj () nd).mp (b.trans e.symm)
 lia
def addK_new(h:¬n∈ks):eO ks n=ks++[n]:=if_neg h
abbrev KeepD(H H':Hp):Prop:=∀b ob,H b=some ob->(∀kvs,ob≠.dK kvs)->(∀o u,ob≠.frz o u)->H' b=some ob
def KeepD.of(s:Same H H'):KeepD H H':=λb a e _ _=>s b a e
def KeepD.trans(s:KeepD H H')(t:KeepD H' H''):KeepD H H'':=λb d e c a=>t b d (s b d e c a) c a
def KeepD.put(hd:H d=some (.dK kvs)):KeepD H (upd H d o):=λb c e a _=>by
 have:b≠d:=λz=>by rw[z,hd]at e;exact a kvs (kh e).symm
 rw[aG this];exact e
def KeepD.frz(hd:H d=some (.frz ob u)):KeepD H (upd H d o):=λb c e _ a=>by
 have:b≠d:=λz=>by rw[z,hd]at e;exact a _ _ (kh e).symm
 rw[aG this];exact e
inductive BdS:List Rat->Nat->Prop
 |nil:BdS [] 0
 |snoc{xs:List Rat}{N m:Nat}{x:Rat}:BdS xs N->Bd m x->BdS (xs++[x]) (N+(m+1))
def BdS.fn(h:BdS xs N):∃S:Nat->Nat,S 0=0/\(∀i,i<=xs.length->S i<=N)/\∀i y,xs[i]?=some y->∃m,Bd m y/\S i+(m+1)<=S (i+1):=by
 induction h with
 |nil=>exact#[λ_=>0,8,λ_ _=>jZ _,λi y e=>by simp at e]
 |@snoc xs N m x _ b ih=>
  let#[S,d,c,o]:=ih;refine#[λj=>if j<=xs.length then S j else N+(m+1),by simp[d],λi hi=>?_,λi y e=>?_]
  ·show(if i<=xs.length then S i else N+(m+1))<=_
   split
   ·rename_i h
    have:=c i h
    lia
   ·exact jJ _
  ·show∃a,Bd a y/\(if i<=xs.length then S i else N+(m+1))+(a+1)<=(if i+1<=xs.length then S (i+1)else N+(m+1));have hi:=(jH.mp e).1;rw[j5,jU,List.length_nil]at hi;by_cases hl:i<xs.length
   ·rw[kS hl]at e;let#[a,p,q]:=o i y e;exact#[a,p,by rw[if_pos (),if_pos ()];exact q]
   ·have l:i=xs.length:=by lia
    subst l;rw[kJ (jJ _),Nat.sub_self]at e
    have:x=y:=by simpa using e
    subst this;refine#[m,b,?_];rw[if_pos (jJ _),if_neg ()]
    have:=c _ (jJ _)
    lia
end G
namespace G
open PySem
def i8{x y:Str}(h:x.cps.toList=y.cps.toList):x=y:=by
 cases x with
 |mk a=>
  cases y with
  |mk b=>
   have:a=b:=Array.toList_inj.mp h
   rw[this]
abbrev dg(m:Nat):List Nat:=(Nat.toDigits 10 m).map Char.toNat
abbrev txt(i:Int):Str:=Str.ofString (toString i)
def gj(h:c∈dg m):48<=c/\c<=57:=by
 let#[ch,a,e]:=j9.mp h;rw[<-e];exact PyProof.Rows.digit_range (Nat.isDigit_of_mem_toDigits (by decide) (by decide) a)
def dO(m:Nat):(txt (m:Int)).cps.toList=dg m:=PySem.W.KIN.signs_num m
def txt_neg(m:Nat):(txt (Int.negSucc m)).cps.toList=45::dg (m+1):=by
 have e:toString (Int.negSucc m)="-"++toString ((m+1:Nat)):=rfl;unfold txt;rw[e,PyProof.Rows.signs_ofString,String.toList_append,jY]
 have:=dO (m+1)
 unfold txt at this;rw[PyProof.Rows.signs_ofString]at this;rw[<-this];rfl
def ig(m:Nat)(h:m<10^9):1<=(dg m).length/\(dg m).length<=9:=by
 constructor
 ·unfold dg;rw[jE]
  have:=PySem.W.KIN.val_back m
  cases e:Nat.toDigits 10 m with
  |nil=>
   have b:=PySem.toDigits_len_ge 10 m;rw[e]at b;exact absurd b (by decide)
  |cons a r=>simp
 ·have c:=PyProof.Rows.toString_length_le (v:=(m:Int)) () (k:=9) (by decide) ();have b:=dO m;rw[<-b];exact c
def dg_int(h:z.cps.toList=dg m)(hm:m<10^9):intText? z=some (m:Int):=by
 have:z=txt (m:Int):=i8 (by rw[h,dO])
 rw[this]
 exact PySem.W.KIN.num_reads () (by
  have b:(10:Int)^10=10000000000:=by decide
  have a:(10:Nat)^9=1000000000:=by decide
  rw[b];rw[a]at hm
  lia)
def part_none(h:¬47∈z.cps.toList):Txt.partition z #[(List.toArray [47])]=(z,Str.empty,Str.empty):=by
 have f:=StrLaws.found_one z 47;rw[jI h]at f;unfold Txt.partition
 cases e:Builtin.Str.occurrences z #[(List.toArray [47])] 0 z.length 1 with
 |nil=>rfl
 |cons i r=>rw[e]at f;simp at f
def part_one(h:z.cps.toList=A++47::B)(hA:¬47∈A)(hB:¬47∈B):Txt.partition z #[(List.toArray [47])]=(#[A.toArray],#[(List.toArray [47])],#[B.toArray]):=by
 have f:=StrLaws.found_one z 47;rw[jL (by rw[h];simp)]at f;have ch:=StrLaws.occ_chain z #[(List.toArray [47])] 1;unfold Txt.partition
 cases e:Builtin.Str.occurrences z #[(List.toArray [47])] 0 z.length 1 with
 |nil=>rw[e]at f;simp at f
 |cons i r=>
  rw[e]at ch;let#[_,_,#[o,d],_]:=ch;have hi:=(StrLaws.subAt_one z 47 i).mp #[o,d]
  have b:i=A.length:=by
   rw[h]at hi;rcases Nat.lt_trichotomy i A.length with g|g|g
   ·rw[kS g]at hi;exact absurd (jP hi) hA
   ·exact g
   ·rw[kJ ()]at hi;obtain⟨j,l⟩:∃j,i-A.length=j+1:=#[i-A.length-1,4];rw[l,List.getElem?_cons_succ]at hi;exact absurd (jP hi) hB
  subst b
  have a:z.length=A.length+1+B.length:=by
   show z.cps.size=_;rw[<-ki,h,j5,jU]
   lia
  show(Builtin.Str.strSub z 0 A.length,_,Builtin.Str.strSub z (A.length+1) z.length)=_;have m:Builtin.Str.strSub z 0 A.length=#[A.toArray]:=i8 (by rw[StrLaws.strSub_toList,h,List.drop_zero,Nat.sub_zero,List.take_left])
  have c:Builtin.Str.strSub z (A.length+1) z.length=#[B.toArray]:=i8 (by
   rw[StrLaws.strSub_toList,h,a,List.drop_append,List.drop_of_length_le (),Nat.add_sub_cancel_left];rw[List.nil_append,Nat.add_sub_cancel_left];show List.take _ B=B;exact ly ())
  rw[m,c]
def starts_one:Txt.startswith z #[(List.toArray [c])]=decide (z.cps.toList[0]?=some c):=by
 have:=StrLaws.subAt_one z c 0
 unfold Txt.startswith;rw[Bool.eq_iff_iff,lG,decide_eq_true_eq,decide_eq_true_eq];exact this
def fm_drop:∀(n j:Nat)(a:Array Nat),j+n=a.size->((List.range n).map λk=>j+k).filterMap (a[·]?)=a.toList.drop j
 |0,j,a,h=>by
  rw[List.range_zero,lD,List.filterMap_nil,List.drop_of_length_le (by rw[ki];omega)]
 |n+1,j,a,h=>by
  have b:j<a.size:=by omega
  rw[List.range_succ_eq_map,kz,kU,List.filterMap_cons,Nat.add_zero,Array.getElem?_eq_getElem b];have e:((λk=>j+k)∘Nat.succ)=λk=>(j+1)+k:=funext λk=>by show j+(k+1)=_;omega
  rw[e,fm_drop n (j+1) a (by omega)]
  have:j<a.toList.length:=by rw[ki];exact b
  rw[List.drop_eq_getElem_cons this];rfl
def slice_one(h:z.cps.toList=c::cs):(Txt.slice z (some 1) none).cps.toList=cs:=by
 have a:z.length=cs.length+1:=by show z.cps.size=_;rw[<-ki,h,jU]
 have e:Builtin.Str.strSliceIndices (some 1) none 1 z.length=(List.range cs.length).map λk=>1+k:=by
  unfold Builtin.Str.strSliceIndices sliceRange;simp only[show(1:Int)>0 by decide,if_true,show¬(1:Int)<0 by decide,if_false];rw[a,show max (0:Int) (min 1 ((cs.length+1:Nat):Int))=1 by lia];rw[show(if(1:Int)<((cs.length+1:Nat):Int) then(((cs.length+1:Nat):Int)-1+1-1)/1 else 0).toNat=cs.length by split<;>simp<;>lia];refine List.map_congr_left λk b=>?_
  lia
 unfold Txt.slice;rw[e,if_neg (by simp;lia),fm_drop cs.length 1 z.cps (by have:z.cps.size=z.length:=rfl;lia),h];rfl
end G
namespace G
open PySem
def joinB(p q:Str)(r:List Str):(Str.join #[(List.toArray [32])] (p::q::r)).cps.toList=p.cps.toList++32::(Str.join #[(List.toArray [32])] (q::r)).cps.toList:=by
 show(p++#[(List.toArray [32])]++Str.join #[(List.toArray [32])] (q::r)).cps.toList=_;rw[PySem.W.KT.app_list,PySem.W.KT.app_list,List.append_assoc];rfl
def cut_at{A B C D:List Nat}(hA:¬c∈A)(hC:¬c∈C)(e:A++c::B=C++c::D):A=C/\B=D:=by
 induction A generalizing C with
 |nil=>
  cases C with
  |nil=>exact#[8,(List.cons.inj e).2]
  |cons d r=>exact absurd (by rw[(List.cons.inj e).1];exact jX) hC
 |cons x A ih=>
  cases C with
  |nil=>exact absurd (by rw[(List.cons.inj (show x::(A++c::B)=c::D from e)).1];exact jX) hA
  |cons d r=>
   let#[b,a]:=List.cons.inj (show x::(A++c::B)=d::(r++c::D) from e);let#[i,h]:=ih (λz=>hA (jW _ z)) (λz=>hC (jW _ z)) a;exact#[by rw[b,i],h]
def str_of{x y:Str}(h:x.cps.toList=y.cps.toList):x=y:=by
 cases x with
 |mk a=>
  cases y with
  |mk b=>exact kI Str.mk (Array.toList_inj.mp h)
def join_uniq:∀(ps ws:List Str),ps≠[]->ws≠[]->(∀p∈ps,¬32∈p.cps.toList)->(∀p∈ws,¬32∈p.cps.toList)->Str.join #[(List.toArray [32])] ps=Str.join #[(List.toArray [32])] ws->ps=ws
 |[],_,h,_,_,_,_=>absurd rfl h
 |_::_,[],_,h,_,_,_=>absurd rfl h
 |[p],[q],_,_,_,_,e=>by rw[show p=q from e]
 |[p],q::q'::r,_,_,h1,_,e=>by
  have e:p=Str.join #[(List.toArray [32])] (q::q'::r):=e;exact absurd (by rw[e,joinB];exact jS _ jX) (h1 p jX)
 |p::p'::r,[q],_,_,_,h2,e=>by
  have e:Str.join #[(List.toArray [32])] (p::p'::r)=q:=e;exact absurd (by rw[<-e,joinB];exact jS _ jX) (h2 q jX)
 |p::p'::r,q::q'::t,_,_,h1,h2,e=>by
  have e:=kI (λz:Str=>z.cps.toList) e;rw[joinB,joinB]at e;let#[b,c]:=cut_at (h1 p jX) (h2 q jX) e;rw[str_of b,join_uniq (p'::r) (q'::t) (by simp) (by simp) (λx a=>h1 x (jW _ a)) (λx a=>h2 x (jW _ a)) (str_of c)]
def split_ne(z:Str):Txt.split z #[(List.toArray [32])]≠[]:=by
 intro a;unfold Txt.split at a
 split at a
 ·cases a
 ·split at a
  ·cases a
  ·have:=PySem.length_partsBetween z (Builtin.Str.occurrences z #[(List.toArray [32])] 0 z.length (z.length+1)) (#[(List.toArray [32])]:Str).length
   rw[a]at this
   cases this
def split_words(h0:ws≠[])(hf:∀p∈ws,¬32∈p.cps.toList):Txt.split (Str.join #[(List.toArray [32])] ws) #[(List.toArray [32])]=ws:=
 join_uniq _ _ (split_ne _) h0 (StrLaws.split_free _ 32) hf (StrLaws.join_split _ _)
def app_of(x y:Str):(x++y).cps.toList=x.cps.toList++y.cps.toList:=PySem.W.KT.app_list x y
end G
namespace G
open PySem L2
abbrev Sm(i:Int):Prop:=i.natAbs<2^9000
abbrev SmR(x:Rat):Prop:=Sm x.num/\Sm (x.den:Int)
def Sm.le{a b:Int}(h:Sm b)(l:a.natAbs<=b.natAbs):Sm a:=j8 l h
def fL(a:Int)(hb:0<b)(ha:0<=a):(a.fdiv b).natAbs<=a.natAbs:=by
 rw[kQ a (Int.le_of_lt hb)];have c:=Int.ediv_nonneg ha (Int.le_of_lt hb);have d:=Int.ediv_le_self b ha
 lia
def fdiv_le'(a:Int)(hb:0<b)(hd:b∣a):(a.fdiv b).natAbs<=a.natAbs:=by
 let#[k,8]:=hd;have e:(b*k).fdiv b=k:=by rw[kW,Int.mul_fdiv_cancel _ (by omega)]
 rw[e,lB];exact Nat.le_mul_of_pos_left _ (by omega)
def c7(a:Int)(h:b≠0):0<gcd a b:=by
 have:=Int.gcd_pos_of_ne_zero_right a h
 unfold gcd;lia
def gcd_le_r(a:Int)(h:b≠0):(gcd a b).natAbs<=b.natAbs:=by
 have:=Int.gcd_le_natAbs_right a h
 unfold gcd;omega
def gcd_dvd_l(a b:Int):gcd a b∣a:=lP a b
def Sm.gcd_r(a:Int)(h:b≠0)(s:Sm b):Sm (gcd a b):=s.le (gcd_le_r a h)
def den_ne(x:Rat):(x.den:Int)≠0:=by have:=x.den_nz;lia
def tb:¬(("top":Str)="bottom"):=by decide+kernel
abbrev ff(t b:Int):List (Str×V):=[("top",.int t),("bottom",.int b)]
def ff_T(t b:Int):(ff t b).lookup ("top":Str)=some (.int t):=rfl
def ff_B(t b:Int):(ff t b).lookup ("bottom":Str)=some (.int b):=by
 have h:(("bottom":Str)=="top")=false:=by decide+kernel
 show List.lookup ("bottom":Str) [(("top":Str),V.int t),("bottom",V.int b)]=_;rw[kC,h];rfl
def ff_no(t b:Int){m:Str}(h1:(m=="top")=false)(h2:(m=="bottom")=false):(ff t b).lookup m=none:=by
 show List.lookup m [(("top":Str),V.int t),("bottom",V.int b)]=_;rw[kC,h1,kC,h2];rfl
def ff_new(t b:Int):bI "bottom" (.int b) (bI "top" (.int t) [])=ff t b:=by
 show(if("top":Str)="bottom"then _ else(("top":Str),V.int t)::[(("bottom":Str),V.int b)])=ff t b;rw[if_neg tb];rfl
def ff_put(a c t b:Int):bI "bottom" (.int b) (bI "top" (.int t) (ff a c))=ff t b:=by
 show bI "bottom" (.int b) (if("top":Str)="top"then(("top":Str),V.int t)::[(("bottom":Str),V.int c)]else _)=ff t b;rw[if_pos rfl];show(if("top":Str)="bottom"then _ else(("top":Str),V.int t)::(if("bottom":Str)="bottom"then(("bottom":Str),V.int b)::[]else _))=ff t b;rw[if_neg tb,if_pos rfl];rfl
abbrev FrAt(C:Addr)(H:Hp)(p:Addr)(x:Rat):Prop:=∃dx,H p=some (.ins C dx (ff x.num x.den))
def FrAt.mono(h:FrAt C H p x)(s:Same H H'):FrAt C H' p x:=by
 let#[dx,e]:=h;exact#[dx,s _ _ e]
structure FrC(K:W.Frag)(C:Addr):Prop where
 cl:Cls K C
 nT:NoAttr K C "top"
 nB:NoAttr K C "bottom"
 c1:PySem.W.findIn K (.ref C) "__class__"=some (some (.builtin "object.__class__"))
 c2:PySem.W.specialIn K (.builtin "object.__class__") "__get__"=some (some (.builtin "getset_descriptor.__get__"))
 c3:PySem.W.takesIn K (.builtin "object.__class__")=some true
 c4:PySem.W.mroIn K C (.type "object")=some true
def FrAt.ty{K:W.Frag}(F:FrC K C)(h:FrAt C H p x):TyOf K H (.ref p) (.ref C):=by
 let#[_,e]:=h;exact TyOf.ins e F.cl F.c1 F.c2 F.c3 F.c4
abbrev tTop(C:Addr)(ta:TE):TE:=λσ H Q=>ta σ H λv H1=>∃p x,v=.ref p/\FrAt C H1 p x/\Q (.int x.num) H1
abbrev tBot(C:Addr)(ta:TE):TE:=λσ H Q=>ta σ H λv H1=>∃p x,v=.ref p/\FrAt C H1 p x/\Q (.int x.den) H1
section
variable{X:Cx}{C:Addr}{e o:Expr}{ta:TE}{pos:Pos}
def dJ(F:FrC X.K C)(he:PE X e ta)(hb:attributeBase e "top" X.env (eval e X.env)=eval e X.env:=by rfl):PE X (.Attribute e "top" pos) (tTop C ta):=by
 intro a s σ H Q I h;refine attr_of hb (thn (he a s σ H _ I h) λu t⟨v,c,b,r,p,x,e,⟨o,j⟩,q⟩=>?_);subst e;obtain rfl:u=Value.ref p:=r;exact iX b j F.cl F.nT (ff_T _ _) λm l d i=>#[_,c,d,i,q]
def df(F:FrC X.K C)(he:PE X e ta)(hb:attributeBase e "bottom" X.env (eval e X.env)=eval e X.env:=by rfl):PE X (.Attribute e "bottom" pos) (tBot C ta):=by
 intro a s σ H Q I h;refine attr_of hb (thn (he a s σ H _ I h) λu t⟨v,c,b,r,p,x,e,⟨o,j⟩,q⟩=>?_);subst e;obtain rfl:u=Value.ref p:=r;exact iX b j F.cl F.nB (ff_B _ _) λm l d i=>#[_,c,d,i,q]
abbrev tFrM(C:Addr)(sp:Sp)(E:XK)(ta:TE)(t:TA):TE:=λσ H Q=>ta σ H λv H1=>∃p x,v=.ref p/\FrAt C H1 p x/\t σ H1 λvs H2=>sp (v::vs) H2 Q E
variable{CX:CXT}{k j:Nat}{ps:List Str}{sp:Sp}{E:XK}{m:Str}{p apos:Pos}{es:List Expr}{t:TA}
def hO(F:FrC X.K C)(he:PE X o ta)(M:MtB X.prog X.w X.K X.mg X.base CX C m k ps sp)(hr:Room j X.A)(hx:dk CX X E)(ha:PA X (e::es) t)(hj:k<=j:=by decide)(h1:(m=="top")=false:=by decide+kernel)(h2:(m=="bottom")=false:=by decide+kernel)
  (hst:starEach (e::es) X.env=(false,eval e X.env)::starEach es X.env:=by rfl)(hpl:(backTo pos (starEach es X.env)).any (·.1)=false:=by rfl)
  (ht:eval (.Call (.Attribute o m apos) (e::es) [] pos) X.env=(do
   let ov<-eval o X.env
   standAt apos.atName
   let(f,first)<-holding [ov] (getMethod ov m pl)
   callWith pos f first (backTo pos (starEach (e::es) X.env)) (backToKw pos (keywordEach [] X.env))):=by rfl):PE X (.Call (.Attribute o m apos) (e::es) [] pos) (tFrM C sp E ta t):=by
 let#[f,K,l,b,d]:=M;intro c s σ H Q I h;refine lA (pl:=pl) (thn (he c s σ H _ I h) λu A⟨v,z,i,y,a,x,ex,⟨G,B⟩,q⟩=>?_) ht;subst ex;obtain rfl:u=Value.ref a:=y;refine fo i B F.cl l (ff_no _ _ h1 h2) ?_;refine lE (first:=[.ref a]) (h₀:=X.base) I.ok.mod.kin l.kp (thn (ha pos c A σ z _ i q) λus D⟨vs,J,p,r,w⟩=>#[p.kIn,?_]) hst hpl;exact run_fn (us:=.ref a::us) (vs:=.ref a::vs) (dvs:=[]) d (hr.mono hj) b .nil hx p (.cons rfl r) (by simpa using w)
def dQ(F:FrC X.K C)(he:PE X o ta)(M:MtB X.prog X.w X.K X.mg X.base CX C m k ps sp)(hr:Room j X.A)(hx:dk CX X E)(hj:k<=j:=by decide)(h1:(m=="top")=false:=by decide+kernel)(h2:(m=="bottom")=false:=by decide+kernel)
  (ht:eval (.Call (.Attribute o m apos) [] [] pos) X.env=(do
   let ov<-eval o X.env
   standAt apos.atName
   let(f,first)<-holding [ov] (getMethod ov m pl)
   callWith pos f first (backTo pos (starEach [] X.env)) (backToKw pos (keywordEach [] X.env))):=by rfl):PE X (.Call (.Attribute o m apos) [] [] pos) (tFrM C sp E ta tNil):=by
 let#[f,y,i,b,d]:=M;intro c s σ H Q I h;refine lA (pl:=pl) (thn (he c s σ H _ I h) λu w⟨v,r,e,l,a,x,ex,⟨t,p⟩,q⟩=>?_) ht;subst ex;obtain rfl:u=Value.ref a:=l;refine fo e p F.cl i (ff_no _ _ h1 h2) ?_;exact PySem.W.callWith_K0 (first:=[.ref a]) e.kIn i.kp (run_fn (us:=[.ref a]) (vs:=[.ref a]) (dvs:=[]) d (hr.mono hj) b .nil hx e (.cons rfl .nil) q)
abbrev spDiv:Sp:=λvs H Q _=>∃a b:Int,vs=[.int a,.int b]/\Q (.int (gcd a b)) H
abbrev spInit(C:Addr):Sp:=λvs H Q _=>∃(p dx:Addr)(a b:Int),vs=[.ref p,.int a,.int b]/\H p=some (.ins C dx [])/\b≠0/\Sm b/\∀H',H'=upd H p (.ins C dx (ff (Rat.divInt a b).num (Rat.divInt a b).den))->Q .non H'
abbrev NewFr(C:Addr)(H:Hp)(Q:VK)(x:Rat):Prop:=∀(r:Addr)(H':Hp),H r=none->Same H H'->FrAt C H' r x->Q (.ref r) H'
abbrev spLow(C:Addr):Sp:=λvs H Q _=>∃t b:Int,vs=[.int t,.int b]/\∀(r dx:Addr)(H':Hp),H r=none->Same H H'->H' r=some (.ins C dx (ff t b))->Q (.ref r) H'
abbrev spR2(C:Addr)(f:Rat->Rat->Rat)(pre:Rat->Rat->Prop):Sp:=λvs H Q _=>∃(p q:Addr)(x y:Rat),vs=[.ref p,.ref q]/\FrAt C H p x/\FrAt C H q y/\SmR x/\SmR y/\pre x y/\NewFr C H Q (f x y)
def mk_fr{a b:Int}(nx:H x=none)(nd:H dx=none)(hb:b≠0)(hs:Sm b)(k:∀H':Hp,Same H H'->FrAt C H' x (Rat.divInt a b)->Q .non H'):
  spInit C [.ref x,.int a,.int b] (upd (upd H dx (.own x)) x (.ins C dx [])) Q E:=by
 refine#[x,dx,a,b,8,aC,hb,hs,λH' e=>?_];subst e;refine k _ (λc o e=>?_) #[dx,aC];rw[aG (aP e nx),aG (aP e nx),aG (aP e nd)];exact e
abbrev tMkFr(C:Addr)(dvs:List V)(t:TA):TE:=λσ H Q=>t σ H λvs H1=>∃a b:Int,vs++dvs=[.int a,.int b]/\b≠0/\Sm b/\NewFr C H1 Q (Rat.divInt a b)
def eT(F:MkB X.prog X.w X.K X.mg X.base CX C k ["self","top","bottom"] dvs (spInit C))(hr:Room j X.A)(hm:X.mg x=some (.ref C))(hx:dk CX X E)(ha:PA X (e::es) t)(hj:k+1<=j:=by decide)(hg:Gl X x:=by rfl)(hdb:(x==("__debug__":Str))=false:=by decide)
  (he:starEach (e::es) X.env=(false,eval e X.env)::starEach es X.env:=by rfl)(hpl:(backTo pos (starEach es X.env)).any (·.1)=false:=by rfl):PE X (.Call (.Name x p) (e::es) [] pos) (tMkFr C dvs t):=by
 let#[f,O,ds,M,b,c,d]:=F;intro a s σ H Q I h;refine lO (dU I hg hm ?_ hdb);refine lE (h₀:=X.base) I.ok.mod.kin M.kp (thn (ha pos a s σ H _ I h) λG L⟨B,D,i,r,K,N,o,z,A,q⟩=>#[i.kIn,?_]) he hpl;refine run_make M d (hr.mono hj) b c hx i r λy J l v _=>?_;rw[o];exact mk_fr l v z A λw m u=>#[8,q y w l m u]
end
end G
namespace G
open PySem L2
abbrev aV(i:Nat):Stmt:=PySem.Challenge.pw_gainstream_k75_whole_desk_walked.main.body.getD i (.Pass #[0,0,0,0])
nonrec abbrev s_divisor:Stmt:=aV 14
nonrec abbrev fB:Stmt:=aV 16
nonrec abbrev s_total:Stmt:=aV 17
nonrec abbrev s_amount:Stmt:=aV 19
nonrec abbrev fA:Stmt:=aV 20
nonrec abbrev eI:Stmt:=aV 21
nonrec abbrev e7:Stmt:=aV 22
nonrec abbrev s_sums:Stmt:=aV 23
nonrec abbrev s_worth:Stmt:=aV 24
nonrec abbrev gZ:Stmt:=aV 25
nonrec abbrev iD:Stmt:=aV 26
nonrec abbrev s_faults:Stmt:=aV 27
nonrec abbrev s_together:Stmt:=aV 28
nonrec abbrev s_scaled:Stmt:=aV 29
nonrec abbrev s_ring_along:Stmt:=aV 31
nonrec abbrev s_ways_of:Stmt:=aV 33
nonrec abbrev s_places_of:Stmt:=aV 34
nonrec abbrev s_gain_of:Stmt:=aV 35
nonrec abbrev s_all_unlike:Stmt:=aV 36
nonrec abbrev s_is_path:Stmt:=aV 37
nonrec abbrev s_is_ring:Stmt:=aV 38
nonrec abbrev s_sent:Stmt:=aV 39
nonrec abbrev s_is_walk:Stmt:=aV 41
nonrec abbrev s_growth:Stmt:=aV 42
nonrec abbrev s_is_ring_with:Stmt:=aV 43
nonrec abbrev s_is_round:Stmt:=aV 44
nonrec abbrev s_parts_meet:Stmt:=aV 45
nonrec abbrev s_is_road:Stmt:=aV 46
nonrec abbrev s_is_strand:Stmt:=aV 47
nonrec abbrev s_head_plan:Stmt:=aV 48
nonrec abbrev s_tail_plan:Stmt:=aV 49
nonrec abbrev s_road_plan:Stmt:=aV 50
nonrec abbrev s_strand_plan:Stmt:=aV 51
nonrec abbrev s_refuse_unfit:Stmt:=aV 54
nonrec abbrev s_least:Stmt:=aV 55
nonrec abbrev s_by_start:Stmt:=aV 56
nonrec abbrev s_ring_in:Stmt:=aV 57
nonrec abbrev s_most_along:Stmt:=aV 58
nonrec abbrev s_less:Stmt:=aV 59
nonrec abbrev s_taken_apart:Stmt:=aV 61
nonrec abbrev s_multiple:Stmt:=aV 63
nonrec abbrev s_common_part:Stmt:=aV 64
nonrec abbrev s_as_wholes:Stmt:=aV 65
nonrec abbrev s_coming:Stmt:=aV 69
nonrec abbrev s_is_preferred:Stmt:=aV 70
nonrec abbrev s_going:Stmt:=aV 71
nonrec abbrev s_is_ahead:Stmt:=aV 72
nonrec abbrev s_worst_row:Stmt:=aV 73
nonrec abbrev s_make_fitting:Stmt:=aV 74
nonrec abbrev s_make_greatest:Stmt:=aV 75
nonrec abbrev s_by_unknown:Stmt:=aV 76
nonrec abbrev s_values_of:Stmt:=aV 77
nonrec abbrev s_weights_of:Stmt:=aV 78
nonrec abbrev s_growing_of:Stmt:=aV 79
nonrec abbrev s_best:Stmt:=aV 80
nonrec abbrev s_greatest:Stmt:=aV 81
nonrec abbrev s_asked_by:Stmt:=aV 83
nonrec abbrev s_rows_of:Stmt:=aV 84
nonrec abbrev s_ways_with_high:Stmt:=aV 85
nonrec abbrev s_as_plan:Stmt:=aV 86
nonrec abbrev s_by_places:Stmt:=aV 87
nonrec abbrev s_by_highs:Stmt:=aV 88
nonrec abbrev s_lack:Stmt:=aV 89
nonrec abbrev s_endless:Stmt:=aV 90
nonrec abbrev s_cheapest:Stmt:=aV 91
nonrec abbrev s_most:Stmt:=aV 93
nonrec abbrev gF:Stmt:=aV 102
nonrec abbrev s_check_way:Stmt:=aV 103
nonrec abbrev gX:Stmt:=aV 104
nonrec abbrev jk:Stmt:=aV 111
nonrec abbrev jd:Stmt:=aV 112
nonrec abbrev gG:Stmt:=aV 113
nonrec abbrev s_is_name:Stmt:=aV 114
nonrec abbrev iC:Stmt:=aV 117
nonrec abbrev s_read_name:Stmt:=aV 118
nonrec abbrev s_read_gain:Stmt:=aV 119
nonrec abbrev s_read_high:Stmt:=aV 120
nonrec abbrev s_read_word:Stmt:=aV 121
nonrec abbrev s_read_row:Stmt:=aV 122
nonrec abbrev iH:Stmt:=aV 125
nonrec abbrev s_law_whole:Stmt:=aV 126
nonrec abbrev s_law_pair:Stmt:=aV 127
nonrec abbrev iG:Stmt:=aV 128
nonrec abbrev jg:Stmt:=aV 129
nonrec abbrev s_law_text:Stmt:=aV 130
nonrec abbrev s_law_row:Stmt:=aV 131
nonrec abbrev iF:Stmt:=aV 132
nonrec abbrev s_law_said:Stmt:=aV 133
nonrec abbrev s_law_names:Stmt:=aV 134
nonrec abbrev jf:Stmt:=aV 135
nonrec abbrev s_law_sum:Stmt:=aV 136
nonrec abbrev s_law_flow:Stmt:=aV 137
nonrec abbrev s_law_gone:Stmt:=aV 138
nonrec abbrev s_law_paid:Stmt:=aV 139
nonrec abbrev s_law_upto:Stmt:=aV 140
nonrec abbrev jh:Stmt:=aV 141
nonrec abbrev s_law_parts:Stmt:=aV 142
nonrec abbrev iE:Stmt:=aV 143
nonrec abbrev jj:Stmt:=aV 144
nonrec abbrev gY:Stmt:=aV 145
nonrec abbrev gH:Stmt:=aV 146
nonrec abbrev s_law_known:Stmt:=aV 147
nonrec abbrev s_law_told:Stmt:=aV 148
nonrec abbrev s_law:Stmt:=aV 149
nonrec abbrev gK:Stmt:=aY (aV 15) 0
nonrec abbrev gJ:Stmt:=aY (aV 15) 1
nonrec abbrev fZ:Stmt:=aY (aV 15) 2
nonrec abbrev fX:Stmt:=aY (aV 15) 3
nonrec abbrev s_Fraction_over:Stmt:=aY (aV 15) 4
nonrec abbrev fW:Stmt:=aY (aV 15) 5
nonrec abbrev s_Fraction_same:Stmt:=aY (aV 15) 6
nonrec abbrev gI:Stmt:=aY (aV 15) 7
nonrec abbrev fY:Stmt:=aY (aV 15) 8
nonrec abbrev s_End_init:Stmt:=aY (aV 53) 0
nonrec abbrev s_Taking_init:Stmt:=aY (aV 60) 0
nonrec abbrev s_Taking_add_end:Stmt:=aY (aV 60) 1
nonrec abbrev s_Taking_take_ring:Stmt:=aY (aV 60) 2
nonrec abbrev s_Taking_sink_at:Stmt:=aY (aV 60) 3
nonrec abbrev s_Taking_take_road:Stmt:=aY (aV 60) 4
nonrec abbrev s_Taking_take_path:Stmt:=aY (aV 60) 5
nonrec abbrev s_Wholes_init:Stmt:=aY (aV 66) 0
nonrec abbrev s_Wholes_large_row:Stmt:=aY (aV 66) 1
nonrec abbrev s_WholeGrid_init:Stmt:=aY (aV 67) 0
nonrec abbrev s_WholeGrid_sum_row:Stmt:=aY (aV 67) 1
nonrec abbrev s_WholeGrid_add_top:Stmt:=aY (aV 67) 2
nonrec abbrev s_WholeGrid_drop_top:Stmt:=aY (aV 67) 3
nonrec abbrev s_WholeGrid_exchange:Stmt:=aY (aV 67) 4
nonrec abbrev s_WholeGrid_replaced:Stmt:=aY (aV 67) 5
nonrec abbrev iS:Stmt:=aY (aV 95) 0
nonrec abbrev e9:Stmt:=aY (aV 95) 1
nonrec abbrev s_Way_gain:Stmt:=aY (aV 95) 2
nonrec abbrev eW:Stmt:=aY (aV 95) 3
nonrec abbrev fe:Stmt:=aY (aV 96) 0
nonrec abbrev g9:Stmt:=aY (aV 96) 1
nonrec abbrev s_Leaking_init:Stmt:=aY (aV 97) 0
nonrec abbrev d7:Stmt:=aY (aV 97) 1
nonrec abbrev s_Store_init:Stmt:=aY (aV 98) 0
nonrec abbrev s_Store_may_stay:Stmt:=aY (aV 98) 1
nonrec abbrev s_Net_init:Stmt:=aY (aV 105) 0
nonrec abbrev s_Net_names:Stmt:=aY (aV 105) 1
nonrec abbrev s_Net_want:Stmt:=aY (aV 105) 2
nonrec abbrev s_Net_way:Stmt:=aY (aV 105) 3
nonrec abbrev g8:Stmt:=aY (aV 105) 4
nonrec abbrev s_Desk_init:Stmt:=aY (aV 123) 0
nonrec abbrev s_Desk_net:Stmt:=aY (aV 123) 1
nonrec abbrev s_Desk_plan:Stmt:=aY (aV 123) 2
nonrec abbrev s_Desk_say:Stmt:=aY (aV 123) 3
nonrec abbrev eB:Stmt:=aY (aV 123) 4
nonrec abbrev eQ:Stmt:=aY (aV 123) 5
nonrec abbrev d8:Stmt:=aY (aV 123) 6
nonrec abbrev iI:Stmt:=aY (aV 123) 7
nonrec abbrev eJ:Stmt:=aY (aV 123) 8
nonrec abbrev s_Desk_keep:Stmt:=aY (aV 123) 9
nonrec abbrev s_Desk_told_cheapest:Stmt:=aY (aV 123) 10
nonrec abbrev s_Desk_told_most:Stmt:=aY (aV 123) 11
nonrec abbrev s_Desk_told:Stmt:=aY (aV 123) 12
nonrec abbrev fg:Stmt:=aY (aV 123) 13
nonrec abbrev gu:Stmt:=aY (aV 8) 0
nonrec abbrev fb:Stmt:=aY (aV 11) 0
structure Ad where
 Fraction:Addr
 End:Addr
 Taking:Addr
 Wholes:Addr
 WholeGrid:Addr
 Way:Addr
 Growing:Addr
 Leaking:Addr
 Store:Addr
 Net:Addr
 Desk:Addr
 GainError:Addr
 NoNumber:Addr
 TooMany:Addr
 NoStrand:Addr
 NoText:Addr
 NoRow:Addr
 NoWay:Addr
 Broken:Addr
 Twice:Addr
 NoPlace:Addr
 OverBound:Addr
abbrev dG:List (Str×List Str):=[("place",["name","fraction"]),("way",["name","name","name","gain","high","fraction"]),("drop",["name"]),("send",["name","fraction"]),("cheapest",[]),("most",["name"]),("look",[]),("amount",["name"]),("sum",["name"]),("cost",[]),("price",["name"]),("bound",["name"])]
structure TX(K:W.Frag)(mg:Str->Option Value)(a:Ad):Prop where
 d_divisor:FDe K mg "divisor" s_divisor ["one","other"]
 d_in_lowest_terms:FDe K mg "in_lowest_terms" fB ["top","bottom"]
 d_total:FDe K mg "total" s_total ["some"]
 d_amount:FDe K mg "amount" s_amount ["plan","name"]
 d_without_noughts:FDe K mg "without_noughts" fA ["plan"]
 d_refuse_other_names:FDe K mg "refuse_other_names" eI ["net","plan"]
 d_sums_of_own_ways:FDe K mg "sums_of_own_ways" e7 ["net","plan"]
 d_sums:FDe K mg "sums" s_sums ["net","plan"]
 d_worth:FDe K mg "worth" s_worth ["net","plan"]
 d_bound_passed:FDe K mg "bound_passed" gZ ["way","part"]
 d_other_names:FDe K mg "other_names" iD ["net","plan"]
 d_faults:FDe K mg "faults" s_faults ["net","plan"]
 d_wants_by_name:FDe K mg "wants_by_name" gF ["places"]
 d_check_way:FDe K mg "check_way" s_check_way ["way","ahead","wants"]
 d_ways_by_name:FDe K mg "ways_by_name" gX ["ways","wants"]
 d_is_made_of:FDe K mg "is_made_of" jk ["text","signs","most"]
 d_read_whole:FDe K mg "read_whole" jd ["text"]
 d_read_fraction:FDe K mg "read_fraction" gG ["text"]
 d_is_name:FDe K mg "is_name" s_is_name ["text"]
 d_read_number:FDe K mg "read_number" iC ["word"]
 d_read_name:FDe K mg "read_name" s_read_name ["word"]
 d_read_gain:FDe K mg "read_gain" s_read_gain ["word"]
 d_read_high:FDe K mg "read_high" s_read_high ["word"]
 d_read_word:FDe K mg "read_word" s_read_word ["kind","word"]
 d_read_row:FDe K mg "read_row" s_read_row ["row"]
 d_law_cell_at:FDe K mg "_law_cell_at" iH ["_law_script","_law_k"]
 d_law_whole:FDe K mg "_law_whole" s_law_whole ["_law_found"]
 d_law_pair:FDe K mg "_law_pair" s_law_pair ["_law_found"]
 d_law_divisor:FDe K mg "_law_divisor" iG ["_law_one","_law_other"]
 d_law_lowest:FDe K mg "_law_lowest" jg ["_law_top","_law_bottom"]
 d_law_text:FDe K mg "_law_text" s_law_text ["_law_pair_here"]
 d_law_row:FDe K mg "_law_row" s_law_row ["_law_parts_here"]
 d_law_refusal:FDe K mg "_law_refusal" iF ["_law_e"]
 d_law_said:FDe K mg "_law_said" s_law_said ["_law_desk","_law_row_here"]
 d_law_names:FDe K mg "_law_names" s_law_names ["_law_cell"]
 d_law_number:FDe K mg "_law_number" jf ["_law_cell"]
 d_law_sum:FDe K mg "_law_sum" s_law_sum ["_law_pairs"]
 d_law_flow:FDe K mg "_law_flow" s_law_flow ["_law_model","_law_name"]
 d_law_gone:FDe K mg "_law_gone" s_law_gone ["_law_model","_law_place"]
 d_law_paid:FDe K mg "_law_paid" s_law_paid ["_law_model"]
 d_law_upto:FDe K mg "_law_upto" s_law_upto ["_law_one","_law_other"]
 d_law_faults:FDe K mg "_law_faults" jh ["_law_model"]
 d_law_parts:FDe K mg "_law_parts" s_law_parts ["_law_cell","_law_names_here","_law_free"]
 d_law_way_row:FDe K mg "_law_way_row" iE ["_law_model","_law_parts_here"]
 d_law_answer:FDe K mg "_law_answer" jj ["_law_model","_law_parts_here"]
 d_law_same_net:FDe K mg "_law_same_net" gY ["_law_told_here","_law_places","_law_ways"]
 d_law_same_plan:FDe K mg "_law_same_plan" gH ["_law_told_here","_law_kept"]
 d_law_known:FDe K mg "_law_known" s_law_known ["_law_model","_law_told_here"]
 d_law_told:FDe K mg "_law_told" s_law_told ["_law_desk","_law_model"]
 d_law:FDe K mg "law" s_law ["_law_script"]
 cl_Fraction:Cls K a.Fraction
 mg_Fraction:mg "Fraction"=some (.ref a.Fraction)
 na_Fraction_top:NoAttr K a.Fraction "top"
 na_Fraction_bottom:NoAttr K a.Fraction "bottom"
 i_Fraction:IDe K a.Fraction "Fraction.__init__" gK ["self","top","bottom"] [[],[V.int 1]]
 m_Fraction_plus:MDe K a.Fraction "plus" "Fraction.plus" gJ ["self","other"]
 m_Fraction_minus:MDe K a.Fraction "minus" "Fraction.minus" fZ ["self","other"]
 m_Fraction_times:MDe K a.Fraction "times" "Fraction.times" fX ["self","other"]
 m_Fraction_under:MDe K a.Fraction "under" "Fraction.under" fW ["self","other"]
 m_Fraction_sign:MDe K a.Fraction "sign" "Fraction.sign" gI ["self"]
 m_Fraction_shown:MDe K a.Fraction "shown" "Fraction.shown" fY ["self"]
 c1_Fraction:PySem.W.findIn K (.ref a.Fraction) "__class__"=some (some (.builtin "object.__class__"))
 c4_Fraction:PySem.W.mroIn K a.Fraction (.type "object")=some true
 mg_End:mg "End"=some (.ref a.End)
 mg_Taking:mg "Taking"=some (.ref a.Taking)
 mg_Wholes:mg "Wholes"=some (.ref a.Wholes)
 mg_WholeGrid:mg "WholeGrid"=some (.ref a.WholeGrid)
 cl_Way:Cls K a.Way
 mg_Way:mg "Way"=some (.ref a.Way)
 na_Way_name:NoAttr K a.Way "name"
 na_Way_start:NoAttr K a.Way "start"
 na_Way_goal:NoAttr K a.Way "goal"
 na_Way_high:NoAttr K a.Way "high"
 na_Way_cost:NoAttr K a.Way "cost"
 c_Way:CDe K a.Way "Way.__init__" iS ["self","name","start","goal","high","cost"]
 m_Way_may_stay:MDe K a.Way "may_stay" "Way.may_stay" e9 ["self"]
 m_Way_gain:MDe K a.Way "gain" "Way.gain" s_Way_gain ["self"]
 m_Way_out:MDe K a.Way "out" "Way.out" eW ["self","amount"]
 c1_Way:PySem.W.findIn K (.ref a.Way) "__class__"=some (some (.builtin "object.__class__"))
 c4_Way:PySem.W.mroIn K a.Way (.type "object")=some true
 cl_Growing:Cls K a.Growing
 mg_Growing:mg "Growing"=some (.ref a.Growing)
 na_Growing_rate:NoAttr K a.Growing "rate"
 na_Growing_name:NoAttr K a.Growing "name"
 na_Growing_start:NoAttr K a.Growing "start"
 na_Growing_goal:NoAttr K a.Growing "goal"
 na_Growing_high:NoAttr K a.Growing "high"
 na_Growing_cost:NoAttr K a.Growing "cost"
 i_Growing:IDe K a.Growing "Growing.__init__" fe ["self","name","start","goal","rate","high","cost"] [[],[V.non,V.non]]
 m_Growing_gain:MDe K a.Growing "gain" "Growing.gain" g9 ["self"]
 m_Growing_may_stay:MDe K a.Growing "may_stay" "Way.may_stay" e9 ["self"]
 m_Growing_out:MDe K a.Growing "out" "Way.out" eW ["self","amount"]
 c1_Growing:PySem.W.findIn K (.ref a.Growing) "__class__"=some (some (.builtin "object.__class__"))
 c4_Growing:PySem.W.mroIn K a.Growing (.type "object")=some true
 cl_Leaking:Cls K a.Leaking
 mg_Leaking:mg "Leaking"=some (.ref a.Leaking)
 na_Leaking_loss:NoAttr K a.Leaking "loss"
 na_Leaking_name:NoAttr K a.Leaking "name"
 na_Leaking_start:NoAttr K a.Leaking "start"
 na_Leaking_goal:NoAttr K a.Leaking "goal"
 na_Leaking_high:NoAttr K a.Leaking "high"
 na_Leaking_cost:NoAttr K a.Leaking "cost"
 m_Leaking_gain:MDe K a.Leaking "gain" "Leaking.gain" d7 ["self"]
 m_Leaking_may_stay:MDe K a.Leaking "may_stay" "Way.may_stay" e9 ["self"]
 m_Leaking_out:MDe K a.Leaking "out" "Way.out" eW ["self","amount"]
 c1_Leaking:PySem.W.findIn K (.ref a.Leaking) "__class__"=some (some (.builtin "object.__class__"))
 c4_Leaking:PySem.W.mroIn K a.Leaking (.type "object")=some true
 cl_Store:Cls K a.Store
 mg_Store:mg "Store"=some (.ref a.Store)
 na_Store_loss:NoAttr K a.Store "loss"
 na_Store_name:NoAttr K a.Store "name"
 na_Store_start:NoAttr K a.Store "start"
 na_Store_goal:NoAttr K a.Store "goal"
 na_Store_high:NoAttr K a.Store "high"
 na_Store_cost:NoAttr K a.Store "cost"
 m_Store_may_stay:MDe K a.Store "may_stay" "Store.may_stay" s_Store_may_stay ["self"]
 m_Store_gain:MDe K a.Store "gain" "Leaking.gain" d7 ["self"]
 m_Store_out:MDe K a.Store "out" "Way.out" eW ["self","amount"]
 c1_Store:PySem.W.findIn K (.ref a.Store) "__class__"=some (some (.builtin "object.__class__"))
 c4_Store:PySem.W.mroIn K a.Store (.type "object")=some true
 cl_Net:Cls K a.Net
 mg_Net:mg "Net"=some (.ref a.Net)
 na_Net_wants:NoAttr K a.Net "wants"
 na_Net_ways:NoAttr K a.Net "ways"
 i_Net:IDe K a.Net "Net.__init__" s_Net_init ["self","places","ways"] [[]]
 m_Net_names:MDe K a.Net "names" "Net.names" s_Net_names ["self"]
 m_Net_want:MDe K a.Net "want" "Net.want" s_Net_want ["self","place"]
 m_Net_way:MDe K a.Net "way" "Net.way" s_Net_way ["self","name"]
 m_Net_all_ways:MDe K a.Net "all_ways" "Net.all_ways" g8 ["self"]
 cl_Desk:Cls K a.Desk
 mg_Desk:mg "Desk"=some (.ref a.Desk)
 na_Desk_wants:NoAttr K a.Desk "wants"
 na_Desk_ways:NoAttr K a.Desk "ways"
 na_Desk_amounts:NoAttr K a.Desk "amounts"
 na_Desk_prices:NoAttr K a.Desk "prices"
 na_Desk_bounds:NoAttr K a.Desk "bounds"
 i_Desk:IDe K a.Desk "Desk.__init__" s_Desk_init ["self"] [[]]
 m_Desk_net:MDe K a.Desk "net" "Desk.net" s_Desk_net ["self"]
 m_Desk_plan:MDe K a.Desk "plan" "Desk.plan" s_Desk_plan ["self"]
 m_Desk_say:MDe K a.Desk "say" "Desk.say" s_Desk_say ["self","row"]
 m_Desk_refuse_missing:MDe K a.Desk "refuse_missing" "Desk.refuse_missing" eB ["self","words"]
 m_Desk_refuse_place:MDe K a.Desk "refuse_place" "Desk.refuse_place" eQ ["self","place"]
 m_Desk_refuse_too_many:MDe K a.Desk "refuse_too_many" "Desk.refuse_too_many" d8 ["self","words"]
 m_Desk_change:MDe K a.Desk "change" "Desk.change" iI ["self","words"]
 m_Desk_forget_prices:MDe K a.Desk "forget_prices" "Desk.forget_prices" eJ ["self"]
 m_Desk_told:MDe K a.Desk "told" "Desk.told" s_Desk_told ["self","words"]
 m_Desk_told_faults:MDe K a.Desk "told_faults" "Desk.told_faults" fg ["self"]
 no_Net_sign:PySem.W.findIn K (.ref a.Net) "sign"=some none
 no_Net_may_stay:PySem.W.findIn K (.ref a.Net) "may_stay"=some none
 no_Desk_sign:PySem.W.findIn K (.ref a.Desk) "sign"=some none
 no_Desk_may_stay:PySem.W.findIn K (.ref a.Desk) "may_stay"=some none
 c2:PySem.W.specialIn K (.builtin "object.__class__") "__get__"=some (some (.builtin "getset_descriptor.__get__"))
 c3:PySem.W.takesIn K (.builtin "object.__class__")=some true
 mg_GainError:mg "GainError"=some (.ref a.GainError)
 mg_NoNumber:mg "NoNumber"=some (.ref a.NoNumber)
 mg_TooMany:mg "TooMany"=some (.ref a.TooMany)
 mg_NoStrand:mg "NoStrand"=some (.ref a.NoStrand)
 mg_NoText:mg "NoText"=some (.ref a.NoText)
 mg_NoRow:mg "NoRow"=some (.ref a.NoRow)
 ex_NoRow:PySem.W.excIn K a.NoRow bmV "ValueError.__new__"=true
 mg_NoWay:mg "NoWay"=some (.ref a.NoWay)
 xi_NoWay:XiDe K a.NoWay "NoWay.__init__" gu ["self","name"]
 xs_NoWay:ExI K a.NoWay
 na_NoWay_name:NoAttr K a.NoWay "name"
 hd_NoWay:PySem.W.hasDictIn K a.NoWay=true
 br_NoWay:ClsRd K a.GainError
 bf_NoWay:PySem.W.findCls K (.ref a.GainError) (.type "type") "__init__"=some (.val (.builtin "ValueError.__init__"))
 mg_Broken:mg "Broken"=some (.ref a.Broken)
 mg_Twice:mg "Twice"=some (.ref a.Twice)
 mg_NoPlace:mg "NoPlace"=some (.ref a.NoPlace)
 xi_NoPlace:XiDe K a.NoPlace "NoPlace.__init__" fb ["self","place"]
 xs_NoPlace:ExI K a.NoPlace
 na_NoPlace_place:NoAttr K a.NoPlace "place"
 hd_NoPlace:PySem.W.hasDictIn K a.NoPlace=true
 br_NoPlace:ClsRd K a.GainError
 bf_NoPlace:PySem.W.findCls K (.ref a.GainError) (.type "type") "__init__"=some (.val (.builtin "ValueError.__init__"))
 mg_OverBound:mg "OverBound"=some (.ref a.OverBound)
 ca1_GainError:PySem.W.instIn K (.ref a.GainError) (.type "tuple")=some false
 ca2_GainError:∃cd,PySem.W.clsIn K a.GainError=some cd
 ca3_GainError:PySem.W.subIn K (.ref a.GainError) (.type "BaseException")=some true
 su_NoPlace_GainError:PySem.W.subIn K (.ref a.NoPlace) (.ref a.GainError)=some true
 su_NoRow_GainError:PySem.W.subIn K (.ref a.NoRow) (.ref a.GainError)=some true
 su_NoWay_GainError:PySem.W.subIn K (.ref a.NoWay) (.ref a.GainError)=some true
 k_Fraction_Fraction:PySem.W.kitOne K (.ref a.Fraction) (.ref a.Fraction)=some true
 k_Way_Store:PySem.W.kitOne K (.ref a.Way) (.ref a.Store)=some false
 k_Growing_Store:PySem.W.kitOne K (.ref a.Growing) (.ref a.Store)=some false
 k_Leaking_Store:PySem.W.kitOne K (.ref a.Leaking) (.ref a.Store)=some false
 k_int_bool:PySem.W.kitOne K (.type "int") (.type "bool")=some false
 k_dict_dict:PySem.W.kitOne K (.type "dict") (.type "dict")=some true
 k_int_int:PySem.W.kitOne K (.type "int") (.type "int")=some true
 k_str_str:PySem.W.kitOne K (.type "str") (.type "str")=some true
 k_tuple_str:PySem.W.kitOne K (.type "tuple") (.type "str")=some false
 xga_NoPlace:PySem.W.findIn K (.ref a.NoPlace) "__getattribute__"=some (some (.builtin "BaseException.__getattribute__"))
 xgh_NoPlace:PySem.W.findIn K (.ref a.NoPlace) "__getattr__"=some none
 xbe_NoPlace:PySem.W.mroIn K a.NoPlace (.type "BaseException")=some true
 xca_NoPlace:PySem.W.findIn K (.ref a.NoPlace) "__class__"=some (some (.builtin "object.__class__"))
 xob_NoPlace:PySem.W.mroIn K a.NoPlace (.type "object")=some true
 xcl_NoPlace:∃cd,PySem.W.clsIn K a.NoPlace=some cd
 k_NoPlace_NoNumber:PySem.W.kitOne K (.ref a.NoPlace) (.ref a.NoNumber)=some false
 k_NoPlace_NoPlace:PySem.W.kitOne K (.ref a.NoPlace) (.ref a.NoPlace)=some true
 k_NoPlace_NoRow:PySem.W.kitOne K (.ref a.NoPlace) (.ref a.NoRow)=some false
 k_NoPlace_NoText:PySem.W.kitOne K (.ref a.NoPlace) (.ref a.NoText)=some false
 k_NoPlace_NoWay:PySem.W.kitOne K (.ref a.NoPlace) (.ref a.NoWay)=some false
 k_NoPlace_TooMany:PySem.W.kitOne K (.ref a.NoPlace) (.ref a.TooMany)=some false
 k_NoPlace_Twice:PySem.W.kitOne K (.ref a.NoPlace) (.ref a.Twice)=some false
 k_NoPlace_ValueError:PySem.W.kitOne K (.ref a.NoPlace) (.type "ValueError")=some true
 xga_NoRow:PySem.W.findIn K (.ref a.NoRow) "__getattribute__"=some (some (.builtin "BaseException.__getattribute__"))
 xgh_NoRow:PySem.W.findIn K (.ref a.NoRow) "__getattr__"=some none
 xbe_NoRow:PySem.W.mroIn K a.NoRow (.type "BaseException")=some true
 xca_NoRow:PySem.W.findIn K (.ref a.NoRow) "__class__"=some (some (.builtin "object.__class__"))
 xob_NoRow:PySem.W.mroIn K a.NoRow (.type "object")=some true
 xcl_NoRow:∃cd,PySem.W.clsIn K a.NoRow=some cd
 k_NoRow_NoNumber:PySem.W.kitOne K (.ref a.NoRow) (.ref a.NoNumber)=some false
 k_NoRow_NoPlace:PySem.W.kitOne K (.ref a.NoRow) (.ref a.NoPlace)=some false
 k_NoRow_NoRow:PySem.W.kitOne K (.ref a.NoRow) (.ref a.NoRow)=some true
 k_NoRow_NoText:PySem.W.kitOne K (.ref a.NoRow) (.ref a.NoText)=some false
 k_NoRow_NoWay:PySem.W.kitOne K (.ref a.NoRow) (.ref a.NoWay)=some false
 k_NoRow_TooMany:PySem.W.kitOne K (.ref a.NoRow) (.ref a.TooMany)=some false
 k_NoRow_Twice:PySem.W.kitOne K (.ref a.NoRow) (.ref a.Twice)=some false
 k_NoRow_ValueError:PySem.W.kitOne K (.ref a.NoRow) (.type "ValueError")=some true
 xga_NoWay:PySem.W.findIn K (.ref a.NoWay) "__getattribute__"=some (some (.builtin "BaseException.__getattribute__"))
 xgh_NoWay:PySem.W.findIn K (.ref a.NoWay) "__getattr__"=some none
 xbe_NoWay:PySem.W.mroIn K a.NoWay (.type "BaseException")=some true
 xca_NoWay:PySem.W.findIn K (.ref a.NoWay) "__class__"=some (some (.builtin "object.__class__"))
 xob_NoWay:PySem.W.mroIn K a.NoWay (.type "object")=some true
 xcl_NoWay:∃cd,PySem.W.clsIn K a.NoWay=some cd
 k_NoWay_NoNumber:PySem.W.kitOne K (.ref a.NoWay) (.ref a.NoNumber)=some false
 k_NoWay_NoPlace:PySem.W.kitOne K (.ref a.NoWay) (.ref a.NoPlace)=some false
 k_NoWay_NoRow:PySem.W.kitOne K (.ref a.NoWay) (.ref a.NoRow)=some false
 k_NoWay_NoText:PySem.W.kitOne K (.ref a.NoWay) (.ref a.NoText)=some false
 k_NoWay_NoWay:PySem.W.kitOne K (.ref a.NoWay) (.ref a.NoWay)=some true
 k_NoWay_TooMany:PySem.W.kitOne K (.ref a.NoWay) (.ref a.TooMany)=some false
 k_NoWay_Twice:PySem.W.kitOne K (.ref a.NoWay) (.ref a.Twice)=some false
 k_NoWay_ValueError:PySem.W.kitOne K (.ref a.NoWay) (.type "ValueError")=some true
 gi_MOST_PLACES:∃tk,mg "MOST_PLACES"=some (.int 12 tk)
 gi_MOST_WAYS:∃tk,mg "MOST_WAYS"=some (.int 24 tk)
 gi_MOST_FIGURES:∃tk,mg "MOST_FIGURES"=some (.int 9 tk)
 gi_MOST_LETTERS:∃tk,mg "MOST_LETTERS"=some (.int 8 tk)
 gs_FIGURES:∃tk,mg "FIGURES"=some (.str "0123456789" tk)
 gs_LETTERS:∃tk,mg "LETTERS"=some (.str "abcdefghijklmnopqrstuvwxyz" tk)
 kt_FORMS:KTb K mg "FORMS" dG
 z_ValueError:mg "ValueError"=none
 z_abs:mg "abs"=none
 z_all:mg "all"=none
 z_bool:mg "bool"=none
 z_dict:mg "dict"=none
 z_enumerate:mg "enumerate"=none
 z_int:mg "int"=none
 z_isinstance:mg "isinstance"=none
 z_len:mg "len"=none
 z_list:mg "list"=none
 z_range:mg "range"=none
 z_sorted:mg "sorted"=none
 z_str:mg "str"=none
 z_tuple:mg "tuple"=none
 z_zip:mg "zip"=none
open PySem L2 in
local macro_rules | `(tactic| walk_at "sc") => `(tactic| exact ⟨rfl, rfl, rfl, by decide +kernel, rfl, by decide +kernel, by decide +kernel⟩)
structure Bt(i:Int):Prop where
 le:Builtin.Int.intBits i<=2^20
inductive IspLaw(K:W.Frag)(vs:List V)(H:Hp)(Q:VK):Prop
 |mk(l:Addr)(ns:List Int)(h1:vs=[.ref l])(h2:SqL K H l (ns.map V.int))(h3:ns.length<=63)(h4:(∀i∈ns,Bt i))(h5:∀H',Q (.bl true) H'):IspLaw K vs H Q
abbrev spLaw(K:W.Frag):Sp:=λvs H Q _=>IspLaw K vs H Q
structure Zz where
 P:Program
 w:World
 K:W.Frag
 mg:Str->Option Value
 base:Heap
 a:Ad
abbrev ZzB(z:Zz):Prop:=TX z.K z.mg z.a->∀f fd,Fun z.K "law" "law" s_law f fd->FnOk z.P z.w z.K z.mg z.base CX0 16 f fd ["_law_script"] (spLaw z.K)
def Zz.ex:∃z:Zz,(ZzB z->∀z,ZzB z):=by
 by_cases h:∃z,¬ZzB z
 ·let#[z,a]:=h;exact#[z,λk=>absurd k a]
 ·exact#[#[default,#[λ_ _=>0,#[λ_=>0,λ_=>0,λt=>t,λ_=>0,λ_ _=>0,λ_=>false,λ_=>0,.refcount,.text,λ_=>0,λ_=>none,λ_=>false,λ_ _ _=>true,λ_ _ _=>true,true,λ_=>false,λ_=>none,λ_=>none,λ_ _ _=>0,λ_ _=>none,λ_=>none,λ_=>(0,false,Str.ofString ""),λ_=>none,λd=>d,λ_=>false]],[],λ_=>none,default,#[0,0,0,0,0,0,0,0,0,0,0,0,0,0,0,0,0,0,0,0,0,0]],λ_ z=>Classical.byContradiction λk=>h #[z,k]]
@[irreducible]noncomputable def zz:Zz:=Classical.choose Zz.ex
@[irreducible]noncomputable def P:Program:=zz.P
@[irreducible]noncomputable def w:World:=zz.w
@[irreducible]noncomputable def K:W.Frag:=zz.K
@[irreducible]noncomputable def mg:Str->Option Value:=zz.mg
@[irreducible]noncomputable def base:Heap:=zz.base
@[irreducible]noncomputable def a:Ad:=zz.a
def zz_all(h:TX K mg a->∀f fd,Fun K "law" "law" s_law f fd->FnOk P w K mg base CX0 16 f fd ["_law_script"] (spLaw K)):∀z,ZzB z:=by
 unfold K mg a P w base zz at h;exact Classical.choose_spec Zz.ex h
section
def TX.exa_NoPlace(T:TX K mg a):ExA K a.NoPlace:=#[T.xga_NoPlace,T.xgh_NoPlace,T.xbe_NoPlace,T.xca_NoPlace,T.c2,T.c3,T.xob_NoPlace,T.xcl_NoPlace]
def TX.exa_NoRow(T:TX K mg a):ExA K a.NoRow:=#[T.xga_NoRow,T.xgh_NoRow,T.xbe_NoRow,T.xca_NoRow,T.c2,T.c3,T.xob_NoRow,T.xcl_NoRow]
def TX.exa_NoWay(T:TX K mg a):ExA K a.NoWay:=#[T.xga_NoWay,T.xgh_NoWay,T.xbe_NoWay,T.xca_NoWay,T.c2,T.c3,T.xob_NoWay,T.xcl_NoWay]
def sc_divisor:FnScope ["one","other","rest"] ["one","other"] (aH s_divisor):=by walk_at"sc"
def sc_in_lowest_terms:FnScope ["top","bottom","made"] ["top","bottom"] (aH fB):=by walk_at"sc"
def sc_total:FnScope ["some","top","bottom","shared","number","common","own","left"] ["some"] (aH s_total):=by walk_at"sc"
def sc_amount:FnScope ["plan","name"] ["plan","name"] (aH s_amount):=by walk_at"sc"
def sc_without_noughts:FnScope ["plan","kept","name","part"] ["plan"] (aH fA):=by walk_at"sc"
def sc_refuse_other_names:FnScope ["net","plan","name"] ["net","plan"] (aH eI):=by walk_at"sc"
def sc_sums_of_own_ways:FnScope ["net","plan","result","place","way","part"] ["net","plan"] (aH e7):=by walk_at"sc"
def sc_sums:FnScope ["net","plan"] ["net","plan"] (aH s_sums):=by walk_at"sc"
def sc_worth:FnScope ["net","plan"] ["net","plan"] (aH s_worth):=by walk_at"sc"
def sc_bound_passed:FnScope ["way","part"] ["way","part"] (aH gZ):=by walk_at"sc"
def sc_other_names:FnScope ["net","plan","own","way"] ["net","plan"] (aH iD):=by walk_at"sc"
def sc_faults:FnScope ["net","plan","found","way","come","place"] ["net","plan"] (aH s_faults):=by walk_at"sc"
def sc_wants_by_name:FnScope ["places","wants","name","want"] ["places"] (aH gF):=by walk_at"sc"
def sc_check_way:FnScope ["way","ahead","wants","place"] ["way","ahead","wants"] (aH s_check_way):=by walk_at"sc"
def sc_ways_by_name:FnScope ["ways","wants","ahead","way"] ["ways","wants"] (aH gX):=by walk_at"sc"
def sc_is_made_of:FnScope ["text","signs","most"] ["text","signs","most"] (aH jk):=by walk_at"sc"
def sc_read_whole:FnScope ["text"] ["text"] (aH jd):=by walk_at"sc"
def sc_read_fraction:FnScope ["text","parts","below","top","bottom","number"] ["text"] (aH gG):=by walk_at"sc"
def sc_is_name:FnScope ["text"] ["text"] (aH s_is_name):=by walk_at"sc"
def sc_read_number:FnScope ["word"] ["word"] (aH iC):=by walk_at"sc"
def sc_read_name:FnScope ["word"] ["word"] (aH s_read_name):=by walk_at"sc"
def sc_read_gain:FnScope ["word","gain"] ["word"] (aH s_read_gain):=by walk_at"sc"
def sc_read_high:FnScope ["word","high"] ["word"] (aH s_read_high):=by walk_at"sc"
def sc_read_word:FnScope ["kind","word"] ["kind","word"] (aH s_read_word):=by walk_at"sc"
def sc_read_row:FnScope ["row","words","form","read"] ["row"] (aH s_read_row):=by walk_at"sc"
def sc_law_cell_at:FnScope ["_law_script","_law_k"] ["_law_script","_law_k"] (aH iH):=by walk_at"sc"
def sc_law_whole:FnScope ["_law_found"] ["_law_found"] (aH s_law_whole):=by walk_at"sc"
def sc_law_pair:FnScope ["_law_found"] ["_law_found"] (aH s_law_pair):=by walk_at"sc"
def sc_law_divisor:FnScope ["_law_one","_law_other"] ["_law_one","_law_other"] (aH iG):=by walk_at"sc"
def sc_law_lowest:FnScope ["_law_top","_law_bottom","_law_by"] ["_law_top","_law_bottom"] (aH jg):=by walk_at"sc"
def sc_law_text:FnScope ["_law_pair_here"] ["_law_pair_here"] (aH s_law_text):=by walk_at"sc"
def sc_law_row:FnScope ["_law_parts_here","_law_words","_law_part"] ["_law_parts_here"] (aH s_law_row):=by walk_at"sc"
def sc_law_refusal:FnScope ["_law_e","_law_told_here"] ["_law_e"] (aH iF):=by walk_at"sc"
def sc_law_said:FnScope ["_law_desk","_law_row_here","_law_caught","_law_found","_law_e"] ["_law_desk","_law_row_here"] (aH s_law_said):=by walk_at"sc"
def sc_law_names:FnScope ["_law_cell","_law_letters","_law_size","_law_at","_law_fill","_law_names_here","_law_k","_law_odd"] ["_law_cell"] (aH s_law_names):=by walk_at"sc"
def sc_law_number:FnScope ["_law_cell","_law_top"] ["_law_cell"] (aH jf):=by walk_at"sc"
def sc_law_sum:FnScope ["_law_pairs","_law_top","_law_bottom","_law_one"] ["_law_pairs"] (aH s_law_sum):=by walk_at"sc"
def sc_law_flow:FnScope ["_law_model","_law_name"] ["_law_model","_law_name"] (aH s_law_flow):=by walk_at"sc"
def sc_law_gone:FnScope ["_law_model","_law_place","_law_parts_here","_law_name","_law_way","_law_flow_here"] ["_law_model","_law_place"] (aH s_law_gone):=by walk_at"sc"
def sc_law_paid:FnScope ["_law_model","_law_parts_here","_law_name","_law_way","_law_flow_here"] ["_law_model"] (aH s_law_paid):=by walk_at"sc"
def sc_law_upto:FnScope ["_law_one","_law_other"] ["_law_one","_law_other"] (aH s_law_upto):=by walk_at"sc"
def sc_law_faults:FnScope ["_law_model","_law_parts_here","_law_name","_law_way","_law_flow_here","_law_place","_law_want"] ["_law_model"] (aH jh):=by walk_at"sc"
def sc_law_parts:FnScope ["_law_cell","_law_names_here","_law_free","_law_mixed","_law_other","_law_word","_law_high","_law_gain"] ["_law_cell","_law_names_here","_law_free"] (aH s_law_parts):=by walk_at"sc"
def sc_law_way_row:FnScope ["_law_model","_law_parts_here","_law_name"] ["_law_model","_law_parts_here"] (aH iE):=by walk_at"sc"
def sc_law_answer:FnScope ["_law_model","_law_parts_here","_law_word"] ["_law_model","_law_parts_here"] (aH jj):=by walk_at"sc"
def sc_law_same_net:FnScope ["_law_told_here","_law_places","_law_ways","_law_name","_law_want","_law_shown","_law_way","_law_high"] ["_law_told_here","_law_places","_law_ways"] (aH gY):=by walk_at"sc"
def sc_law_same_plan:FnScope ["_law_told_here","_law_kept","_law_due"] ["_law_told_here","_law_kept"] (aH gH):=by walk_at"sc"
def sc_law_known:FnScope ["_law_model","_law_told_here","_law_places"] ["_law_model","_law_told_here"] (aH s_law_known):=by walk_at"sc"
def sc_law_told:FnScope ["_law_desk","_law_model"] ["_law_desk","_law_model"] (aH s_law_told):=by walk_at"sc"
def sc_law:FnScope ["_law_script","_law_names_here","_law_desk","_law_model","_law_first","_law_held","_law_k","_law_cell","_law_parts_here","_law_spoilt","_law_last"] ["_law_script"] (aH s_law):=by walk_at"sc"
def sc_Fraction_init:FnScope ["self","top","bottom","common"] ["self","top","bottom"] (aH gK):=by walk_at"sc"
def sc_Fraction_plus:FnScope ["self","other","common","own","top","left"] ["self","other"] (aH gJ):=by walk_at"sc"
def jc:FnScope ["self","other"] ["self","other"] (aH fZ):=by walk_at"sc"
def sc_Fraction_times:FnScope ["self","other","first","second","top"] ["self","other"] (aH fX):=by walk_at"sc"
def ja:FnScope ["self","other"] ["self","other"] (aH fW):=by walk_at"sc"
def sc_Fraction_sign:FnScope ["self"] ["self"] (aH gI):=by walk_at"sc"
def jb:FnScope ["self"] ["self"] (aH fY):=by walk_at"sc"
def sc_Way_init:FnScope ["self","name","start","goal","high","cost"] ["self","name","start","goal","high","cost"] (aH iS):=by walk_at"sc"
def sc_Way_gain:FnScope ["self"] ["self"] (aH s_Way_gain):=by walk_at"sc"
def gr:FnScope ["self","amount"] ["self","amount"] (aH eW):=by walk_at"sc"
def sc_Growing_init:FnScope ["self","name","start","goal","rate","high","cost"] ["self","name","start","goal","rate","high","cost"] (aH fe):=by walk_at"sc"
def sc_Growing_gain:FnScope ["self"] ["self"] (aH g9):=by walk_at"sc"
def gE:FnScope ["self"] ["self"] (aH d7):=by walk_at"sc"
def sc_Net_init:FnScope ["self","places","ways"] ["self","places","ways"] (aH s_Net_init):=by walk_at"sc"
def sc_Net_names:FnScope ["self"] ["self"] (aH s_Net_names):=by walk_at"sc"
def sc_Net_want:FnScope ["self","place"] ["self","place"] (aH s_Net_want):=by walk_at"sc"
def sc_Net_way:FnScope ["self","name"] ["self","name"] (aH s_Net_way):=by walk_at"sc"
def sc_Net_all_ways:FnScope ["self"] ["self"] (aH g8):=by walk_at"sc"
def sc_Desk_init:FnScope ["self"] ["self"] (aH s_Desk_init):=by walk_at"sc"
def sc_Desk_net:FnScope ["self"] ["self"] (aH s_Desk_net):=by walk_at"sc"
def sc_Desk_plan:FnScope ["self"] ["self"] (aH s_Desk_plan):=by walk_at"sc"
def sc_Desk_say:FnScope ["self","row","words"] ["self","row"] (aH s_Desk_say):=by walk_at"sc"
def gt:FnScope ["self","words"] ["self","words"] (aH eB):=by walk_at"sc"
def gW:FnScope ["self","place"] ["self","place"] (aH eQ):=by walk_at"sc"
def fV:FnScope ["self","words"] ["self","words"] (aH d8):=by walk_at"sc"
def sc_Desk_change:FnScope ["self","words","name"] ["self","words"] (aH iI):=by walk_at"sc"
def gP:FnScope ["self"] ["self"] (aH eJ):=by walk_at"sc"
def sc_Desk_told:FnScope ["self","words"] ["self","words"] (aH s_Desk_told):=by walk_at"sc"
def sc_Desk_told_faults:FnScope ["self","found"] ["self"] (aH fg):=by walk_at"sc"
def sc_NoWay_init:FnScope ["self","name"] ["self","name"] (aH gu):=by walk_at"sc"
def sc_NoPlace_init:FnScope ["self","place"] ["self","place"] (aH fb):=by walk_at"sc"
end
end G
open PySem L2 in
local macro_rules | `(tactic| walk_at "kit") => `(tactic| first | exact G.TX.k_Fraction_Fraction (by assumption) | exact G.TX.k_Way_Store (by assumption) | exact G.TX.k_Growing_Store (by assumption) | exact G.TX.k_Leaking_Store (by assumption) | exact G.TX.k_int_bool (by assumption) | exact G.TX.k_dict_dict (by assumption) | exact G.TX.k_int_int (by assumption) | exact G.TX.k_str_str (by assumption) | exact G.TX.k_tuple_str (by assumption) | exact G.TX.k_NoPlace_NoNumber (by assumption) | exact G.TX.k_NoPlace_NoPlace (by assumption) | exact G.TX.k_NoPlace_NoRow (by assumption) | exact G.TX.k_NoPlace_NoText (by assumption) | exact G.TX.k_NoPlace_NoWay (by assumption) | exact G.TX.k_NoPlace_TooMany (by assumption) | exact G.TX.k_NoPlace_Twice (by assumption) | exact G.TX.k_NoPlace_ValueError (by assumption) | exact G.TX.k_NoRow_NoNumber (by assumption) | exact G.TX.k_NoRow_NoPlace (by assumption) | exact G.TX.k_NoRow_NoRow (by assumption) | exact G.TX.k_NoRow_NoText (by assumption) | exact G.TX.k_NoRow_NoWay (by assumption) | exact G.TX.k_NoRow_TooMany (by assumption) | exact G.TX.k_NoRow_Twice (by assumption) | exact G.TX.k_NoRow_ValueError (by assumption) | exact G.TX.k_NoWay_NoNumber (by assumption) | exact G.TX.k_NoWay_NoPlace (by assumption) | exact G.TX.k_NoWay_NoRow (by assumption) | exact G.TX.k_NoWay_NoText (by assumption) | exact G.TX.k_NoWay_NoWay (by assumption) | exact G.TX.k_NoWay_TooMany (by assumption) | exact G.TX.k_NoWay_Twice (by assumption) | exact G.TX.k_NoWay_ValueError (by assumption))
open PySem L2 in
local macro_rules | `(tactic| walk_at "sm") => `(tactic| first | assumption | (refine And.left (?_ : G.SmR _); assumption) | (refine And.right (?_ : G.SmR _); assumption))
open PySem L2 in
local macro_rules | `(tactic| walk_at "fa") => `(tactic| first | rfl | assumption | exact True.intro | exact (fun _ h => h) | ((with_reducible show L2.TyOf _ _ _ _); first | exact TyOf.int _ | exact TyOf.str _ | exact TyOf.bl _ | exact TyOf.non | exact G.FrAt.ty (G.TX.fr (by assumption)) (by walk_at "fa")) | ((with_reducible show PySem.W.kitOne _ _ _ = _); walk_at "kit") | ((with_reducible show G.FrAt _ _ _ _); apply G.FrAt.up; assumption; walk_at "fa") | ((with_reducible show L2.SqL _ _ _ _); apply Same.seq; assumption; walk_at "fa") | (show (0 : Int) < _; decide) | (refine (And.intro ?_ ?_ : CDiv _ _) <;> decide) | (refine (And.intro ?_ (And.intro ?_ ?_) : CPow _ _) <;> decide) | exact (PySem.IntMulOk.of_right (by decide)) | exact (PySem.IntMulOk.of_left (by decide)) | (refine (And.intro ?_ ?_ : CMulB _ _) <;> walk_at "sm"))
open PySem L2 in
local macro_rules | `(tactic| walk_at "rd") => `(tactic| repeat (first | refine L2.ItVar.mk _ (by walk_at "fa") ?_ | refine L2.ItB.mk _ (by walk_at "fa") ?_ | refine L2.ItTest.mk _ (by walk_at "fa") ?_ | refine L2.IrU.mk _ (by walk_at "fa") ?_ | refine L2.IrI0.mk _ _ (by walk_at "fa") (by walk_at "fa") ?_ | refine L2.IrIxL.mk _ _ _ _ (by walk_at "fa") (by walk_at "fa") (by walk_at "fa") (by walk_at "fa") ?_ | refine L2.IrIxT.mk _ _ _ _ (by walk_at "fa") (by walk_at "fa") (by walk_at "fa") (by walk_at "fa") ?_ | refine L2.ItFld.mk _ _ _ _ _ (by walk_at "fa") (by walk_at "fa") (by walk_at "fa") (by walk_at "fa") (by walk_at "fa") ?_ | apply @Exists.intro V | apply @Exists.intro Int | apply @Exists.intro Addr | apply @Exists.intro Rat | apply @Exists.intro Bool | apply @Exists.intro Value | apply @Exists.intro (List V) | apply @Exists.intro (List (Str × V)) | apply @Exists.intro Str | apply @Exists.intro (List Int) | refine And.intro (by walk_at "fa") ?_ | refine L2.iteT ?_ | refine L2.iteF ?_))
namespace G
open PySem L2
section
def TX.fr(T:TX K mg a):FrC K a.Fraction:=#[T.cl_Fraction,T.na_Fraction_top,T.na_Fraction_bottom,T.c1_Fraction,T.c2,T.c3,T.c4_Fraction]
def gcd_turn{a b n m:Int}(h:gcd n m=gcd a b)(hm:0<=m)(p:m≠0):0<=n%m/\n%m<m/\gcd m (n%m)=gcd a b:=
 #[Int.emod_nonneg n p,Int.emod_lt_of_pos n (),by rw[gcd_step n m (),h]]
def dC(T:TX K mg a):FnB P w K mg base CX0 "divisor" 1 ["one","other"] spDiv:=by
 refine T.d_divisor.ok sc_divisor (λy H Q E h=>?_) (λf u A l s H y Q E I h=>?_)
 ·let#[a,b,8,_]:=h;rfl
 ·let#[a,b,8,k]:=h
  refine#[_,(aB (aR (i:=0) sc_divisor.nd rfl (Or.inl rfl) (bC ij (by rfl) T.z_abs PyProof.Rows.boot_abs (aA (pv 0) aD)))
   (aB (aR (i:=1) sc_divisor.nd rfl (Or.inl rfl) (bC ij (by rfl) T.z_abs PyProof.Rows.boot_abs (aA (pv 1) aD)))
   (aB (ps_while kl (aK iK (pv 1) aF (aS _)) (aB (aR (i:=2) sc_divisor.nd rfl (Or.inl rfl) (aQ bQ (pv 0) (pv 1)))
   (aB (aR (i:=0) sc_divisor.nd rfl (Or.inl rfl) (pv 1))
   (aE (aR (i:=1) sc_divisor.nd rfl (Or.inl rfl) (pv 2))))))
   (aE (aM (pv 0)))))),?_]
  try dsimp only[bF,Cx.nox,Cx.wish]
  refine#[9,9,9,9,?_];refine while_by (λσ d=>yE3 λ(n m:Int)(r:Option V)=>σ=[some (.int n),some (.int m),r]×' d=H×' 0<=n×' 0<=m×' gcd n m=gcd a b) (λσ _=>match σ with|[_,some (.int m),_]=>m.toNat|_=>0) ?_ ?_ ?_
  ·refine#[_,7,?_,?_,gcd_abs a b]<;>split<;>lia
  ·rintro σ d⟨n,m,r,rfl,rfl,t,o,j⟩;refine#[9,8,9,?_];by_cases z:m=0
   ·subst z;refine iO rfl ?_;refine#[9,?_];rw[gcd_zero n t]at j;rw[j];exact k
   ·refine bT (by rw[neV z];rfl) ?_;let#[g1,J,B]:=gcd_turn j o z;refine#[9,9,7,(by show(0:Int)<m;lia),9,9,#[_,7,o,g1,B],?_];show(n%m).toNat<m.toNat
    lia
  ·rintro σ d G F p⟨v,e,x,c,D,q⟩;exact#[v,e,x,c,D,p _ _ q]
def ok_init(T:TX K mg a):∀dvs∈[[],[V.int 1]],MkB P w K mg base CX0 a.Fraction 2 ["self","top","bottom"] dvs (spInit a.Fraction):=by
 refine T.i_Fraction.ok sc_Fraction_init (λv H Q E h=>?_) (λf z A q s H v Q E D h=>?_)
 ·let#[p,o,n,b,8,_]:=h;rfl
 ·let#[p,o,n,b,8,G,l,y,k]:=h
  refine#[_,(aB (aW (aK bL (pv 2) aF (aS _)) (aE cF) aJ)
   (aB (aR (i:=3) sc_Fraction_init.nd rfl (Or.inl rfl) (aZ (dC T) D aL (aA (pv 1) (aA (pv 2) aD))))
   (aB (aW (aK iL (pv 2) aF (aS _)) (aE (aR (i:=3) sc_Fraction_init.nd rfl (Or.inl rfl) (pe_un un_neg (pv 3)))) aJ)
   (aB (cY (pv 0) (aQ bZ (pv 1) (pv 3)) rfl)
   (aE (cY (pv 0) (aQ bZ (pv 2) (pv 3)) rfl)))))),?_]
  try dsimp only[bF,Cx.nox,Cx.wish]
  refine#[9,8,9,?_];refine aX (neV l) ?_;refine#[9,9,n,b,8,?_];refine#[9,7,9,?_];let#[e,d]:=iu n b l;have I:=c7 n l;have t:=Sm.gcd_r n l y
  have fin:∀c:Int,c≠0->Sm c->n.fdiv c=(Rat.divInt n b).num->b.fdiv c=((Rat.divInt n b).den:Int)->
    tSeq (sFld K (i9 0) (tOp (rI CDivB λi j=>.int (i.fdiv j)) (i9 1) (i9 3)) "top") (sFld K (i9 0) (tOp (rI CDivB λi j=>.int (i.fdiv j)) (i9 2) (i9 3)) "bottom") {nx:=λ_ B=>Q .non B,rt:=Q} [some (.ref p),some (.int n),some (.int b),some (.int c)] H:=by
   intro c r u F x;refine#[9,9,7,#[r,u],9,p,a.Fraction,o,9,G,T.cl_Fraction,T.na_Fraction_top,(by show 0<1000;decide),?_];refine#[9,9,7,#[r,u],9,p,a.Fraction,o,9,aC,T.cl_Fraction,T.na_Fraction_bottom,(by show 1<1000;decide),?_];refine k _ ?_;rw[i7];dsimp only;rw[F,x,ff_new]
  refine ifB (λm=>?_) (λm=>?_)
  ·rw[if_pos m]at e d;refine#[9,9,?_];exact fin _ () (t.le ()) e d
  ·rw[if_neg m]at e d;exact fin _ () t e d
def sm1:Sm 1:=Nat.one_lt_two_pow (by decide)
def mk2(T:TX K mg a):MkB P w K mg base CX0 a.Fraction 2 ["self","top","bottom"] [] (spInit a.Fraction):=ok_init T _ (by simp)
def mk1(T:TX K mg a):MkB P w K mg base CX0 a.Fraction 2 ["self","top","bottom"] [.int 1] (spInit a.Fraction):=ok_init T _ (by simp)
def dh(T:TX K mg a):FnB P w K mg base CX0 "in_lowest_terms" 4 ["top","bottom"] (spLow a.Fraction):=by
 refine T.d_in_lowest_terms.ok sc_in_lowest_terms (λm H Q E h=>?_) (λf p A j s H m Q E r h=>?_)
 ·let#[t,b,8,_]:=h;rfl
 ·let#[t,b,8,k]:=h
  refine#[_,(aB (aR (i:=2) sc_in_lowest_terms.nd rfl (Or.inl rfl) (eT (mk1 T) r T.mg_Fraction aL (aA aF aD)))
   (aB (cY (pv 2) (pv 0) rfl)
   (aB (cY (pv 2) (pv 1) rfl)
   (aE (aM (pv 2)))))),?_]
  try dsimp only[bF,Cx.nox,Cx.wish]
  refine#[0,1,8,5,sm1,λx v l q⟨d,u⟩=>?_];refine#[9,9,x,a.Fraction,d,9,u,T.cl_Fraction,T.na_Fraction_top,(by show 2<1000;decide),?_];refine#[9,9,x,a.Fraction,d,9,aC,T.cl_Fraction,T.na_Fraction_bottom,(by show 2<1000;decide),?_];refine#[9,?_];refine k x d _ l (λc o e=>?_) ?_
  ·rw[aG (aP e l),aG (aP e l)];exact q _ _ e
  ·rw[aC,ff_put]
nonrec abbrev always:Rat->Rat->Prop:=λ_ _=>True
def ok_plus(T:TX K mg a):MtB P w K mg base CX0 a.Fraction "plus" 5 ["self","other"] (spR2 a.Fraction (λx y=>x+y) always):=by
 refine T.m_Fraction_plus.ok sc_Fraction_plus (λR H Q E h=>?_) (λf N A u s H R Q E t h=>?_)
 ·let#[p,q,x,y,8,_]:=h;rfl
 ·let#[p,q,x,y,8,j,c,F,d,_,k]:=h
  refine#[_,(aB (aR (i:=2) sc_Fraction_plus.nd rfl (Or.inl rfl) (aZ (dC T) t aL (aA (df T.fr (pv 0)) (aA (df T.fr (pv 1)) aD))))
   (aB (aR (i:=3) sc_Fraction_plus.nd rfl (Or.inl rfl) (aQ bZ (df T.fr (pv 0)) (pv 2)))
   (aB (aR (i:=4) sc_Fraction_plus.nd rfl (Or.inl rfl) (aQ fP (aQ dR (dJ T.fr (pv 0)) (aQ bZ (df T.fr (pv 1)) (pv 2))) (aQ dR (dJ T.fr (pv 1)) (pv 3))))
   (aB (aR (i:=5) sc_Fraction_plus.nd rfl (Or.inl rfl) (aZ (dC T) t aL (aA (pv 4) (aA (pv 2) aD))))
   (aE (aM (aZ (dh T) t aL (aA (aQ bZ (pv 4) (pv 5)) (aA (aQ dR (pv 3) (aQ bZ (df T.fr (pv 1)) (pv 5))) aD))))))))),?_]
  try dsimp only[bF,Cx.nox,Cx.wish]
  have X:=den_ne x;have D:=den_ne y;have U:=den_pos x;have W:=den_pos y;have I:=c7 (x.den:Int) D;have e:=Sm.gcd_r (x.den:Int) D d.2;have v:gcd x.den y.den≠0:=by lia
  have J:Sm ((x.den:Int).fdiv (gcd x.den y.den)):=F.2.le (fL _ I ());have o:Sm ((y.den:Int).fdiv (gcd x.den y.den)):=d.2.le (fL _ I ());refine#[9,p,x,8,j,9,q,y,8,c,_,9,?_];refine#[9,p,x,8,j,9,7,#[4,e],?_];refine#[9,p,x,8,j,9,q,y,8,c,9,7,#[4,e],7,#[F.1,o],9,q,y,8,c,9,7,#[d.1,J],7,?_];refine#[9,9,_,9,?_];generalize b:x.num*(y.den:Int).fdiv (gcd x.den y.den)+y.num*(x.den:Int).fdiv (gcd x.den y.den)=top;have M:=c7 top v;have B:=Sm.gcd_r top v e;refine#[9,9,7,#[4,B],9,9,q,y,8,c,9,7,#[4,B],7,#[J,d.2.le (fL _ M ())],_,9,?_];intro r G z S O L;let#[l,m]:=add_spec x y;try dsimp only at l m
  rw[b]at l m;refine k r z S O #[G,?_];show z r=some (.ins a.Fraction G (ff (x+y).num (x+y).den));try rw[b]at L
  rw[L,<-l,<-m]
def ok_minus(T:TX K mg a):MtB P w K mg base CX0 a.Fraction "minus" 6 ["self","other"] (spR2 a.Fraction (λx y=>x-y) always):=by
 refine T.m_Fraction_minus.ok jc (λu H Q E h=>?_) (λf I A d s H u Q E i h=>?_)
 ·let#[p,q,x,y,8,_]:=h;rfl
 ·let#[p,q,x,y,8,m,e,t,l,_,k]:=h;refine#[_,(aE (aM (hO T.fr (pv 0) (ok_plus T) i aL (aA (aZ (dh T) i aL (aA (pe_un un_neg (dJ T.fr (pv 1))) (aA (df T.fr (pv 1)) aD))) aD)))),?_];try dsimp only[bF,Cx.nox,Cx.wish]
  refine#[9,p,x,8,m,9,q,y,8,e,9,9,q,y,8,e,_,9,λr F z J c D=>?_];have v:FrAt a.Fraction z r (-y):=#[F,D];refine#[p,r,x,-y,8,m.mono c,v,t,#[by show Sm (-y.num);exact l.1.le (by omega),l.2],trivial,λj o b B G=>?_];refine k j o (c.free b) (c.trans B) ?_;show FrAt a.Fraction o j (x-y);rw[Rat.sub_eq_add_neg];exact G
def ok_times(T:TX K mg a):MtB P w K mg base CX0 a.Fraction "times" 5 ["self","other"] (spR2 a.Fraction (λx y=>x*y) always):=by
 refine T.m_Fraction_times.ok sc_Fraction_times (λG H Q E h=>?_) (λf D A m s H G Q E l h=>?_)
 ·let#[p,q,x,y,8,_]:=h;rfl
 ·let#[p,q,x,y,8,c,b,j,e,_,k]:=h
  refine#[_,(aB (aR (i:=2) sc_Fraction_times.nd rfl (Or.inl rfl) (aZ (dC T) l aL (aA (dJ T.fr (pv 0)) (aA (df T.fr (pv 1)) aD))))
   (aB (aR (i:=3) sc_Fraction_times.nd rfl (Or.inl rfl) (aZ (dC T) l aL (aA (dJ T.fr (pv 1)) (aA (df T.fr (pv 0)) aD))))
   (aB (aR (i:=4) sc_Fraction_times.nd rfl (Or.inl rfl) (aQ dR (aQ bZ (dJ T.fr (pv 0)) (pv 2)) (aQ bZ (dJ T.fr (pv 1)) (pv 3))))
   (aE (aM (aZ (dh T) l aL (aA (pv 4) (aA (aQ dR (aQ bZ (df T.fr (pv 0)) (pv 3)) (aQ bZ (df T.fr (pv 1)) (pv 2))) aD)))))))),?_]
  try dsimp only[bF,Cx.nox,Cx.wish]
  have u:=den_ne x;have t:=den_ne y;have R:=den_pos x;have S:=den_pos y;have p1:=c7 x.num t;have p2:=c7 y.num u;have d:=Sm.gcd_r x.num t e.2;have v:=Sm.gcd_r y.num u j.2;have J:Sm (x.num.fdiv (gcd x.num y.den)):=j.1.le (fdiv_le' _ p1 (gcd_dvd_l _ _));have B:Sm (y.num.fdiv (gcd y.num x.den)):=e.1.le (fdiv_le' _ p2 (gcd_dvd_l _ _));have L:Sm ((x.den:Int).fdiv (gcd y.num x.den)):=j.2.le (fL _ p2 ());have M:Sm ((y.den:Int).fdiv (gcd x.num y.den)):=e.2.le (fL _ p1 ());refine#[9,p,x,8,c,9,q,y,8,b,_,9,?_];refine#[9,q,y,8,b,9,p,x,8,c,_,9,?_];refine#[9,p,x,8,c,9,7,#[4,d],9,q,y,8,b,9,7,#[4,v],7,#[J,B],?_];refine#[9,9,p,x,8,c,9,7,#[4,v],9,q,y,8,b,9,7,#[4,d],7,#[L,M],_,9,?_];intro r z o N d O;let#[F,I]:=mul_spec x y;refine k r o N d #[z,?_];show o r=some (.ins a.Fraction z (ff (x*y).num (x*y).den));rw[O,<-F,<-I]
end
end G
namespace G
open PySem L2
section
abbrev spB2(C:Addr)(f:Rat->Rat->Bool):Sp:=λvs H Q _=>∃(p q:Addr)(x y:Rat),vs=[.ref p,.ref q]/\FrAt C H p x/\FrAt C H q y/\SmR x/\SmR y/\Q (.bl (f x y)) H
def ok_under(T:TX K mg a):MtB P w K mg base CX0 a.Fraction "under" 1 ["self","other"] (spB2 a.Fraction λx y=>decide (x<y)):=by
 refine T.m_Fraction_under.ok ja (λc H Q E h=>?_) (λf d A b s H c Q E j h=>?_)
 ·let#[p,q,x,y,8,_]:=h;rfl
 ·let#[p,q,x,y,8,m,i,e,l,k]:=h;refine#[_,(aE (aM (gy iL (aQ dR (dJ T.fr (pv 0)) (df T.fr (pv 1))) (aQ dR (dJ T.fr (pv 1)) (df T.fr (pv 0))) (aS _)))),?_];try dsimp only[bF,Cx.nox,Cx.wish]
  walk_at"rd"
  show Q (.bl (decide (x.num*↑y.den<y.num*↑x.den))) H;rw[decide_eq_decide.mpr (Rat.lt_iff x y).symm];exact k
abbrev sgn(x:Rat):Int:=if 0<x.num then 1 else if x.num<0 then-1 else 0
def ip(T:TX K mg a):MtB P w K mg base CX0 a.Fraction "sign" 1 ["self"] (λvs H Q _=>∃(p:Addr)(x:Rat),vs=[.ref p]/\FrAt a.Fraction H p x/\Q (.int (sgn x)) H):=by
 refine T.m_Fraction_sign.ok sc_Fraction_sign (λvs H Q E h=>?_) (λf e A d s H vs Q E i h=>?_)
 ·let#[p,x,8,_]:=h;rfl
 ·let#[p,x,8,j,k]:=h
  refine#[_,(aB (aW (aK op_gt (dJ T.fr (pv 0)) aF (aS _)) (aE (aM aF)) aJ)
   (aB (aW (aK iL (dJ T.fr (pv 0)) aF (aS _)) (aE (aM (pe_un un_neg aF))) aJ)
   (aE (aM aF)))),?_]
  try dsimp only[bF,Cx.nox,Cx.wish]
  walk_at"rd"
  refine ifB (λb=>?_) (λb=>?_)
  ·rw[show sgn x=1 from if_pos b]at k;exact k
  ·walk_at"rd"
   refine ifB (λc=>?_) (λc=>?_)
   ·rw[show sgn x=-1 from(if_neg b).trans (if_pos c)]at k;walk_at"rd"
    exact k
   ·rw[show sgn x=0 from(if_neg b).trans (if_neg c)]at k;exact k
abbrev bO(x:Rat):Str:=if(x.den:Int)=1 then toString x.num else toString x.num++"/"++toString (x.den:Int)
abbrev Tx(i:Int):Prop:=i.natAbs<2^1900
def Tx.log(h:Tx i):i.natAbs.log2<1920:=by
 rcases Nat.eq_zero_or_pos i.natAbs with z|z
 ·rw[z];decide
 ·exact j7 ((Nat.log2_lt ()).mpr h) (by decide)
def txLen(h:Tx i):(Str.ofString (toString i)).length<=1921:=PyProof.Rows.int_text_len_1921 h.log
def gb(T:TX K mg a):MtB P w K mg base CX0 a.Fraction "shown" 1 ["self"] (λvs H Q _=>∃(p:Addr)(x:Rat),vs=[.ref p]/\FrAt a.Fraction H p x/\Tx x.num/\Tx x.den/\Q (.str (bO x)) H):=by
 refine T.m_Fraction_shown.ok jb (λvs H Q E h=>?_) (λf i A d s H vs Q E m h=>?_)
 ·let#[p,x,8,_]:=h;rfl
 ·let#[p,x,8,o,b,e,k]:=h
  refine#[_,(aB (aW (aK bL (df T.fr (pv 0)) aF (aS _)) (aE (aM (bW dI (by rfl) T.z_str k6 (aA (dJ T.fr (pv 0)) aD)))) aJ)
   (aE (aM (aQ cW (aQ cW (bW dI (by rfl) T.z_str k6 (aA (dJ T.fr (pv 0)) aD)) aT) (bW dI (by rfl) T.z_str k6 (aA (df T.fr (pv 0)) aD)))))),?_]
  try dsimp only[bF,Cx.nox,Cx.wish]
  walk_at"rd"
  refine ifV (λc=>?_) (λc=>?_)
  ·walk_at"rd"
   refine#[b.log,?_];rw[show bO x=_ from if_pos c]at k;exact k
  ·walk_at"rd"
   refine#[b.log,?_];walk_at"rd"
   have l:=txLen b;have j:=txLen e;refine#[by rw[show("/":Str).length=1 from rfl,j1];lia,?_];walk_at"rd"
   refine#[e.log,?_];walk_at"rd"
   refine#[by rw[kD,show("/":Str).length=1 from rfl,j1];lia,?_];rw[show bO x=_ from if_neg c]at k;exact k
end
end G
namespace G
open PySem L2
section
inductive IspNoWay(a:Ad)(vs:List V)(H:Hp)(Q:VK):Prop
 |mk(e:Addr)(n:Str)(h1:vs=[.ref e,.str n])(h2:H e=some (XI e a.NoWay none))(h3:n.length<=1000)(h4:∀dx,H dx=none->Q .non (upd (upd H e (XI e a.NoWay (some dx))) dx (.xd [("name",.str n)]))):IspNoWay a vs H Q
abbrev spNoWay(a:Ad):Sp:=λvs H Q _=>IspNoWay a vs H Q
def b_NoWay(T:TX K mg a):i3 P w K mg base "NoWay.__init__" gu ["self","name"] 0 (spNoWay a):=by
 intro f i A c l H j Q E o h;let#[e,n,8,d,m,k]:=h
 refine#[_,(aB (bG (pe_binit T.br_NoWay T.bf_NoWay T.mg_GainError (aA (pv 0) (aA (pe_j2 aT (pe_fv (pv 1))) aD))))
   (aE (ps_xfld (pv 0) (pv 1) rfl))),?_]
 try dsimp only[bF,Cx.nox,Cx.wish]
 let#[fi,b]:=T.xi_NoWay.fi;refine#[9,9,by rw[j1];decide,9,9,by rw[j1];lia,9,?_,e,a.NoWay,none,_,fi,8,d,b,?_,?_]
 ·rw[show("no such way can be: ":Str).length=20 from by decide+kernel,j1]
  lia
 ·rw[j1];show 1<=_
  lia
 ·exact#[9,9,e,a.NoWay,8,d,T.xs_NoWay,T.na_NoWay_name,k]
def xi_NoWay(T:TX K mg a):XiB P w K mg base a.NoWay 1 ["self","name"] (spNoWay a):=
 T.xi_NoWay.ok sc_NoWay_init (λb H Q E h=>by let#[_,_,8,_]:=h;rfl) (b_NoWay T)
abbrev NoWayE(a:Ad)(H:Hp)(n:Str)(E:XK):Prop:=∀H' dx,Same H H'->H' dx=some (.xd [("name",.str n)])->E (.ref a.NoWay) (some dx) H'
def raise_nw(hn:n.length<=1000)(k:NoWayE a H n E):([V.str n]:List V).length<=sizeLine/\
  ∀e,H e=none->spNoWay a ((.ref e::[.str n])++[]) (upd H e (XI e a.NoWay none)) (λv H2=>v=.non/\∃d,H2 e=some (XI e a.NoWay d)/\E (.ref a.NoWay) d (del H2 e)) E0:=by
 refine#[by rw[j1];show 1<=_;lia,λe m=>#[e,n,8,aC,hn,λc hd=>#[8,some c,?_,?_]]]
 ·have ne:c≠e:=λz=>by rw[z,aC]at hd;cases hd
  rw[aG (k7 ne),aC]
 ·have ne:c≠e:=λz=>by rw[z,aC]at hd;cases hd
  have i:H c=none:=by rw[aG ne]at hd;exact hd
  refine k _ c (λb o j=>?_) ?_
  ·have h:=aP j m;have l:=aP j i;unfold del;rw[if_neg h,aG l,aG h,aG h];exact j
  ·unfold del;rw[if_neg ne,aC]
end
end G
namespace G
open PySem L2
section
inductive IspNoPlace(a:Ad)(vs:List V)(H:Hp)(Q:VK):Prop
 |mk(e:Addr)(n:Str)(h1:vs=[.ref e,.str n])(h2:H e=some (XI e a.NoPlace none))(h3:n.length<=1000)(h4:∀dx,H dx=none->Q .non (upd (upd H e (XI e a.NoPlace (some dx))) dx (.xd [("place",.str n)]))):IspNoPlace a vs H Q
abbrev spNoPlace(a:Ad):Sp:=λvs H Q _=>IspNoPlace a vs H Q
def b_NoPlace(T:TX K mg a):i3 P w K mg base "NoPlace.__init__" fb ["self","place"] 0 (spNoPlace a):=by
 intro f i A c l H j Q E o h;let#[e,n,8,d,m,k]:=h
 refine#[_,(aB (bG (pe_binit T.br_NoPlace T.bf_NoPlace T.mg_GainError (aA (pv 0) (aA (pe_j2 aT (pe_fv (pv 1))) aD))))
   (aE (ps_xfld (pv 0) (pv 1) rfl))),?_]
 try dsimp only[bF,Cx.nox,Cx.wish]
 let#[fi,b]:=T.xi_NoPlace.fi;refine#[9,9,by rw[j1];decide,9,9,by rw[j1];lia,9,?_,e,a.NoPlace,none,_,fi,8,d,b,?_,?_]
 ·rw[show("no such place: ":Str).length=15 from by decide+kernel,j1]
  lia
 ·rw[j1];show 1<=_
  lia
 ·exact#[9,9,e,a.NoPlace,8,d,T.xs_NoPlace,T.na_NoPlace_place,k]
def xi_NoPlace(T:TX K mg a):XiB P w K mg base a.NoPlace 1 ["self","place"] (spNoPlace a):=
 T.xi_NoPlace.ok sc_NoPlace_init (λb H Q E h=>by let#[_,_,8,_]:=h;rfl) (b_NoPlace T)
abbrev NoPlaceE(a:Ad)(H:Hp)(n:Str)(E:XK):Prop:=∀H' dx,Same H H'->H' dx=some (.xd [("place",.str n)])->E (.ref a.NoPlace) (some dx) H'
def raise_np(hn:n.length<=1000)(k:NoPlaceE a H n E):([V.str n]:List V).length<=sizeLine/\
  ∀e,H e=none->spNoPlace a ((.ref e::[.str n])++[]) (upd H e (XI e a.NoPlace none)) (λv H2=>v=.non/\∃d,H2 e=some (XI e a.NoPlace d)/\E (.ref a.NoPlace) d (del H2 e)) E0:=by
 refine#[by rw[j1];show 1<=_;lia,λe m=>#[e,n,8,aC,hn,λc hd=>#[8,some c,?_,?_]]]
 ·have ne:c≠e:=λz=>by rw[z,aC]at hd;cases hd
  rw[aG (k7 ne),aC]
 ·have ne:c≠e:=λz=>by rw[z,aC]at hd;cases hd
  have i:H c=none:=by rw[aG ne]at hd;exact hd
  refine k _ c (λb o j=>?_) ?_
  ·have h:=aP j m;have l:=aP j i;unfold del;rw[if_neg h,aG l,aG h,aG h];exact j
  ·unfold del;rw[if_neg ne,aC]
end
end G
namespace G
open PySem L2
section
structure WayC(K:W.Frag)(C:Addr):Prop where
 cl:Cls K C
 n1:NoAttr K C "name"
 n2:NoAttr K C "start"
 n3:NoAttr K C "goal"
 n4:NoAttr K C "high"
 n5:NoAttr K C "cost"
def TX.wW(T:TX K mg a):WayC K a.Way:=#[T.cl_Way,T.na_Way_name,T.na_Way_start,T.na_Way_goal,T.na_Way_high,T.na_Way_cost]
def TX.wG(T:TX K mg a):WayC K a.Growing:=#[T.cl_Growing,T.na_Growing_name,T.na_Growing_start,T.na_Growing_goal,T.na_Growing_high,T.na_Growing_cost]
def TX.wL(T:TX K mg a):WayC K a.Leaking:=#[T.cl_Leaking,T.na_Leaking_name,T.na_Leaking_start,T.na_Leaking_goal,T.na_Leaking_high,T.na_Leaking_cost]
def TX.wS(T:TX K mg a):WayC K a.Store:=#[T.cl_Store,T.na_Store_name,T.na_Store_start,T.na_Store_goal,T.na_Store_high,T.na_Store_cost]
structure W5(fs:List (Str×V))(n s g:Str)(vh vc:V):Prop where
 nm:fs.lookup ("name":Str)=some (.str n)
 st:fs.lookup ("start":Str)=some (.str s)
 go:fs.lookup ("goal":Str)=some (.str g)
 hi:fs.lookup ("high":Str)=some vh
 co:fs.lookup ("cost":Str)=some vc
 ga:fs.lookup ("gain":Str)=none
 ou:fs.lookup ("out":Str)=none
 len:fs.length<=10
def W5.new:W5 (bI "cost" vc (bI "high" vh (bI "goal" (.str g) (bI "start" (.str s) (bI "name" (.str n) []))))) n s g vh vc:=by
 refine#[?_,?_,?_,?_,?_,?_,?_,?_]
 iterate 7
  simp only[eM]
  (repeat rw[if_neg (by decide+kernel)])
  try rw[if_pos rfl]
  try rfl
 ·have b:=cV "cost" vc (bI "high" vh (bI "goal" (.str g) (bI "start" (.str s) (bI "name" (.str n) []))));have c:=cV "high" vh (bI "goal" (.str g) (bI "start" (.str s) (bI "name" (.str n) [])));have d:=cV "goal" (.str g) (bI "start" (.str s) (bI "name" (.str n) []));have e:=cV "start" (.str s) (bI "name" (.str n) []);have a:=cV "name" (.str n) [];simp only[List.length_nil]at a
  lia
def W5.put(h:W5 fs n s g vh vc)(hf:f∈(["rate","loss"]:List Str))(hl:fs.length<=5):W5 (bI f v fs) n s g vh vc:=by
 have e:∀x∈(["name","start","goal","high","cost","gain","out"]:List Str),x≠f:=by
  intro x a z;subst z
  revert a hf
  simp only[jR,jV,lN];rintro(rfl|rfl|rfl|rfl|rfl|rfl|rfl)(h|h)<;>exact absurd h (by decide+kernel)
 have l:=cV f v fs;refine#[?_,?_,?_,?_,?_,?_,?_,4]<;>rw[eM,if_neg (e _ (by simp))]
 ·exact h.nm
 ·exact h.st
 ·exact h.go
 ·exact h.hi
 ·exact h.co
 ·exact h.ga
 ·exact h.ou
def bM(h:fs.length<=m):(bI f v fs).length<=m+1:=jK (cV f v fs) (Nat.succ_le_succ h)
def sgn_nn(h:0<=x.num):¬sgn x<0:=by
 unfold sgn
 repeat' split
 all_goals lia
def sgn_p(h:0<x.num):¬sgn x<=0:=by
 unfold sgn;rw[if_pos h];decide
abbrev HiOk(C:Addr)(H:Hp)(v:V):Prop:=v=.non∨∃(q:Addr)(x:Rat),v=.ref q/\FrAt C H q x/\0<=x.num
def HiOk.mono(h:HiOk C H v)(s:Same H H'):HiOk C H' v:=h.imp id (by rintro⟨q,x,e,f,z⟩;exact#[q,x,e,f.mono s,z])
abbrev CoIs(C:Addr)(H:Hp)(p:Addr)(vc vc':V):Prop:=(vc≠.non/\vc'=vc)∨(vc=.non/\∃q,vc'=.ref q/\q≠p/\FrAt C H q (Rat.divInt 0 1))
def CoIs.upd{C p:Addr}{H:Hp}{vc vc':V}{o:HO}(h:CoIs C H p vc vc'):CoIs C (upd H p o) p vc vc':=h.imp id λ⟨e,q,a,ne,b,f⟩=>#[e,q,a,ne,b,by rw[aG ne];exact f]
inductive IspWayN(K:W.Frag)(a:Ad)(vs:List V)(H:Hp)(Q:VK):Prop
 |mk(p C dx:Addr)(n s g:Str)(vh vc:V)(h1:vs=[.ref p,.str n,.str s,.str g,vh,vc])(h2:H p=some (.ins C dx []))(h3:WayC K C)(h4:s≠g)(h5:HiOk a.Fraction H vh)(h6:∀H' fs vc',W5 fs n s g vh vc'->fs.length<=5->CoIs a.Fraction H' p vc vc'->(∀b o,H b=some o->b≠p->H' b=some o)->H' p=some (.ins C dx fs)->Q .non H'):IspWayN K a vs H Q
abbrev spWayN(K:W.Frag)(a:Ad):Sp:=λvs H Q _=>IspWayN K a vs H Q
def b_Way(T:TX K mg a):i3 P w K mg base "Way.__init__" iS ["self","name","start","goal","high","cost"] 3 (spWayN K a):=by
 intro f I A y N H S Q E v h;let#[p,C,d,n,s,g,D,m,8,M,c,L,J,k]:=h
 refine#[_,(bH (aW (PW.pt (d9 (aK bL (pv 2) (pv 3) (aS _)) (dP (fO (cG (cD (CX:=CX0) (pv 0) v aL)))))) (aE cF) aJ)
   (bH (aW (PW.pt (d9 (aK fH (pv 4) cB (aS _)) (dP (aK iL (dQ T.fr (pv 4) (ip T) v aL) aF (aS _))))) (aE cF) aJ)
   (aB (cY (pv 0) (pv 1) rfl)
   (aB (cY (pv 0) (pv 2) rfl)
   (aB (cY (pv 0) (pv 3) rfl)
   (aB (cY (pv 0) (pv 4) rfl)
   (aE (cY (pv 0) (jn (aK op_isN (pv 5) cB (aS _)) (eT (mk1 T) v T.mg_Fraction aL (aA aF aD)) (pv 5)) rfl)))))))),?_]
 try dsimp only[bF,Cx.nox,Cx.wish]
 refine dX (λl t=>l=[some (.ref p),some (.str n),some (.str s),some (.str g),some D,some m]/\t=H) ?_ ?_
 ·walk_at"rd"
  refine aX (jI λz=>L (V.str.inj z)) ?_;walk_at"rd"
  first|exact⟨rfl,rfl⟩|exact rfl
 rintro R u l t⟨rfl,rfl⟩;subst u;refine#[λl j=>l=[some (.ref p),some (.str n),some (.str s),some (.str g),some D,some m]/\j=t,?_,?_]
 ·rcases J with rfl|⟨q,x,rfl,fq,hx⟩
  ·walk_at"rd"
   first|exact⟨rfl,rfl⟩|exact rfl
  ·walk_at"rd"
   refine aX (jI (sgn_nn hx)) ?_;first|exact⟨rfl,rfl⟩|exact rfl
 rintro l j⟨rfl,rfl⟩;refine#[9,9,p,C,d,[],8,M,c.cl,c.n1,5,?_];refine#[9,9,p,C,d,9,aC,c.cl,c.n2,j8 (bM (jJ 0)) (by decide),?_];refine#[9,9,p,C,d,9,aC,c.cl,c.n3,j8 (bM (bM (jJ 0))) (by decide),?_];refine#[9,9,p,C,d,9,aC,c.cl,c.n4,j8 (bM (bM (bM (jJ 0)))) (by decide),?_];simp only[i7];walk_at"rd"
 by_cases hc:m=.non
 ·refine bT (jL hc) ?_;walk_at"rd"
  refine#[5,sm1,λq O B F r=>?_];refine#[9,p,C,d,9,F _ _ aC,c.cl,c.n5,j8 (bM (bM (bM (bM (jJ 0))))) (by decide),?_];have i:q≠p:=λz=>by rw[z,aC]at B;cases B
  let#[G,r]:=r;refine k _ _ (.ref q) W5.new (bM (bM (bM (bM (bM (jJ 0)))))) (.inr #[hc,q,8,i,G,by rw[aG i];exact r]) (λb o e nb=>?_) aC;rw[aG nb];refine F _ _ ?_;rw[aG nb];exact e
 ·refine aX (jI hc) ?_;refine#[9,9,p,C,d,9,aC,c.cl,c.n5,j8 (bM (bM (bM (bM (jJ 0))))) (by decide),?_];rw[i7];refine k _ _ m W5.new (bM (bM (bM (bM (bM (jJ 0)))))) (.inl #[hc,8]) (λb o e nb=>?_) aC;rw[aG nb];exact e
def len_WayN:∀vs H Q E,spWayN K a vs H Q E->vs.length=(["self","name","start","goal","high","cost"]:List Str).length:=λvs H Q E h=>by
 let#[_,_,_,_,_,_,_,_,8,_]:=h;rfl
def cf_Way(T:TX K mg a):CfB P w K mg base CX0 a.Way "__init__" 4 ["self","name","start","goal","high","cost"] (spWayN K a):=T.c_Way.ok sc_Way_init len_WayN (b_Way T)
inductive IspPartN(K:W.Frag)(a:Ad)(f:Str)(ok:Rat->Prop)(vs:List V)(H:Hp)(Q:VK):Prop
 |mk(p C dx:Addr)(n s g:Str)(vh vc:V)(q:Addr)(x:Rat)(h1:vs=[.ref p,.str n,.str s,.str g,.ref q,vh,vc])(h2:H p=some (.ins C dx []))(h3:WayC K C)(h4:NoAttr K C f)(h5:s≠g)(h6:FrAt a.Fraction H q x)(h7:ok x)(h8:HiOk a.Fraction H vh)(h9:∀H' fs vc',W5 fs n s g vh vc'->fs.lookup f=some (.ref q)->CoIs a.Fraction H' p vc vc'->(∀b o,H b=some o->b≠p->H' b=some o)->H' p=some (.ins C dx fs)->Q .non H'):IspPartN K a f ok vs H Q
abbrev spPartN(K:W.Frag)(a:Ad)(f:Str)(ok:Rat->Prop):Sp:=λvs H Q _=>IspPartN K a f ok vs H Q
def len_PartN:∀vs H Q E,spPartN K a f ok vs H Q E->vs.length=(["self","name","start","goal",z,"high","cost"]:List Str).length:=λvs H Q E h=>by
 let#[_,_,_,_,_,_,_,_,_,_,8,_]:=h;rfl
nonrec abbrev growOk:Rat->Prop:=λx=>0<x.num
nonrec abbrev leakOk:Rat->Prop:=λx=>0<=x.num/\x<1/\SmR x
def b_Growing(T:TX K mg a):i3 P w K mg base "Growing.__init__" fe ["self","name","start","goal","rate","high","cost"] 4 (spPartN K a "rate" growOk):=by
 intro f u A i M H O Q E m h;let#[p,C,l,n,s,g,t,I,q,x,8,J,c,y,F,L,B,z,k]:=h
 refine#[_,(aB (aW (aK op_le (dQ T.fr (pv 4) (ip T) m aL) aF (aS _)) (aE cF) aJ)
   (aB (bG (pe_cf (cf_Way T) m T.mg_Way aL (aA (pv 0) (aA (pv 1) (aA (pv 2) (aA (pv 3) (aA (pv 5) (aA (pv 6) aD))))))))
   (aE (cY (pv 0) (pv 4) rfl)))),?_]
 try dsimp only[bF,Cx.nox,Cx.wish]
 walk_at"rd"
 refine aX (jI (sgn_p B)) ?_;refine#[9,9,9,9,9,9,p,C,l,n,s,g,t,I,8,J,c,F,z,λN fs d r j D G v=>?_];refine#[9,9,p,C,l,fs,8,v,c.cl,y,j8 j (by decide),?_];refine k _ _ d (r.put (by simp) j) ?_ D.upd (λb o e ne=>?_) aC
 ·rw[eM,if_pos rfl]
 ·rw[aG ne];exact G b o e ne
def mk_GrowingN(T:TX K mg a):∀dvs∈[[],[V.non,V.non]],MkB P w K mg base CX0 a.Growing 5 ["self","name","start","goal","rate","high","cost"] dvs (spPartN K a "rate" growOk):=T.i_Growing.ok sc_Growing_init len_PartN (b_Growing T)
def mk_Growing(T:TX K mg a):MkB P w K mg base CX0 a.Growing 5 ["self","name","start","goal","rate","high","cost"] [] (spPartN K a "rate" growOk):=mk_GrowingN T _ (by simp)
inductive Kd where
 |way
 |gro
 |lea
 |sto
abbrev Kd.n:Kd->Int
 |.way=>0
 |.gro=>1
 |.lea=>2
 |.sto=>3
abbrev Kd.C(a:Ad):Kd->Addr
 |.way=>a.Way
 |.gro=>a.Growing
 |.lea=>a.Leaking
 |.sto=>a.Store
abbrev Kd.f:Kd->Str
 |.gro=>"rate"
 |_=>"loss"
abbrev Kd.ok:Kd->Rat->Prop
 |.way=>λ_=>True
 |.gro=>growOk
 |_=>leakOk
abbrev ft:Kd->Rat->Rat
 |.way=>λ_=>1
 |.gro=>λx=>x
 |_=>λx=>1-x
structure WayAt(a:Ad)(H:Hp)(p:Addr)(kd:Kd)(n s g:Str)(vh vc:V)(q:Addr)(x:Rat):Prop where
 ob:∃dx fs,H p=some (.ins (kd.C a) dx fs)/\W5 fs n s g vh vc/\(kd≠.way->fs.lookup kd.f=some (.ref q))
 fq:kd≠.way->FrAt a.Fraction H q x
abbrev Stays(a:Ad)(H H':Hp):Prop:=∀b C dx fs,(C=a.Fraction∨∃kd:Kd,C=kd.C a)->H b=some (.ins C dx fs)->H' b=some (.ins C dx fs)
def Stays.of{a:Ad}(s:Same H H'):Stays a H H':=λb C c fs _ e=>s _ _ e
def Stays.fr{a:Ad}(k:Stays a H H')(h:FrAt a.Fraction H q x):FrAt a.Fraction H' q x:=by
 let#[dq,f]:=h;exact#[dq,k _ _ _ _ (.inl rfl) f]
def WayAt.keep{a:Ad}(h:WayAt a H p kd n s g vh vc q x)(k:Stays a H H'):WayAt a H' p kd n s g vh vc q x:=
 #[let⟨dx,fs,e,r⟩:=h.ob;#[dx,fs,k _ _ _ _ (.inr #[kd,8]) e,r],λz=>k.fr (h.fq z)]
def WayAt.mono{a:Ad}(h:WayAt a H p kd n s g vh vc q x)(ss:Same H H'):WayAt a H' p kd n s g vh vc q x:=h.keep (.of ss)
def Stays.put{a:Ad}(hd:H d=some o)(ho:∀C dx fs,o≠.ins C dx fs):Stays a H (upd H d o'):=λb C dx fs _ e=>by rw[aG (bK e hd (ho C dx fs).symm)];exact e
def eV(T:TX K mg a)(kd:Kd):WayC K (kd.C a):=by
 cases kd
 ·exact T.wW
 ·exact T.wG
 ·exact T.wL
 ·exact T.wS
def same_new(h1:H x=none)(h2:H dx=none)(h:∀b o,(upd (upd H dx (.own x)) x (.ins C dx [])) b=some o->b≠x->H' b=some o):Same H H':=by
 intro b o e;have a:=aP e h1;refine h b o ?_ a;rw[aG a,aG (aP e h2)];exact e
def same_two(h1:H x=none)(h2:H dx=none):Same H (upd (upd H dx (.own x)) x (.ins C dx [])):=by
 intro b o e;rw[aG (aP e h1),aG (aP e h2)];exact e
inductive IspGain(a:Ad)(kd:Kd)(vs:List V)(H:Hp)(Q:VK):Prop
 |mk(p:Addr)(n s g:Str)(vh vc:V)(q:Addr)(x:Rat)(h1:vs=[.ref p])(h2:WayAt a H p kd n s g vh vc q x)(h3:SmR x)(h4:∀r H',Same H H'->FrAt a.Fraction H' r (ft kd x)->Q (.ref r) H'):IspGain a kd vs H Q
abbrev gq(a:Ad)(kd:Kd):Sp:=λvs H Q _=>IspGain a kd vs H Q
def ju:∀vs H Q E,gq a kd vs H Q E->vs.length=(["self"]:List Str).length:=λvs H Q E h=>by
 let#[_,_,_,_,_,_,_,_,8,_]:=h;rfl
def gain_Way(T:TX K mg a):MtB P w K mg base CX0 a.Way "gain" 7 ["self"] (gq a .way):=by
 refine T.m_Way_gain.ok sc_Way_gain ju (λf e A b o H m Q E j h=>?_);let#[p,n,s,g,t,u,q,x,8,W,l,k]:=h;refine#[_,(aE (aM (eT (mk1 T) j T.mg_Fraction aL (aA aF aD)))),?_];try dsimp only[bF,Cx.nox,Cx.wish]
 walk_at"rd"
 exact#[5,sm1,λr d _ i c=>k r d i c]
def jy(T:TX K mg a):MtB P w K mg base CX0 a.Growing "gain" 7 ["self"] (gq a .gro):=by
 refine T.m_Growing_gain.ok sc_Growing_gain ju (λf e A b o H m Q E u h=>?_);let#[p,n,s,g,r,t,q,x,8,W,j,k]:=h;refine#[_,(aE (aM (bE (pv 0) rfl))),?_];try dsimp only[bF,Cx.nox,Cx.wish]
 let#[d,fs,i,l,c]:=W.ob;exact#[9,p,_,d,fs,9,i,T.wG.cl,T.na_Growing_rate,c (by nofun),k q H (Same.refl _) (W.fq (by nofun))]
def b_gainL(T:TX K mg a)(kd:Kd)(C:Addr)(hC:kd.C a=C)(hk:kd≠.way)(hf:kd.f="loss")(hg:∀x,ft kd x=1-x)(cl:Cls K C)(nl:NoAttr K C "loss"):i3 P w K mg base "Leaking.gain" d7 ["self"] 6 (gq a kd):=by
 intro f o A e F H J Q E j h;let#[p,n,s,g,I,O,q,x,8,W,L,k]:=h;refine#[_,(aE (aM (hO T.fr (eT (mk1 T) j T.mg_Fraction aL (aA aF aD)) (ok_minus T) j aL (aA (bE (pv 0) rfl) aD)))),?_];try dsimp only[bF,Cx.nox,Cx.wish]
 let#[N,fs,i,D,b]:=W.ob;have b:=b hk;rw[hf]at b;rw[hC]at i;walk_at"rd"
 refine#[5,sm1,λr G R c l=>?_];have v:Rat.divInt 1 1=1:=rfl;rw[v]at l;have M:SmR (1:Rat):=#[sm1,sm1];have z:=c _ _ i;have u:=(W.fq hk).mono c;walk_at"rd"
 intro B y t d m;refine k B y (c.trans d) ?_;rw[hg];exact m
def gain_Leaking(T:TX K mg a):MtB P w K mg base CX0 a.Leaking "gain" 7 ["self"] (gq a .lea):=T.m_Leaking_gain.ok gE ju (b_gainL T .lea _ rfl (by nofun) rfl (λ_=>rfl) T.wL.cl T.na_Leaking_loss)
def gain_Store(T:TX K mg a):MtB P w K mg base CX0 a.Store "gain" 7 ["self"] (gq a .sto):=T.m_Store_gain.ok gE ju (b_gainL T .sto _ rfl (by nofun) rfl (λ_=>rfl) T.wS.cl T.na_Store_loss)
def gain_any(T:TX K mg a)(kd:Kd):MtB P w K mg base CX0 (kd.C a) "gain" 7 ["self"] (gq a kd):=by
 cases kd
 ·exact gain_Way T
 ·exact jy T
 ·exact gain_Leaking T
 ·exact gain_Store T
inductive IspOut(a:Ad)(kd:Kd)(vs:List V)(H:Hp)(Q:VK):Prop
 |mk(p r:Addr)(n s g:Str)(vh vc:V)(q:Addr)(x y:Rat)(h1:vs=[.ref p,.ref r])(h2:WayAt a H p kd n s g vh vc q x)(h3:FrAt a.Fraction H r y)(h4:SmR x)(h5:SmR y)(h6:SmR (ft kd x))(h7:∀r' H',Same H H'->FrAt a.Fraction H' r' (y*ft kd x)->Q (.ref r') H'):IspOut a kd vs H Q
abbrev spOut(a:Ad)(kd:Kd):Sp:=λvs H Q _=>IspOut a kd vs H Q
def len_Out:∀vs H Q E,spOut a kd vs H Q E->vs.length=(["self","amount"]:List Str).length:=λvs H Q E h=>by
 let#[_,_,_,_,_,_,_,_,_,_,8,_]:=h;rfl
def b_out(T:TX K mg a)(kd:Kd):i3 P w K mg base "Way.out" eW ["self","amount"] 7 (spOut a kd):=by
 intro f m A b L H N Q E d h;let#[p,r,n,s,g,l,I,q,x,y,8,W,fr,B,v,G,k]:=h;refine#[_,(aE (aM (hO T.fr (pv 1) (ok_times T) d aL (aA (cD (CX:=CX0) (pv 0) d aL) aD)))),?_];try dsimp only[bF,Cx.nox,Cx.wish]
 let#[F,fs,u,e,J]:=W.ob;refine⟨_,rfl,r,y,rfl,fr,_,rfl,p,kd.C a,F,fs,7,["self"],gq a kd,rfl,u,e.ga,(eV T kd).cl,by decide,gain_any T kd,p,n,s,g,l,I,q,x,rfl,W,B,λt M c j=>?_⟩;exact#[r,t,y,9,fr.mono c,j,v,G,trivial,λi z _ D o=>k i z (c.trans D) o]
def out_any(T:TX K mg a)(kd:Kd):MtB P w K mg base CX0 (kd.C a) "out" 8 ["self","amount"] (spOut a kd):=by
 cases kd
 ·exact T.m_Way_out.ok gr len_Out (b_out T _)
 ·exact T.m_Growing_out.ok gr len_Out (b_out T _)
 ·exact T.m_Leaking_out.ok gr len_Out (b_out T _)
 ·exact T.m_Store_out.ok gr len_Out (b_out T _)
end
end G
namespace G
open PySem L2
section
structure WD where
 nm:Str
 st:Str
 go:Str
 kd:Kd
 x:Rat
 hi:Option Rat
 co:Rat
abbrev HiT(a:Ad)(H:Hp)(v:V):Option Rat->Prop
 |none=>v=.non
 |some x=>∃q,v=.ref q/\FrAt a.Fraction H q x
def HiT.mono(h:HiT a H v o)(s:Same H H'):HiT a H' v o:=by
 cases o with
 |none=>exact h
 |some x=>exact let⟨q,e,f⟩:=h;#[q,e,f.mono s]
def HiT.keep(h:HiT a H v o)(s:Stays a H H'):HiT a H' v o:=by
 cases o with
 |none=>exact h
 |some x=>exact let⟨q,e,f⟩:=h;#[q,e,s.fr f]
abbrev WayIs(a:Ad)(H:Hp)(v:V)(d:WD):Prop:=∃p vh vc q,v=.ref p/\WayAt a H p d.kd d.nm d.st d.go vh vc q d.x/\d.kd≠.sto/\(∃qc,vc=.ref qc/\FrAt a.Fraction H qc d.co)/\HiT a H vh d.hi
def WayIs.mono(h:WayIs a H v d)(s:Same H H'):WayIs a H' v d:=by
 let#[p,vh,vc,q,e,W,k,#[qc,ec,fc],hh]:=h;exact#[p,vh,vc,q,e,W.mono s,k,#[qc,ec,fc.mono s],hh.mono s]
abbrev RowAt{α:Type}(R:Hp->V->α->Prop)(H:Hp)(ts:List V)(xs:List α):Prop:=ts.length=xs.length/\∀(i:Nat)(t:V)(x:α),ts[i]?=some t->xs[i]?=some x->R H t x
def RowAt.mono(hR:∀v x,R H v x->R H' v x)(h:RowAt R H ts xs):RowAt R H' ts xs:=#[h.1,λi t x b a=>hR t x (h.2 i t x b a)]
def RowAt.nil:RowAt R H [] []:=#[8,λi t x h=>by simp at h]
def RowAt.snoc(d:RowAt R H ts xs)(hf:R H t x):RowAt R H (ts++[t]) (xs++[x]):=by
 refine#[by rw[j5,j5,d.1];rfl,λi u z a b=>?_];by_cases hi:i<ts.length
 ·rw[kS hi]at a;rw[kS (by rw[<-d.1];exact hi)]at b;exact d.2 i u z a b
 ·rw[kJ ()]at a;rw[kJ (by rw[<-d.1];lia),<-d.1]at b
  have c:i-ts.length=0:=by
   have:=(jH.mp a).1
   simp at this
   lia
  rw[c]at a b;simp at a b;subst a b;exact hf
def RowAt.get{i:Nat}(d:RowAt R H ts xs)(h:ts[i]?=some t):∃x,xs[i]?=some x/\R H t x:=by
 have hi:i<xs.length:=by rw[<-d.1];exact(jH.mp h).1
 exact#[xs[i],jF hi,d.2 i t _ h (jF hi)]
def RowAt.get'{i:Nat}(d:RowAt R H ts xs)(h:xs[i]?=some x):∃t,ts[i]?=some t/\R H t x:=by
 have hi:i<ts.length:=by rw[d.1];exact(jH.mp h).1
 exact#[ts[i],jF hi,d.2 i _ x (jF hi) h]
abbrev PlIs(a:Ad)(H:Hp)(v:V)(p:Str×Rat):Prop:=∃t q,v=.ref t/\H t=some (.tup [.str p.1,.ref q])/\FrAt a.Fraction H q p.2
def PlIs.mono(h:PlIs a H v p)(s:Same H H'):PlIs a H' v p:=by
 let#[t,q,e,h1,h2]:=h;exact#[t,q,e,s _ _ h1,h2.mono s]
def aI(h:H d=none):Same H (upd H d o):=λb u e=>by rw[aG (aP e h)];exact e
def uG{H:Hp}{e:Addr}{o:HO}(n:H e=none):∃H',upd H e o=H'/\Same H H'/\H' e=some o:=#[9,aI n,aC]
def bY(h:H d=none)(s:Same H H'):Same H (upd H' d o):=λb u e=>by rw[aG (aP e h)];exact s _ _ e
def i6[DecidableEq κ]{k:κ}(h:¬k∈kvs.map (·.1)):cR kvs k=none:=by
 cases e:cR kvs k with
 |none=>rfl
 |some v=>exact absurd (valV_in e) h
def val_some[DecidableEq κ]{k:κ}(h:k∈kvs.map (·.1)):∃v,cR kvs k=some v:=by
 cases e:cR kvs k with
 |none=>exact absurd h (valV_not e)
 |some v=>exact#[v,8]
abbrev WantsAt(a:Ad)(H:Hp)(d:Addr)(ps:List (Str×Rat)):Prop:=∃kvs,H d=some (.dK kvs)/\kvs.map (·.1)=ps.map (λp=>Sum.inr p.1)/\RowAt (λH v x=>∃q,v=.ref q/\FrAt a.Fraction H q x) H (kvs.map (·.2)) (ps.map (·.2))
def WantsAt.mono(h:WantsAt a H d ps)(s:Same H H'):WantsAt a H' d ps:=
 let⟨kvs,h1,h2,h3⟩:=h;#[kvs,s _ _ h1,h2,h3.mono (by rintro v x⟨q,e,f⟩;exact#[q,e,f.mono s])]
inductive IspWants(K:W.Frag)(a:Ad)(vs:List V)(H:Hp)(Q:VK):Prop
 |mk(l:Addr)(ts:List V)(ps:List (Str×Rat))(h1:vs=[.ref l])(h2:SqL K H l ts)(h3:RowAt (PlIs a) H ts ps)(h4:(ps.map (·.1)).Nodup)(h5:ps.length<=1000)(h6:∀d H',H d=none->Same H H'->WantsAt a H' d ps->Q (.ref d) H'):IspWants K a vs H Q
abbrev spWants(K:W.Frag)(a:Ad):Sp:=λvs H Q _=>IspWants K a vs H Q
def ok_wants_by_name(T:TX K mg a):FnB P w K mg base CX0 "wants_by_name" 1 ["places"] (spWants K a):=by
 refine T.d_wants_by_name.ok sc_wants_by_name (λvs H Q E h=>?_) (λf aa A M s H vs Q E W h=>?_)
 ·let#[_,_,_,8,_]:=h;rfl
 ·let#[l,ts,ps,8,O,X,nd,N,k]:=h
  refine#[_,(aB (aR (i:=1) sc_wants_by_name.nd rfl (Or.inl rfl) di)
   (aB (cS kl rfl (cU (pv 0)) (gx (n:=2) rfl (bJ (bD (i:=2) sc_wants_by_name.nd rfl (Or.inl rfl)) (bJ (bD (i:=3) sc_wants_by_name.nd rfl (Or.inl rfl)) dH))) (aB (aW (eC (pc_din (cA W) (pv 2) (pv 1))) (aE cF) aJ)
   (aE (dm (cA W) (pv 1) (pv 2) (pv 3) rfl))))
   (aE (aM (pv 1))))),?_]
  try dsimp only[bF,Cx.nox,Cx.wish]
  intro d c;have U:Same H (upd H d (.dK [])):=aI c;refine#[9,l,8,#[_,U.seq O],c8 (K:=K) (a:=l) (xs:=ts) (λi σ r=>i<=ps.length/\yE2 λI F=>σ=[some (.ref l),some (.ref d),I,F]×' Same H r×' WantsAt a r d (ps.take i)) #[jZ _,_,9,U,[],aC,8,RowAt.nil] ((by rintro i σ r _⟨_,_,_,_,u,_⟩;exact u.seq O)) ?_ ?_]
  ·rintro i t σ r Z⟨hi,I,F,rfl,u,b,hd,G,hv⟩;let#[p,y,t',q,8,h1,h2]:=X.get Z;have D:i<ps.length:=(jH.mp y).1
   have Y:¬(Sum.inr p.1:Key)∈b.map (·.1):=by
    rw[G];intro m;let#[p',J,e]:=j9.mp m;have e:p'.1=p.1:=Sum.inr.inj e;let#[j,B]:=kO.mp J
    have L:j<i:=by
     have:=(jH.mp B).1
     rw[kc]at this
     lia
    rw[List.getElem?_take,if_pos L]at B;have g1:(ps.map (·.1))[j]?=some p.1:=by rw[jM,B,lj,e]
    have g2:(ps.map (·.1))[i]?=some p.1:=by rw[jM,y,lj]
    have:=(List.getElem?_inj (by rw[jE];lia) nd).mp (g1.trans g2.symm)
    lia
   refine#[t',[.str p.1,.ref q],8,SqT.of (u _ _ h1),8,.str p.1,[.ref q],8,#[.ref q,[],8,#[8,?_]]];refine#[9,9,d,9,DGet.k (k:=Sum.inr p.1) hd,9,?_];rw[i6 Y];refine iteF ?_
   have hl:b.length=i:=by
    have:=kI List.length G
    rw[jE,jE,kc]at this
    lia
   refine#[9,9,9,d,9,DPut.k (k:=Sum.inr p.1) hd (bB ()),?_];rw[putK_new _ (i6 Y)];have R:=bY (o:=.dK (b++[(Sum.inr p.1,.ref q)])) c u;refine#[D,_,9,R,b++[(Sum.inr p.1,.ref q)],aC,?_,?_]
   ·rw[jY,G,j4,y,j6,jY];rfl
   ·rw[jY,j4,y,j6,jY];refine RowAt.snoc (hv.mono λv x⟨q',e,dq,f⟩=>#[q',e,dq,?_]) #[q,8,h2.mono R];rw[aG (bK f hd (by intro z;cases z))];exact f
  ·rintro σ r⟨_,I,F,rfl,u,S⟩;rw[X.1,ke]at S;exact#[9,k d r c u S]
inductive IspCheck(a:Ad)(vs:List V)(H:Hp)(Q:VK):Prop
 |mk(v:V)(d:WD)(da dw:Addr)(ka kw:List (Key×V))(h1:vs=[v,.ref da,.ref dw])(h2:WayIs a H v d)(h3:H da=some (.dK ka))(h4:H dw=some (.dK kw))(h5:¬(Sum.inr d.nm:Key)∈ka.map (·.1))(h6:(Sum.inr d.st:Key)∈kw.map (·.1))(h7:(Sum.inr d.go:Key)∈kw.map (·.1))(h8:∀H',Same H H'->Q .non H'):IspCheck a vs H Q
abbrev spCheck(a:Ad):Sp:=λvs H Q _=>IspCheck a vs H Q
def noStore(T:TX K mg a){kd:Kd}(h:kd≠.sto):PySem.W.kitOne K (.ref (kd.C a)) (.ref a.Store)=some false:=by
 cases kd
 ·exact T.k_Way_Store
 ·exact T.k_Growing_Store
 ·exact T.k_Leaking_Store
 ·exact absurd rfl h
def tyWay(T:TX K mg a){kd:Kd}(h:H p=some (.ins (kd.C a) dx fs)):TyOf K H (.ref p) (.ref (kd.C a)):=by
 have c:=(eV T kd).cl
 cases kd
 ·exact TyOf.ins h c T.c1_Way T.c2 T.c3 T.c4_Way
 ·exact TyOf.ins h c T.c1_Growing T.c2 T.c3 T.c4_Growing
 ·exact TyOf.ins h c T.c1_Leaking T.c2 T.c3 T.c4_Leaking
 ·exact TyOf.ins h c T.c1_Store T.c2 T.c3 T.c4_Store
def ok_check_way(T:TX K mg a):FnB P w K mg base CX0 "check_way" 1 ["way","ahead","wants"] (spCheck a):=by
 refine T.d_check_way.ok sc_check_way (λS H Q E h=>?_) (λf L A B s H S Q E I h=>?_)
 ·let#[_,_,_,_,_,_,8,_]:=h;rfl
 ·let#[v,d,F,G,ka,M,8,#[p,vh,vc,q,8,W,N],R,U,Y,J,Z,k]:=h
  refine#[_,(aB (aW (cG (bC (fu (c:=.ref a.Store)) (by rfl) T.z_isinstance jQ (aA (pv 0) (aA (cP (v:=.ref a.Store) (by rfl) T.mg_Store rfl) aD)))) (aE cF) aJ)
   (aB (aW (eC (pc_din (cA I) (bE (pv 0) rfl) (pv 1))) (aE cF) aJ)
   (aE (cS kl rfl (pi_tup (cH (aA (bE (pv 0) rfl) (aA (bE (pv 0) rfl) aD)))) (bD (i:=3) sc_check_way.nd rfl (Or.inl rfl)) (aE (aW (eC (cZ (cA I) (pv 3) (pv 2))) (aE cF) aJ)))))),?_]
  try dsimp only[bF,Cx.nox,Cx.wish]
  let#[r,fs,j,m,_]:=W.ob;have c:=eV T d.kd;refine#[9,_,_,_,9,(λu h=>h),tyWay T j,noStore T N.1,9,iteF ?_];refine#[9,p,_,r,fs,9,j,c.cl,c.n1,m.nm,9,F,9,DGet.k (k:=Sum.inr d.nm) R,9,?_];rw[i6 Y];refine iteF ?_;refine#[9,p,_,r,fs,9,j,c.cl,c.n2,m.st,9,p,_,r,fs,9,j,c.cl,c.n3,m.go,zL2,λt X=>?_];have D:=aI (o:=.tup [.str d.st,.str d.go]) X;refine#[t,8,#[_,SqT.of aC],for_tup (K:=K) (a:=t) (xs:=[.str d.st,.str d.go]) (λi σ l=>∃z,σ=[some (.ref p),some (.ref F),some (.ref G),z]/\l=upd H t (.tup [.str d.st,.str d.go])) #[9,8] ((by rintro i σ l _⟨_,_,e⟩;exact by rw[e];exact SqT.of aC)) ?_ ?_]
  ·rintro i x σ l b⟨z,rfl,rfl⟩
   have b:∃y,x=.str y/\(Sum.inr y:Key)∈M.map (·.1):=by
    match i,b with
    |0,b=>exact#[d.st,(kh b).symm,J]
    |1,b=>exact#[d.go,(kh b).symm,Z]
    |i+2,b=>simp at b
   let#[y,8,O]:=b;let#[u,hu]:=val_some O;refine#[9,9,G,9,DGet.k (k:=Sum.inr y) (D _ _ U),9,?_];rw[hu];exact iteF #[9,8]
  ·rintro σ l⟨z,rfl,rfl⟩;exact k _ D
abbrev WaysAt(a:Ad)(H:Hp)(d:Addr)(ds:List WD):Prop:=∃kvs,H d=some (.dK kvs)/\kvs.map (·.1)=ds.map (λx=>Sum.inr x.nm)/\RowAt (WayIs a) H (kvs.map (·.2)) ds
def WaysAt.mono(h:WaysAt a H d ds)(s:Same H H'):WaysAt a H' d ds:=
 let⟨kvs,h1,h2,h3⟩:=h;#[kvs,s _ _ h1,h2,h3.mono λv x z=>z.mono s]
inductive IspWaysBy(K:W.Frag)(a:Ad)(vs:List V)(H:Hp)(Q:VK):Prop
 |mk(l dw:Addr)(ts:List V)(ds:List WD)(ps:List (Str×Rat))(h1:vs=[.ref l,.ref dw])(h2:SqL K H l ts)(h3:RowAt (WayIs a) H ts ds)(h4:WantsAt a H dw ps)(h5:(ds.map (·.nm)).Nodup)(h6:ds.length<=1000)(h7:(∀d∈ds,d.st∈ps.map (·.1)/\d.go∈ps.map (·.1)))(h8:∀d H',H d=none->Same H H'->WaysAt a H' d ds->Q (.ref d) H'):IspWaysBy K a vs H Q
abbrev spWaysBy(K:W.Frag)(a:Ad):Sp:=λvs H Q _=>IspWaysBy K a vs H Q
def WayIs.keep(h:WayIs a H v x)(k:Stays a H H'):WayIs a H' v x:=by
 let#[p,vh,vc,q,e,W,hk,#[qc,ec,fc],hh]:=h;exact#[p,vh,vc,q,e,W.keep k,hk,#[qc,ec,k.fr fc],hh.keep k]
def WayIs.put(h:WayIs a H v x)(hd:H d=some (.dK kvs)):WayIs a (upd H d o) v x:=h.keep (.put hd (by intro _ _ _ z;cases z))
def nodup_take{α β:Type}{xs:List α}{f:α->β}{x:α}(nd:(xs.map f).Nodup)(e:xs[i]?=some x):¬f x∈(xs.take i).map f:=by
 intro m;let#[y,h,c]:=j9.mp m;let#[j,b]:=kO.mp h;have hi:=(jH.mp e).1
 have a:j<i:=by
  have:=(jH.mp b).1
  rw[kc]at this
  lia
 rw[List.getElem?_take,if_pos a]at b;have g1:(xs.map f)[j]?=some (f x):=by rw[jM,b,lj,c]
 have d:(xs.map f)[i]?=some (f x):=by rw[jM,e,lj]
 have:=(List.getElem?_inj (by rw[jE];lia) nd).mp (g1.trans d.symm)
 lia
def inr_mem{ns:List Str}:(Sum.inr n:Key)∈ns.map (λx=>(Sum.inr x:Key))↔n∈ns:=by
 constructor
 ·intro h;let#[y,a,e]:=j9.mp h;rw[<-Sum.inr.inj e];exact a
 ·exactλh=>j9.mpr #[n,h,8]
def ok_ways_by_name(T:TX K mg a):FnB P w K mg base CX0 "ways_by_name" 2 ["ways","wants"] (spWaysBy K a):=by
 refine T.d_ways_by_name.ok sc_ways_by_name (λvs H Q E h=>?_) (λf ab A S s H vs Q E hr h=>?_)
 ·let#[_,_,_,_,_,8,_]:=h;rfl
 ·let#[l,dw,ts,ds,ps,8,hS,hp,hw,nd,Z,L,k]:=h
  refine#[_,(aB (aR (i:=2) sc_ways_by_name.nd rfl (Or.inl rfl) di)
   (aB (cS kl rfl (cU (pv 0)) (bD (i:=3) sc_ways_by_name.nd rfl (Or.inl rfl)) (aB (bG (aZ (ok_check_way T) hr aL (aA (pv 3) (aA (pv 2) (aA (pv 1) aD)))))
   (aE (dm (cA hr) (pv 2) (bE (pv 3) rfl) (pv 3) rfl))))
   (aE (aM (pv 2))))),?_]
  try dsimp only[bF,Cx.nox,Cx.wish]
  intro d B;have s0:Same H (upd H d (.dK [])):=aI B;refine#[9,l,8,#[_,s0.seq hS],c8 (K:=K) (a:=l) (xs:=ts) (λi σ D=>i<=ds.length/\yE1 λO=>σ=[some (.ref l),some (.ref dw),some (.ref d),O]×' Same H D×' WaysAt a D d (ds.take i)) #[jZ _,9,s0,[],aC,8,RowAt.nil] ((by rintro i σ D _⟨_,_,_,m,_⟩;exact m.seq hS)) ?_ ?_]
  ·rintro i t σ D ht⟨hi,O,rfl,m,b,hd,R,hv⟩;let#[x,ex,X]:=hp.get ht;have M:i<ds.length:=(jH.mp ex).1
   have Y:¬(Sum.inr x.nm:Key)∈b.map (·.1):=by
    rw[R]
    have:=nodup_take (f:=λz:WD=>(Sum.inr z.nm:Key)) (by
     rw[show(λz:WD=>(Sum.inr z.nm:Key))=(λn=>(Sum.inr n:Key))∘(λz:WD=>z.nm) from rfl,<-kU];exact nd.map _ (λu v h e=>h (Sum.inr.inj e))) ex
    exact this
   let#[U,N,J,_]:=hw.mono m;let#[i1,i2]:=L x (jP ex);have j:U.map (·.1)=(ps.map (·.1)).map (λn=>(Sum.inr n:Key)):=by rw[J,kU];rfl
   refine#[9,9,9,t,x,d,dw,b,U,8,X.mono m,hd,N,Y,by rw[j];exact inr_mem.mpr i1,by rw[j];exact inr_mem.mpr i2,λH3 I=>?_];have r:=I _ _ hd;have F:=X.mono (m.trans I);let#[p,vh,vc,q,8,W,aa]:=id F;let#[dx,fs,ho,h5,_]:=W.ob;have c:=eV T x.kd
   have hl:b.length=i:=by
    have:=kI List.length R
    rw[jE,jE,kc]at this
    lia
   refine#[9,9,9,p,_,dx,fs,9,ho,c.cl,c.n1,h5.nm,d,9,DPut.k (k:=Sum.inr x.nm) r (bB ()),?_];rw[putK_new _ (i6 Y)];have s4:=bY (o:=.dK (b++[(Sum.inr x.nm,.ref p)])) B (m.trans I);refine#[M,9,s4,b++[(Sum.inr x.nm,.ref p)],aC,?_,?_]
   ·rw[jY,R,j4,ex,j6,jY];rfl
   ·rw[jY,j4,ex,j6];exact RowAt.snoc (hv.mono λv y z=>(z.mono I).put r) (F.put r)
  ·rintro σ D⟨_,O,rfl,m,G⟩;rw[hp.1,ke]at G;exact#[9,k d D B m G]
abbrev fsN(dw dy:Addr):List (Str×V):=[("wants",.ref dw),("ways",.ref dy)]
def fsN_new(dw dy:Addr):bI "ways" (.ref dy) (bI "wants" (.ref dw) [])=fsN dw dy:=by
 show(if("wants":Str)="ways"then _ else(("wants":Str),V.ref dw)::[(("ways":Str),V.ref dy)])=fsN dw dy;rw[if_neg (by decide+kernel)];rfl
def fsN_w(dw dy:Addr):(fsN dw dy).lookup ("wants":Str)=some (.ref dw):=rfl
def fsN_y(dw dy:Addr):(fsN dw dy).lookup ("ways":Str)=some (.ref dy):=by
 show List.lookup ("ways":Str) [(("wants":Str),V.ref dw),("ways",V.ref dy)]=_;rw[kC,show(("ways":Str)=="wants")=false by decide+kernel];rfl
def eP(dw dy:Addr){m:Str}(h1:(m=="wants")=false)(h2:(m=="ways")=false):(fsN dw dy).lookup m=none:=by
 show List.lookup m [(("wants":Str),V.ref dw),("ways",V.ref dy)]=_;rw[kC,h1,kC,h2];rfl
abbrev NetAt(a:Ad)(H:Hp)(p:Addr)(ps:List (Str×Rat))(ds:List WD):Prop:=∃dx dw dy,H p=some (.ins a.Net dx (fsN dw dy))/\WantsAt a H dw ps/\WaysAt a H dy ds
def NetAt.mono(h:NetAt a H p ps ds)(s:Same H H'):NetAt a H' p ps ds:=by
 let#[dx,dw,dy,e,h1,h2]:=h;exact#[dx,dw,dy,s _ _ e,h1.mono s,h2.mono s]
abbrev NetNew(a:Ad)(H H':Hp)(p:Addr)(ps:List (Str×Rat))(ds:List WD):Prop:=∃dx dw dy,H' p=some (.ins a.Net dx (fsN dw dy))/\WantsAt a H' dw ps/\WaysAt a H' dy ds/\H dw=none/\H dy=none
def NetNew.at_(h:NetNew a H H' p ps ds):NetAt a H' p ps ds:=by
 let#[dx,dw,dy,h1,h2,h3,_]:=h;exact#[dx,dw,dy,h1,h2,h3]
structure NetOk(ps:List (Str×Rat))(ds:List WD):Prop where
 np:(ps.map (·.1)).Nodup
 lp:ps.length<=12
 nd:(ds.map (·.nm)).Nodup
 ld:ds.length<=24
 io:∀d∈ds,d.st∈ps.map (·.1)/\d.go∈ps.map (·.1)
inductive IspNetI(K:W.Frag)(a:Ad)(vs:List V)(H:Hp)(Q:VK):Prop
 |mk(p dx lp lw:Addr)(tp tw:List V)(ps:List (Str×Rat))(ds:List WD)(h1:vs=[.ref p,.ref lp,.ref lw])(h2:H p=some (.ins a.Net dx []))(h3:SqL K H lp tp)(h4:RowAt (PlIs a) H tp ps)(h5:SqL K H lw tw)(h6:RowAt (WayIs a) H tw ds)(h7:NetOk ps ds)(h8:∀H',(∀b o,H b=some o->b≠p->H' b=some o)->NetNew a H H' p ps ds->Q .non H'):IspNetI K a vs H Q
abbrev spNetI(K:W.Frag)(a:Ad):Sp:=λvs H Q _=>IspNetI K a vs H Q
def WantsAt.ins(h:WantsAt a H d ps)(hp:H p=some (.ins C dx fs))(hC:C≠a.Fraction):WantsAt a (upd H p (.ins C dx gs)) d ps:=by
 let#[b,c,i,l]:=h;refine#[b,by rw[aG (bK c hp (by intro z;cases z))];exact c,i,l.mono λv x⟨q,e,j,f⟩=>#[q,e,j,?_]];rw[aG (bK f hp (by intro z;cases z;exact hC rfl))];exact f
def Stays.ins(hp:H p=some (.ins C dx fs))(hC:C≠a.Fraction/\∀kd:Kd,C≠kd.C a):Stays a H (upd H p (.ins C dx gs)):=λb j d i h e=>by
 rw[aG (bK e hp λz=>?_)]
 ·exact e
 ·have c:=(HO.ins.inj z).1;rcases h with rfl|⟨kd,rfl⟩
  ·exact hC.1 c.symm
  ·exact hC.2 kd c.symm
def WaysAt.ins(h:WaysAt a H d ds)(hp:H p=some (.ins C dx fs))(hC:C≠a.Fraction/\∀kd:Kd,C≠kd.C a):WaysAt a (upd H p (.ins C dx gs)) d ds:=by
 let#[b,c,e,i]:=h;exact#[b,by rw[aG (bK c hp (by intro z;cases z))];exact c,e,i.mono λv x z=>z.keep (.ins hp hC)]
def netC(T:TX K mg a):a.Net≠a.Fraction/\∀kd:Kd,a.Net≠kd.C a:=by
 have d:a.Net≠a.Fraction:=λe=>by
  have h:=T.na_Fraction_top;have c:=T.m_Fraction_sign;rw[<-e]at c;let#[f,b,_,#[m,_,_],_]:=c
  cases T.no_Net_sign.symm.trans m
 refine#[d,λkd e=>?_]
 have:=T.no_Net_may_stay
 cases kd
 ·let#[f,b,_,#[m,_,_],_]:=T.m_Way_may_stay;rw[show a.Way=a.Net from e.symm]at m
  cases this.symm.trans m
 ·let#[f,b,_,#[m,_,_],_]:=T.m_Growing_may_stay;rw[show a.Growing=a.Net from e.symm]at m
  cases this.symm.trans m
 ·let#[f,b,_,#[m,_,_],_]:=T.m_Leaking_may_stay;rw[show a.Leaking=a.Net from e.symm]at m
  cases this.symm.trans m
 ·let#[f,b,_,#[m,_,_],_]:=T.m_Store_may_stay;rw[show a.Store=a.Net from e.symm]at m
  cases this.symm.trans m
def mk_Net(T:TX K mg a):MkB P w K mg base CX0 a.Net 4 ["self","places","ways"] [] (spNetI K a):=by
 refine T.i_Net.ok sc_Net_init (λvs H Q E h=>?_) (λf aa A S s H vs Q E hr h=>?_) _ (by simp)
 ·let#[_,_,_,_,_,_,_,_,8,_]:=h;rfl
 ·let#[p,j,Z,U,J,l,ps,ds,8,F,hS,hP,Y,hW,ok,k]:=h
  refine#[_,(aB (aW (PW.pt (gL (aK op_gt (bC eY (by rfl) T.z_len lQ (aA (pv 1) aD)) (pe_gi T.gi_MOST_PLACES) (aS _)) (hF (aK op_gt (bC eY (by rfl) T.z_len lQ (aA (pv 2) aD)) (pe_gi T.gi_MOST_WAYS) (aS _))))) (aE cF) aJ)
   (aB (cY (pv 0) (aZ (ok_wants_by_name T) hr aL (aA (pv 1) aD)) rfl)
   (aE (cY (pv 0) (aZ (ok_ways_by_name T) hr aL (aA (pv 2) (aA (bE (pv 0) rfl) aD))) rfl)))),?_]
  try dsimp only[bF,Cx.nox,Cx.wish]
  have e1:(J.length:Int)<=12:=by have:=ok.lp;rw[<-hP.1]at this;lia
  have e2:(l.length:Int)<=24:=by have:=ok.ld;rw[<-hW.1]at this;lia
  refine#[9,Z,J,8,.inl hS,7,9,aX (jI ()) ?_];refine#[9,U,l,8,.inl Y,7,9,aX (jI ()) ?_];refine#[9,Z,J,ps,8,hS,hP,ok.np,jK ok.lp (by decide),λu X n1 I O=>?_];have r:=I _ _ F;refine#[9,p,a.Net,j,[],8,r,T.cl_Net,T.na_Net_wants,5,?_];have m:=netC T;generalize c:upd X p (.ins a.Net j (bI "wants" (.ref u) []))=q;have d:q p=some (.ins a.Net j (bI "wants" (.ref u) [])):=by rw[<-c];exact aC
  have t:WantsAt a q u ps:=by rw[<-c];exact O.ins r m.1
  have B:∀b o,H b=some o->b≠p->q b=some o:=λb o e ne=>by rw[<-c,aG ne];exact I _ _ e
  have N:SqL K q U l:=by
   rcases Y with(h|⟨o,h⟩)|h
   ·exact .inl (.inl (B _ _ h (bK h F (by intro z;cases z))))
   ·exact .inl (.inr #[o,B _ _ h (bK h F (by intro z;cases z))])
   ·exact .inr h
  have W:RowAt (WayIs a) q l ds:=hW.mono λv x z=>z.keep λb C' ab ac h e=>B _ _ e (bK e F λy=>by
   have ec:=(HO.ins.inj y).1;rcases h with rfl|⟨kd,rfl⟩
   ·exact m.1 ec.symm
   ·exact m.2 kd ec.symm)
  refine#[9,9,p,_,j,_,9,d,T.cl_Net,T.na_Net_wants,8,U,u,l,ds,ps,8,N,W,t,ok.nd,jK ok.ld (by decide),ok.io,λG H3 D M L=>?_];have i:=M _ _ d;refine#[9,p,a.Net,j,9,i,T.cl_Net,T.na_Net_ways,j8 (bM (jJ 0)) (by decide),?_];rw[fsN_new];refine k _ (λb o e ne=>?_) #[j,u,G,aC,(t.mono M).ins i m.1,L.ins i m,n1,?_]
  case refine_2=>
   have R:G≠p:=λz=>by rw[z,d]at D;cases D
   have:X G=none:=by rw[<-c,aG R]at D;exact D
   exact I.free this
  rw[aG ne];exact M _ _ (B _ _ e ne)
def WaysAt.get(h:WaysAt a H dy ds)(nd:(ds.map (·.nm)).Nodup)(hd:d∈ds):∃kvs v,H dy=some (.dK kvs)/\cR kvs (Sum.inr d.nm)=some v/\WayIs a H v d:=by
 let#[kvs,F,q,y]:=h;let#[i,hi]:=kO.mp hd;let#[t,l,A]:=y.get' hi;have E:=(jH.mp hi).1;rw[jM]at l
 cases e:kvs[i]? with
 |none=>rw[e]at l;cases l
 |some c=>
  rw[e]at l;have w:c.2=t:=kh l
  have r:c.1=Sum.inr d.nm:=by
   have g1:(kvs.map (·.1))[i]?=some c.1:=by rw[jM,e];rfl
   rw[q,jM,hi]at g1;exact(kh g1).symm
  refine#[kvs,t,F,?_,A];let#[v,b]:=val_some (kvs:=kvs) (k:=(Sum.inr d.nm:Key)) (j9.mpr #[c,jP e,r]);rw[b];unfold cR at b
  cases f:kvs.find? (λc=>decide (c.1=(Sum.inr d.nm:Key))) with
  |none=>rw[f]at b;cases b
  |some kv'=>
   rw[f]at b;have B:=List.find?_some f;have m:=List.mem_of_find?_eq_some f;let#[j,o]:=kO.mp m;have x:kv'.1=Sum.inr d.nm:=kG B
   have p:(kvs.map (·.1)).Nodup:=by
    rw[q,show(λz:WD=>(Sum.inr z.nm:Key))=(λn=>(Sum.inr n:Key))∘(λz:WD=>z.nm) from rfl,<-kU];exact nd.map _ (λu v h e=>h (Sum.inr.inj e))
   have g1:(kvs.map (·.1))[j]?=some (Sum.inr d.nm):=by rw[jM,o,lj,x]
   have D:(kvs.map (·.1))[i]?=some (Sum.inr d.nm):=by rw[jM,e,lj,r]
   have s:=(List.getElem?_inj (by rw[jE];exact(jH.mp o).1) p).mp (g1.trans D.symm);subst s;rw[o]at e
   cases e;rw[<-w];exact b.symm
inductive IspNetWay(a:Ad)(vs:List V)(H:Hp)(Q:VK):Prop
 |mk(p:Addr)(ps:List (Str×Rat))(ds:List WD)(d:WD)(h1:vs=[.ref p,.str d.nm])(h2:NetAt a H p ps ds)(h3:(ds.map (·.nm)).Nodup)(h4:d∈ds)(h5:∀v,WayIs a H v d->Q v H):IspNetWay a vs H Q
abbrev spNetWay(a:Ad):Sp:=λvs H Q _=>IspNetWay a vs H Q
def ok_Net_way(T:TX K mg a):MtB P w K mg base CX0 a.Net "way" 1 ["self","name"] (spNetWay a):=by
 refine T.m_Net_way.ok sc_Net_way (λo H Q E h=>?_) (λf t A b s H o Q E l h=>?_)
 ·let#[_,_,_,_,8,_]:=h;rfl
 ·let#[p,ps,ds,d,8,#[j,z,c,m,y,x],r,hd,k]:=h
  refine#[_,(aB (aW (eC (cZ (cA l) (pv 1) (bE (pv 0) rfl))) (aE cF) aJ)
   (aE (aM (fF (cA l) (bE (pv 0) rfl) (pv 1) (λ_ _=>rfl))))),?_]
  try dsimp only[bF,Cx.nox,Cx.wish]
  let#[q,v,i,e,u]:=x.get r hd;refine#[9,9,p,_,j,_,9,m,T.cl_Net,T.na_Net_ways,fsN_y _ _,c,9,DGet.k (k:=Sum.inr d.nm) i,9,?_];rw[e];refine iteF ?_;refine#[9,p,_,j,_,9,m,T.cl_Net,T.na_Net_ways,fsN_y _ _,9,c,v,8,?_,k v u];rw[<-e];exact DGet.k (k:=Sum.inr d.nm) i
end
end G
namespace G
open PySem L2
section
def Sm.of_le{a:Int}(h:a.natAbs<=2^n)(hn:n<9000):Sm a:=j8 h (Nat.pow_lt_pow_right (by decide) hn)
def tot_bd{T B o c u:Int}(hT:T.natAbs<=2^s)(hB:B.natAbs<=2^s)(ho:o.natAbs<=2^m)(hc:c.natAbs<=2^m)(hu:u.natAbs<=B.natAbs):
  (T*o+c*u).natAbs<=2^(s+(m+1))/\(B*o).natAbs<=2^(s+(m+1)):=by
 have e:2^(s+(m+1))=2^(s+m)*2:=by rw[<-Nat.add_assoc,Nat.pow_succ]
 constructor
 ·have a:(T*o).natAbs<=2^(s+m):=by rw[lB];exact dE hT ho
  have b:(c*u).natAbs<=2^(m+s):=by rw[lB];exact dE hc (jK hu hB)
  rw[Nat.add_comm m s]at b;have d:=Int.natAbs_add_le (T*o) (c*u)
  lia
 ·have a:(B*o).natAbs<=2^(s+m):=by rw[lB];exact dE hB ho
  lia
def TInv.le(I:TInv x T B s):s.natAbs<=B.natAbs:=by
 let#[a,ps,#[r,b,_],_]:=I
 have:=Int.le_of_dvd a #[r,b]
 omega
abbrev FrIs(a:Ad)(H:Hp)(v:V)(x:Rat):Prop:=∃q,v=.ref q/\FrAt a.Fraction H q x
def FrIs.mono(h:FrIs a H v x)(s:Same H H'):FrIs a H' v x:=by
 let#[q,e,f]:=h;exact#[q,e,f.mono s]
def FrIs.keep(h:FrIs a H v x)(s:KeepD H H'):FrIs a H' v x:=let⟨q,e,d,f⟩:=h;#[q,e,d,s _ _ f (by intro _ z;cases z) (by intro _ _ z;cases z)]
inductive IspTotal(K:W.Frag)(a:Ad)(vs:List V)(H:Hp)(Q:VK):Prop
 |mk(l:Addr)(ts:List V)(xs:List Rat)(N:Nat)(h1:vs=[.ref l])(h2:SqL K H l ts)(h3:RowAt (FrIs a) H ts xs)(h4:BdS xs N)(h5:N<9000)(h6:∀(r:Addr)(H':Hp),H r=none->Same H H'->FrAt a.Fraction H' r xs.sum->Q (.ref r) H'):IspTotal K a vs H Q
abbrev spTotal(K:W.Frag)(a:Ad):Sp:=λvs H Q _=>IspTotal K a vs H Q
def ok_total(T:TX K mg a):FnB P w K mg base CX0 "total" 5 ["some"] (spTotal K a):=by
 refine T.d_total.ok sc_total (λvs H Q E h=>?_) (λf aa A O s H vs Q E x h=>?_)
 ·let#[_,_,_,_,8,_]:=h;rfl
 ·let#[l,ts,xs,N,8,W,fs,bd,hN,k]:=h;let#[S,S0,G,S2]:=bd.fn
  refine#[_,(aB (aR (i:=1) sc_total.nd rfl (Or.inl rfl) aF)
   (aB (aR (i:=2) sc_total.nd rfl (Or.inl rfl) aF)
   (aB (aR (i:=3) sc_total.nd rfl (Or.inl rfl) aF)
   (aB (cS kl rfl (cU (pv 0)) (bD (i:=4) sc_total.nd rfl (Or.inl rfl)) (aB (aR (i:=5) sc_total.nd rfl (Or.inl rfl) (aZ (dC T) x aL (aA (pv 2) (aA (df T.fr (pv 4)) aD))))
   (aB (aR (i:=6) sc_total.nd rfl (Or.inl rfl) (aQ bZ (df T.fr (pv 4)) (pv 5)))
   (aB (aR (i:=1) sc_total.nd rfl (Or.inl rfl) (aQ fP (aQ dR (pv 1) (pv 6)) (aQ dR (dJ T.fr (pv 4)) (aQ bZ (pv 2) (pv 5)))))
   (aB (aR (i:=2) sc_total.nd rfl (Or.inl rfl) (aQ dR (pv 2) (pv 6)))
   (aE (aR (i:=3) sc_total.nd rfl (Or.inl rfl) (aQ dR (pv 3) (aQ bZ (pv 5) (aZ (dC T) x aL (aA (pv 3) (aA (pv 5) aD))))))))))))
   (aB (aR (i:=7) sc_total.nd rfl (Or.inl rfl) (aZ (dC T) x aL (aA (pv 1) (aA (pv 3) aD))))
   (aE (aM (aZ (dh T) x aL (aA (aQ bZ (pv 1) (pv 7)) (aA (aQ bZ (pv 2) (pv 7)) aD)))))))))),?_]
  try dsimp only[bF,Cx.nox,Cx.wish]
  refine#[9,l,8,#[_,W],c8 (K:=K) (a:=l) (xs:=ts) (λi σ v=>i<=xs.length/\yE7 λ(t b s:Int)(M L B J:Option V)=>σ=[some (.ref l),some (.int t),some (.int b),some (.int s),M,L,B,J]×' v=H×' TInv (xs.take i).sum t b s×' t.natAbs<=2^(S i)×' b.natAbs<=2^(S i))
   #[jZ _,0,1,1,_,_,7,TInv.zero,jZ _,by rw[S0];decide] ((by rintro i σ v _⟨_,_,_,_,_,_,_,_,_,e,_⟩;exact by rw[e];exact W)) ?_ ?_]
  ·rintro i u σ v hu⟨_,t,b,s,M,L,B,J,rfl,rfl,I,o,d⟩;have hi:i<xs.length:=by rw[<-fs.1];exact(jH.mp hu).1
   have ex:xs[i]?=some xs[i]:=jF hi;let#[n,c,bs]:=S2 i _ ex;generalize xs[i]=y at ex c;let#[p,8,D]:=fs.2 i u _ hu ex;have si:=G i ();have ab:=G (i+1) ();have j:n<9000:=by lia
   have U:((y.den:Int)).natAbs<=2^n:=by rw[kH];exact c.2
   have F:Sm (y.den:Int):=Sm.of_le U j;have R:=c7 b (den_ne y);have cs:=Sm.gcd_r b (den_ne y) F;have st:Sm t:=Sm.of_le o ();have m:Sm b:=Sm.of_le d ();have yp:=den_pos y;have z:((y.den:Int).fdiv (gcd b y.den)).natAbs<=(y.den:Int).natAbs:=fL _ R ();have X:(b.fdiv (gcd b y.den)).natAbs<=b.natAbs:=fL _ R (Int.le_of_lt I.pB);have ss:Sm s:=m.le I.le;have Z:=c7 s (b:=gcd b y.den) ();have q:=Sm.gcd_r s (b:=gcd b y.den) () cs;have lc:((gcd b y.den).fdiv (gcd s (gcd b y.den))).natAbs<=(gcd b y.den).natAbs:=fL _ Z ();have tb:=tot_bd o d (jK z U) c.1 X;refine#[9,9,p,y,8,D,_,9,?_];refine#[9,p,y,8,D,9,7,#[4,cs],?_];refine#[9,9,7,#[st,F.le z],9,p,y,8,D,9,9,7,#[4,cs],7,#[Sm.of_le c.1 j,m.le X],7,?_];refine#[9,9,7,#[m,F.le z],?_];refine#[9,9,9,9,_,9,7,#[4,q],7,#[ss,cs.le lc],?_];refine#[hi,_,_,_,_,_,7,?_,jK tb.1 (hG bs),jK tb.2 (hG bs)];rw[j4,ex,j6,sum_snoc];exact I.step
  ·rintro σ v⟨_,t,b,s,M,L,B,J,rfl,rfl,I,o,d⟩;rw[fs.1]at I o d;rw[ke]at I;have sl:=G _ (jJ _);have m:Sm b:=Sm.of_le d ();have Y:s≠0:=by have:=I.ps;lia
   have Z:=c7 t Y;have q:=Sm.gcd_r t Y (m.le I.le);let#[e1,e2]:=I.fin;refine#[9,9,_,9,?_];refine#[9,9,7,#[4,q],9,9,7,#[4,q],_,9,λr dx H' nr s1 h1=>k r H' nr s1 #[dx,?_]];rw[h1,e1,e2]
end
end G
namespace G
open PySem L2
section
def sgn_zero:sgn x=0↔x=0:=by
 unfold sgn;constructor
 ·intro h
  have:x.num=0:=by
   split at h
   ·cases h
   ·split at h
    ·cases h
    ·lia
  exact Rat.num_eq_zero.mp this
 ·rintro rfl;rfl
abbrev fz(f:Str->Rat)(ks:List Str):List Str:=ks.filter (λn=>decide (f n≠0))
def some0_snoc(f:Str->Rat)(ks:List Str)(n:Str):fz f (ks++[n])=if f n=0 then fz f ks else fz f ks++[n]:=by
 unfold fz;rw[List.filter_append];by_cases h:f n=0
 ·rw[if_pos h];simp[h]
 ·rw[if_neg h];simp[h]
inductive IspNoughts(a:Ad)(vs:List V)(H:Hp)(Q:VK):Prop
 |mk(d:Addr)(kvs:List (Key×V))(ks:List Str)(f:Str->Rat)(h1:vs=[.ref d])(h2:H d=some (.dK kvs))(h3:Tab (FrIs a) H kvs ks f)(h4:ks.Nodup)(h5:ks.length<=900)(h6:∀r H' kvs',H r=none->Same H H'->H' r=some (.dK kvs')->Tab (FrIs a) H' kvs' (fz f ks) f->Q (.ref r) H'):IspNoughts a vs H Q
abbrev spNoughts(a:Ad):Sp:=λvs H Q _=>IspNoughts a vs H Q
def iW(T:TX K mg a):FnB P w K mg base CX0 "without_noughts" 5 ["plan"] (spNoughts a):=by
 refine T.d_without_noughts.ok sc_without_noughts (λvs H Q E h=>?_) (λf ad A ac s H vs Q E hr h=>?_)
 ·let#[_,_,_,_,8,_]:=h;rfl
 ·let#[d,kvs,L,f,8,hd,tb,nd,hl,k]:=h
  refine#[_,(aB (aR (i:=1) sc_without_noughts.nd rfl (Or.inl rfl) di)
   (aB (il (cS kl rfl (f9 (pv 0)) (gx (n:=2) rfl (bJ (bD (i:=2) sc_without_noughts.nd rfl (Or.inl rfl)) (bJ (bD (i:=3) sc_without_noughts.nd rfl (Or.inl rfl)) dH))) (aE (aW (aK iK (dQ T.fr (pv 3) (ip T) hr aL) aF (aS _)) (aE (dm (cA hr) (pv 1) (pv 2) (pv 3) rfl)) aJ))))
   (aE (aM (pv 1))))),?_]
  try dsimp only[bF,Cx.nox,Cx.wish]
  intro r W;have U:Same H (upd H r (.dK [])):=aI W;have u:=U _ _ hd;have O:upd H r (.dK []) r=some (.dK []):=aC;have J:=tb.mono λv x z=>z.mono U;generalize upd H r (.dK [])=H0 at U u O J⊢;have G:d≠r:=λz=>by rw[z,W]at hd;cases hd
  refine#[d,.dK kvs,u,(by intro o z e;cases e),9,d,kvs,8,u,λo=>?_]
  refine gf (a:=d) (o:=o) (kvs:=kvs) (λi σ p=>i<=L.length/\yE3 λz2 Z c=>σ=[some (.ref d),some (.ref r),z2,Z]×' p d=some (.frz o (.dK kvs))×'(∀b I,H b=some I->b≠d->p b=some I)×' KeepD H0 p×' p r=some (.dK c)×' Tab (FrIs a) p c (fz f (L.take i)) f)
   #[jZ _,_,_,[],8,aC,(λb I e ne=>by rw[aG ne];exact U _ _ e),KeepD.put u,by rw[aG G.symm];exact O,Tab.nil] ((by rintro i σ p _⟨_,_,_,_,_,h,_⟩;exact h)) ?_ ?_
  ·rintro i kv t σ p X nt⟨_,z2,Z,c,rfl,N,R,S,B,j⟩;let#[n,en,e1,ev,q,eq,fq]:=J.at_ nd X;have hi:i<L.length:=(jH.mp en).1;have ab:kV kv.1=.str n:=by rw[e1];rfl
   rw[ab,eq];let#[Y,zq,l,ht]:=uG (o:=.tup [.str n,.ref q]) nt;rw[zq]
   have D:FrAt a.Fraction Y q (f n):=by
    let#[q',e',f']:=FrIs.keep #[q,8,fq] (S.trans (.of l))
    cases e';exact f'
   let#[tk,nk]:=take_next nd en;refine#[t,[.str n,.ref q],8,SqT.of ht,8,.str n,[.ref q],8,#[.ref q,[],8,#[8,?_]]];have fr:=D;refine#[9,q,9,D,?_];walk_at"rd"
   by_cases hz:f n=0
   ·refine aX (by rw[sgn_zero.mpr hz];rfl) ?_;refine#[hi,_,_,c,8,l _ _ N,(λb I e ne=>l _ _ (R _ _ e ne)),S.trans (.of l),l _ _ B,?_];rw[tk,some0_snoc,if_pos hz];exact j.mono λv x z=>z.mono l
   ·refine bT (by
     rw[jI (λz=>hz (sgn_zero.mp (V.int.inj z)))];rfl) ?_
    have M:=l _ _ B;have aa:¬n∈fz f (L.take i):=λz=>nk (kL.mp z).1
    have ls:c.length<=900:=by
     rw[j.len];have h1:=kN (λn=>decide (f n≠0)) (L.take i);rw[kc]at h1;unfold fz
     lia
    refine#[9,9,9,r,9,DPut.k (k:=Sum.inr n) M (bB ()),?_];have F:KeepD Y (upd Y r (.dK (bX c (Sum.inr n) (.ref q)))):=KeepD.put M;refine#[hi,_,_,9,by rw[aG G];exact l _ _ N,(λb I e ne=>?_),(S.trans (.of l)).trans F,aC,?_]
    ·rw[aG (aP e W)];exact l _ _ (R _ _ e ne)
    ·rw[tk,some0_snoc,if_neg hz,<-addK_new aa];refine(Tab.put (j.mono λv x z=>(z.mono l).keep F) (y:=f n) (FrIs.keep #[q,8,D] F)).congr λm _=>?_;unfold upf
     split
     ·rename_i e;rw[e]
     ·rfl
  ·rintro σ p⟨_,z2,Z,c,rfl,N,R,S,B,j⟩;rw[tb.len,ke]at j;refine#[o,N,9,k r _ c W (λb I e=>?_) (by rw[aG G.symm];exact B) (j.mono λv x z=>z.keep (.frz N))];by_cases hb:b=d
   ·subst hb;rw[aC,<-hd,e]
   ·rw[aG hb];exact R _ _ e hb
end
end G
namespace G
open PySem L2
section
abbrev NetOff(a:Ad)(H:Hp)(p d:Addr)(ps:List (Str×Rat))(ds:List WD):Prop:=∃H0,NetAt a H0 p ps ds/\Same H0 H/\H0 d=none
def NetOff.mono(h:NetOff a H p d ps ds)(s:Same H H'):NetOff a H' p d ps ds:=by
 let#[H0,n,s0,e]:=h;exact#[H0,n,s0.trans s,e]
def NetOff.at_(h:NetOff a H p d ps ds):NetAt a H p ps ds:=by
 let#[_,n,s0,_]:=h;exact n.mono s0
def NetOff.but(h:NetOff a H p d ps ds)(k:∀b ob,H b=some ob->b≠d->H' b=some ob):NetOff a H' p d ps ds:=by
 let#[H0,n,s0,e]:=h;exact#[H0,n,λb ob x=>k b ob (s0 b ob x) (aP x e),e]
inductive IspNNames(a:Ad)(vs:List V)(H:Hp)(Q:VK):Prop
 |mk(p:Addr)(ps:List (Str×Rat))(ds:List WD)(h1:vs=[.ref p])(h2:NetAt a H p ps ds)(h3:∀l,H l=none->Q (.ref l) (upd H l (.lst (ps.map λx=>V.str x.1)))):IspNNames a vs H Q
abbrev gT(a:Ad):Sp:=λvs H Q _=>IspNNames a vs H Q
def eU(T:TX K mg a):MtB P w K mg base CX0 a.Net "names" 1 ["self"] (gT a):=by
 refine T.m_Net_names.ok sc_Net_names (λd H Q E h=>?_) (λf r A c s H d Q E t h=>?_)
 ·let#[_,_,_,8,_]:=h;rfl
 ·let#[p,ps,ds,8,#[o,m,y,q,#[b,v,i,z],B],k]:=h;refine#[_,(aE (aM (bW (call_list_dict t.hd) (by rfl) T.z_list lz (aA (bE (pv 0) rfl) aD)))),?_];try dsimp only[bF,Cx.nox,Cx.wish]
  refine#[9,p,_,o,_,9,q,T.cl_Net,T.na_Net_wants,fsN_w _ _,m,b,8,.inl v,λl j=>?_]
  have e:(b.map λu=>kV u.1)=ps.map λx=>V.str x.1:=by
   have:=kI (List.map kV) i
   rw[kU,kU]at this;exact this
  rw[e];exact k l j
inductive IspNAll(a:Ad)(vs:List V)(H:Hp)(Q:VK):Prop
 |mk(p:Addr)(ps:List (Str×Rat))(ds:List WD)(h1:vs=[.ref p])(h2:NetAt a H p ps ds)(h3:∀l H' ts,H l=none->Same H H'->H' l=some (.lst ts)->RowAt (WayIs a) H' ts ds->Q (.ref l) H'):IspNAll a vs H Q
abbrev spNAll(a:Ad):Sp:=λvs H Q _=>IspNAll a vs H Q
def dS(T:TX K mg a):MtB P w K mg base CX0 a.Net "all_ways" 1 ["self"] (spNAll a):=by
 refine T.m_Net_all_ways.ok sc_Net_all_ways (λq H Q E h=>?_) (λf y A e s H q Q E B h=>?_)
 ·let#[_,_,_,8,_]:=h;rfl
 ·let#[p,ps,ds,8,#[r,J,c,u,I,#[b,i,G,D]],k]:=h;refine#[_,(aE (aM (bW (ii B.hd) (by rfl) T.z_list lz (aA (pe_bm0 kF PySem.F.slot_dict_values PySem.F.type_dict_values mt_values (bE (pv 0) rfl)) aD)))),?_];try dsimp only[bF,Cx.nox,Cx.wish]
  refine#[9,p,_,r,_,9,u,T.cl_Net,T.na_Net_ways,fsN_y _ _,(.inr (.inr (.inl #[8,.inl #[b,i]]))),c,b,8,8,.inl i,λv t=>?_];have d:=aI (o:=iQ v c) t;refine#[v,c,b,8,aC,.inl (d _ _ i),λl m=>?_];have j:=d.trans (aI (o:=.lst (b.map (·.2))) m);exact k l _ _ (d.free m) j aC (D.mono λv x z=>z.mono j)
abbrev aO(ks:List Str)(f:Str->Rat)(n:Str):Rat:=if n∈ks then f n else 0
inductive IspAmount(a:Ad)(vs:List V)(H:Hp)(Q:VK):Prop
 |mk(d:Addr)(kvs:List (Key×V))(ks:List Str)(f:Str->Rat)(n:Str)(h1:vs=[.ref d,.str n])(h2:Rd H d (.dK kvs))(h3:Tab (FrIs a) H kvs ks f)(h4:∀q H',Same H H'->FrAt a.Fraction H' q (aO ks f n)->Q (.ref q) H'):IspAmount a vs H Q
abbrev spAmount(a:Ad):Sp:=λvs H Q _=>IspAmount a vs H Q
def iq(T:TX K mg a):FnB P w K mg base CX0 "amount" 5 ["plan","name"] (spAmount a):=by
 refine T.d_amount.ok sc_amount (λp H Q E h=>?_) (λf x A j s H p Q E m h=>?_)
 ·let#[_,_,_,_,_,8,_]:=h;rfl
 ·let#[d,b,u,f,n,8,hd,tb,k]:=h;refine#[_,(aE (aM (pe_dget2 (cA m) (pv 0) (pv 1) (eT (mk1 T) m T.mg_Fraction aL (aA aF aD)) #[8,8,8,8]))),?_];try dsimp only[bF,Cx.nox,Cx.wish]
  refine#[9,d,8,.inl #[b,hd],9,0,1,8,5,sm1,λz i nz c l=>?_];have e:Rd i d (.dK b):=hd.imp (λh=>c _ _ h) (by rintro⟨o,h⟩;exact#[o,c _ _ h]);refine#[cR b (Sum.inr n),.inl #[b,Sum.inr n,e,8,8],?_];unfold aO at k;by_cases hn:n∈u
  ·let#[v,t,q,8,r]:=tb.vals n hn;rw[t];rw[if_pos hn]at k;exact k q i c (r.mono c)
  ·rw[tb.none hn];rw[if_neg hn]at k;rw[Rat.zero_divInt]at l;exact k z i c l
abbrev sumStep(A:Str->Rat)(F:Str->Rat)(d:WD):Str->Rat:=upf (upf F d.st (F d.st-A d.nm)) d.go (F d.go+A d.nm*ft d.kd d.x)
abbrev c9(A:Str->Rat)(ds:List WD):Str->Rat:=ds.foldl (sumStep A) (λ_=>0)
def sumF_snoc(A:Str->Rat)(ds:List WD)(d:WD):c9 A (ds++[d])=sumStep A (c9 A ds) d:=by unfold c9;rw[List.foldl_append];rfl
structure SumOk(A:Str->Rat)(ps:List (Str×Rat))(ds:List WD):Prop where
 np:(ps.map (·.1)).Nodup
 lp:ps.length<=900
 io:∀d∈ds,d.st∈ps.map (·.1)/\d.go∈ps.map (·.1)
 ne:∀d∈ds,d.st≠d.go
 sx:∀d∈ds,SmR d.x/\SmR (ft d.kd d.x)
 sa:∀d∈ds,SmR (A d.nm)/\SmR (A d.nm*ft d.kd d.x)
 sf:∀i s,SmR (c9 A (ds.take i) s)
inductive IspSumsOwn(a:Ad)(vs:List V)(H:Hp)(Q:VK):Prop
 |mk(p d:Addr)(ps:List (Str×Rat))(ds:List WD)(kvs:List (Key×V))(ks:List Str)(f:Str->Rat)(h1:vs=[.ref p,.ref d])(h2:NetAt a H p ps ds)(h3:H d=some (.dK kvs))(h4:Tab (FrIs a) H kvs ks f)(h5:SumOk (aO ks f) ps ds)(h6:∀r H' kvr,H r=none->Same H H'->H' r=some (.dK kvr)->Tab (FrIs a) H' kvr (ps.map (·.1)) (c9 (aO ks f) ds)->Q (.ref r) H'):IspSumsOwn a vs H Q
abbrev spSumsOwn(a:Ad):Sp:=λvs H Q _=>IspSumsOwn a vs H Q
def eR(T:TX K mg a):FnB P w K mg base CX0 "sums_of_own_ways" 9 ["net","plan"] (spSumsOwn a):=by
 refine T.d_sums_of_own_ways.ok sc_sums_of_own_ways (λvs H Q E h=>?_) (λf ay A ax s H vs Q E I h=>?_)
 ·let#[_,_,_,_,_,_,_,8,_]:=h;rfl
 ·let#[p,d,ps,ds,ap,ks,f,8,hn,hd,tb,ok,k]:=h
  refine#[_,(aB (aR (i:=2) sc_sums_of_own_ways.nd rfl (Or.inl rfl) di)
   (bH (cS kl rfl (cU (cD (CX:=CX0) (pv 0) I aL)) (bD (i:=3) sc_sums_of_own_ways.nd rfl (Or.inl rfl)) (aE (dm (cA I) (pv 2) (pv 3) (eT (mk1 T) I T.mg_Fraction aL (aA aF aD)) rfl)))
   (aB (cS kl rfl (cU (cD (CX:=CX0) (pv 0) I aL)) (bD (i:=4) sc_sums_of_own_ways.nd rfl (Or.inl rfl)) (aB (aR (i:=5) sc_sums_of_own_ways.nd rfl (Or.inl rfl) (aZ (iq T) I aL (aA (pv 1) (aA (bE (pv 4) rfl) aD))))
   (aB (dm (cA I) (pv 2) (bE (pv 4) rfl) (hO T.fr (fF (cA I) (pv 2) (bE (pv 4) rfl) (λ_ _=>rfl)) (ok_minus T) I aL (aA (pv 5) aD)) rfl)
   (aE (dm (cA I) (pv 2) (bE (pv 4) rfl) (hO T.fr (fF (cA I) (pv 2) (bE (pv 4) rfl) (λ_ _=>rfl)) (ok_plus T) I aL (aA (eD (CX:=CX0) (pv 4) I aL (aA (pv 5) aD)) aD)) rfl)))))
   (aE (aM (pv 2)))))),?_]
  try dsimp only[bF,Cx.nox,Cx.wish]
  intro r nr;have s0:Same H (upd H r (.dK [])):=aI nr;have aj:upd H r (.dK []) r=some (.dK []):=aC;generalize upd H r (.dK [])=H0 at s0 aj⊢;refine dX (λσ' H'=>yE4 λU S R j=>σ'=[some (.ref p),some (.ref d),some (.ref r),U,S,R]×' Same H H'×' H' r=some (.dK j)×' Tab (FrIs a) H' j (ps.map (·.1)) (λ_=>0)) ?_ ?_
  ·let#[dx,dw,dy,hp,hw,hy]:=hn.mono s0;refine#[9,p,a.Net,dx,_,1,["self"],gT a,8,hp,eP _ _ (by decide+kernel) (by decide+kernel),T.cl_Net,5,eU T,p,ps,ds,8,#[dx,dw,dy,hp,hw,hy],λl nl=>?_];let#[H1,zq,s1,hl]:=uG (o:=.lst (ps.map λx=>V.str x.1)) nl;rw[zq];have lr:l≠r:=λz=>by rw[z,aj]at nl;cases nl
   refine#[l,8,#[_,SqL.of hl],c8 (K:=K) (a:=l) (xs:=ps.map λx=>V.str x.1) (λi σ X=>i<=ps.length/\yE4 λU S R j=>σ=[some (.ref p),some (.ref d),some (.ref r),U,S,R]×' Same H X×' X l=some (.lst (ps.map λx=>V.str x.1))×' X r=some (.dK j)×' Tab (FrIs a) X j ((ps.map (·.1)).take i) (λ_=>0))
    #[jZ _,_,_,_,[],8,s0.trans s1,hl,s1 _ _ aj,Tab.nil] ((by rintro i σ X _⟨_,_,_,_,_,_,_,h,_⟩;exact SqL.of h)) ?_ ?_]
   ·rintro i t σ X ht⟨hi,U,S,R,j,rfl,s2,M,Y,tr⟩;rw[jM]at ht
    cases ex:ps[i]? with
    |none=>rw[ex]at ht;cases ht
    |some x=>
     rw[ex]at ht
     cases ht;have ad:=(jH.mp ex).1;have en:(ps.map (·.1))[i]?=some x.1:=by rw[jM,ex];rfl
     let#[tk,nk]:=take_next ok.np en;refine#[0,1,8,5,sm1,λz F nz L f3=>?_];rw[Rat.zero_divInt]at f3
     have lk:j.length<=900:=by
      rw[tr.len,kc,jE]
      have:=ok.lp
      lia
     refine#[9,9,r,9,DPut.k (k:=Sum.inr x.1) (L _ _ Y) (bB ()),?_];have kp:KeepD F (upd F r (.dK (bX j (Sum.inr x.1) (.ref z)))):=KeepD.put (L _ _ Y);refine#[ad,_,_,_,9,bY nr (s2.trans L),by rw[aG lr];exact L _ _ M,aC,?_];rw[tk,<-addK_new nk];refine(Tab.put (n:=x.1) (tr.mono λv x z=>(z.mono L).keep kp) (y:=0) (FrIs.keep #[z,8,f3] kp)).congr λm _=>?_;unfold upf
     split<;>rfl
   ·rintro σ X⟨_,U,S,R,j,rfl,s2,M,Y,tr⟩;rw[jE]at tr;rw[show ps.length=(ps.map (·.1)).length by rw[jE],ke]at tr;exact#[_,_,_,j,8,s2,Y,tr]
  rintro zU ao σ' H1⟨U,S,R,j,rfl,s1,au,tr⟩;let#[dx,dw,dy,hp,hw,hy]:=hn.mono s1;subst ao;refine#[9,p,a.Net,dx,_,1,["self"],spNAll a,8,hp,eP _ _ (by decide+kernel) (by decide+kernel),T.cl_Net,5,dS T,p,ps,ds,8,#[dx,dw,dy,hp,hw,hy],λl X ts nl s2 M hv=>?_]
  refine#[l,8,#[_,SqL.of M],c8 (K:=K) (a:=l) (xs:=ts) (λi σ F=>i<=ds.length/\yE4 λU S R j=>σ=[some (.ref p),some (.ref d),some (.ref r),U,S,R]×' Same H F×' KeepD X F×' F r=some (.dK j)×' Tab (FrIs a) F j (ps.map (·.1)) (c9 (aO ks f) (ds.take i)))
   #[jZ _,_,_,_,j,8,s1.trans s2,.of (Same.refl _),s2 _ _ au,tr.mono λv x z=>z.mono s2] ((by rintro i σ F _⟨_,_,_,_,_,_,_,kp,_⟩;exact SqL.of (kp _ _ M (by intro _ z;cases z) (by intro _ _ z;cases z)))) ?_ ?_]
  ·rintro i t σ F ht⟨hi,U,S,R,j,rfl,L,kp,N,u⟩;let#[y,ey,wy]:=hv.get ht;have ad:=(jH.mp ey).1;have my:=jP ey;have av:WayIs a F t y:=wy.keep λb C dx fs _ e=>kp _ _ e (by intro _ z;cases z) (by intro _ _ z;cases z);let#[p1,vh,vc,q1,8,W,hk]:=av;let#[ag,aa,ho,h5,_]:=id W.ob;have c:=eV T y.kd;let#[i1,i2]:=ok.io y my;let#[a1,a2]:=ok.sa y my;let#[x1,x2]:=ok.sx y my;have an:=ok.ne y my
   have lk:j.length<=900:=by
    rw[u.len,jE];exact ok.lp
   refine#[9,9,p1,_,ag,aa,9,ho,c.cl,c.n1,h5.nm,d,ap,ks,f,y.nm,8,.inl (L _ _ hd),tb.mono (λv x z=>z.mono L),λq H4 s4 f4=>?_];have ar:=s4 _ _ ho;let#[v1,aq,r1,8,ak]:=(u.mono λv x z=>z.mono s4).vals _ i1;refine#[9,9,p1,_,ag,aa,9,ar,c.cl,c.n2,h5.st,r,9,.inl #[j,Sum.inr y.st,.inl (s4 _ _ N),8,aq.symm],r1,9,ak,9,r1,q,_,9,ak,f4,ok.sf i _,a1,True.intro,λr2 H5 az s5 f5=>?_];have B:=s4.trans s5;refine#[9,9,p1,_,ag,aa,9,B _ _ ho,c.cl,c.n2,h5.st,r,9,DPut.k (k:=Sum.inr y.st) (B _ _ N) (bB ()),?_];have G:KeepD H5 (upd H5 r (.dK (bX j (Sum.inr y.st) (.ref r2)))):=KeepD.put (B _ _ N);have O:=Tab.put (n:=y.st) (u.mono λv x z=>(z.mono B).keep G) (FrIs.keep #[r2,8,f5] G);have s6:=bY (o:=.dK (bX j (Sum.inr y.st) (.ref r2))) nr (L.trans B);have J:upd H5 r (.dK (bX j (Sum.inr y.st) (.ref r2))) r=some (.dK (bX j (Sum.inr y.st) (.ref r2))):=aC;have as:(bX j (Sum.inr y.st:Key) (.ref r2)).length<=901:=jK (ic _ _ _) ();generalize bX j (Sum.inr y.st) (.ref r2)=am at G O s6 J as⊢;generalize upd H5 r (.dK am)=H6 at G O s6 J⊢;rw[show eO (ps.map (·.1)) y.st=ps.map (·.1) from if_pos i1]at O;have Z:KeepD F H6:=(KeepD.of B).trans G;have W6:=W.keep λb C dx fs _ e=>Z _ _ e (by intro _ z;cases z) (by intro _ _ z;cases z);let#[ae,ah,ab,ac,_]:=id W6.ob;let#[q6,e6,f6]:=FrIs.keep #[q,8,f4] ((KeepD.of s5).trans G)
   cases e6;let#[v7,aw,r7,8,af]:=O.vals _ i2;rw[eZ (k7 an)]at af;refine⟨_,rfl,_,rfl,p1,_,ae,ah,_,rfl,ab,c.cl,c.n3,ac.go,r,_,rfl,.inl #[_,Sum.inr y.go,.inl J,8,aw.symm],r7,_,rfl,af,_,rfl,p1,_,ae,ah,8,["self","amount"],spOut a y.kd,rfl,ab,ac.ou,c.cl,by decide,out_any T y.kd,_,rfl,p1,q,y.nm,y.st,y.go,vh,vc,q1,y.x,_,rfl,W6,f6,x1,a1,x2,λr8 H7 s7 f7=>?_⟩;refine#[r7,r8,_,9,af.mono s7,f7,ok.sf i _,a2,True.intro,λr9 H8 a0 s8 f8=>?_];have D:=s7.trans s8;refine#[9,9,p1,_,ae,ah,9,D _ _ ab,c.cl,c.n3,ac.go,r,9,DPut.k (k:=Sum.inr y.go) (D _ _ J) (bB ()),?_];have ai:KeepD H8 (upd H8 r (.dK (bX am (Sum.inr y.go) (.ref r9)))):=KeepD.put (D _ _ J);have al:=Tab.put (n:=y.go) (O.mono λv x z=>(z.mono D).keep ai) (FrIs.keep #[r9,8,f8] ai);rw[show eO (ps.map (·.1)) y.go=ps.map (·.1) from if_pos i2]at al;refine#[ad,_,_,_,9,bY nr (s6.trans D),((kp.trans Z).trans (.of D)).trans ai,aC,?_];rw[j4,ey,j6,sumF_snoc];exact al
  ·rintro σ F⟨_,U,S,R,j,rfl,L,kp,N,u⟩;rw[hv.1,ke]at u;exact#[9,k r F j nr L N u]
inductive IspRefO(a:Ad)(vs:List V)(H:Hp)(Q:VK):Prop
 |mk(p d:Addr)(ps:List (Str×Rat))(ds:List WD)(kvs:List (Key×V))(ks:List Str)(f:Str->Rat)(h1:vs=[.ref p,.ref d])(h2:NetOff a H p d ps ds)(h3:(ds.map (·.nm)).Nodup)(h4:H d=some (.dK kvs))(h5:Tab (FrIs a) H kvs ks f)(h6:ks.Nodup)(h7:(∀n∈ks,n∈ds.map (·.nm)))(h8:∀H',Same H H'->Q .non H'):IspRefO a vs H Q
abbrev spRefO(a:Ad):Sp:=λvs H Q _=>IspRefO a vs H Q
def gQ(T:TX K mg a):FnB P w K mg base CX0 "refuse_other_names" 2 ["net","plan"] (spRefO a):=by
 refine T.d_refuse_other_names.ok sc_refuse_other_names (λM H Q E h=>?_) (λf G A u s H M Q E U h=>?_)
 ·let#[_,_,_,_,_,_,_,8,_]:=h;rfl
 ·let#[p,d,ps,ds,kvs,Y,f,8,F,O,hd,tb,m,sub,k]:=h;refine#[_,(aE (il (cS kl rfl (pi_dict (pv 1)) (bD (i:=2) sc_refuse_other_names.nd rfl (Or.inl rfl)) (aE (bG (eD (CX:=CX0) (pv 0) U aL (aA (pv 2) aD))))))),?_];try dsimp only[bF,Cx.nox,Cx.wish]
  refine#[d,.dK kvs,hd,(by intro o z e;cases e),9,d,kvs,8,hd,λo=>?_]
  refine for_dict (a:=d) (o:=o) (kvs:=kvs) (λi σ c=>yE1 λz=>σ=[some (.ref p),some (.ref d),z]×' c d=some (.frz o (.dK kvs))×'∀b l,H b=some l->b≠d->c b=some l)
   #[9,aC,λb l e ne=>by rw[aG ne];exact e] ((by rintro i σ c _⟨_,_,h,_⟩;exact h)) ?_ ?_
  ·rintro i W σ c q⟨z,rfl,t,j⟩;let#[n,N,I,X,_]:=tb.at_ m q;have r:kV W.1=.str n:=by rw[I];rfl
   rw[r];let#[y,L,8]:=j9.mp (sub n (jP N));let#[x,S,D,B,R,J]:=(F.but j).at_;refine#[9,p,a.Net,x,_,1,["self","name"],spNetWay a,8,B,eP _ _ (by decide+kernel) (by decide+kernel),T.cl_Net,5,ok_Net_way T,9,p,ps,ds,y,8,#[x,S,D,B,R,J],O,L,λv _=>?_];exact#[9,t,j]
  ·rintro σ c⟨z,rfl,t,j⟩;refine#[o,t,k _ λb l e=>?_];by_cases hb:b=d
   ·subst hb;rw[aC,<-hd,e]
   ·rw[aG hb];exact j _ _ e hb
inductive IspSums(a:Ad)(vs:List V)(H:Hp)(Q:VK):Prop
 |mk(p d:Addr)(ps:List (Str×Rat))(ds:List WD)(kvs:List (Key×V))(ks:List Str)(f:Str->Rat)(h1:vs=[.ref p,.ref d])(h2:NetOff a H p d ps ds)(h3:(ds.map (·.nm)).Nodup)(h4:H d=some (.dK kvs))(h5:Tab (FrIs a) H kvs ks f)(h6:ks.Nodup)(h7:(∀n∈ks,n∈ds.map (·.nm)))(h8:SumOk (aO ks f) ps ds)(h9:∀r H' kvr,H r=none->Same H H'->H' r=some (.dK kvr)->Tab (FrIs a) H' kvr (ps.map (·.1)) (c9 (aO ks f) ds)->Q (.ref r) H'):IspSums a vs H Q
abbrev spSums(a:Ad):Sp:=λvs H Q _=>IspSums a vs H Q
def ok_sums(T:TX K mg a):FnB P w K mg base CX0 "sums" 10 ["net","plan"] (spSums a):=by
 refine T.d_sums.ok sc_sums (λy H Q E h=>?_) (λf t A l s H y Q E q h=>?_)
 ·let#[_,_,_,_,_,_,_,8,_]:=h;rfl
 ·let#[p,d,ps,ds,c,o,f,8,m,B,hd,tb,e,sub,ok,k]:=h
  refine#[_,(aB (bG (aZ (gQ T) q aL (aA (pv 0) (aA (pv 1) aD))))
   (aE (aM (aZ (eR T) q aL (aA (pv 0) (aA (pv 1) aD)))))),?_]
  try dsimp only[bF,Cx.nox,Cx.wish]
  refine#[9,9,p,d,ps,ds,c,o,f,8,m,B,hd,tb,e,sub,λI b=>?_];exact#[9,9,p,d,ps,ds,c,o,f,8,(m.mono b).at_,b _ _ hd,tb.mono (λv x z=>z.mono b),ok,λr u i G D j F=>k r u i (b.free G) (b.trans D) j F]
end
end G
namespace G
open PySem L2
section
inductive IspWorth(a:Ad)(vs:List V)(H:Hp)(Q:VK):Prop
 |mk(p d:Addr)(ps:List (Str×Rat))(ds:List WD)(kvs:List (Key×V))(ks:List Str)(f co:Str->Rat)(N:Nat)(h1:vs=[.ref p,.ref d])(h2:NetOff a H p d ps ds)(h3:(ds.map (·.nm)).Nodup)(h4:H d=some (.dK kvs))(h5:Tab (FrIs a) H kvs ks f)(h6:ks.Nodup)(h7:ks.length<=900)(h8:(∀n∈ks,n∈ds.map (·.nm)))(h9:(∀x∈ds,x.co=co x.nm))(h10:(∀n∈ks,SmR (f n)/\SmR (co n)))(h11:BdS (ks.map λn=>co n*f n) N)(h12:N<9000)(h13:∀r H',H r=none->Same H H'->FrAt a.Fraction H' r (ks.map λn=>co n*f n).sum->Q (.ref r) H'):IspWorth a vs H Q
abbrev spWorth(a:Ad):Sp:=λvs H Q _=>IspWorth a vs H Q
def ok_worth(T:TX K mg a):FnB P w K mg base CX0 "worth" 6 ["net","plan"] (spWorth a):=by
 refine T.d_worth.ok sc_worth (λvs H Q E h=>?_) (λf ah A ag s H vs Q E hr h=>?_)
 ·let#[_,_,_,_,_,_,_,_,_,8,_]:=h;rfl
 ·let#[p,d,ps,ds,kvs,ks,f,co,N,8,hn,nd,hd,tb,U,hl,sub,Z,sm,bN,hN,k]:=h
  refine#[_,(aE (aM (aZ (ok_total T) hr aL (aA (pe_thaw (fj (xs:=["name","part"]) (rest:=["net"]) rfl (f9 (pv 1))
   (λB fp C' s' H'=>by exact(jm (K:=K) (n:=2) rfl rfl (bJ (bD (i:=0) (show(["name","part","net"]:List Str).Nodup by decide+kernel) rfl (Or.inl rfl)) (bJ (bD (i:=1) (show(["name","part","net"]:List Str).Nodup by decide+kernel) rfl (Or.inl rfl)) dH)))) (λB fp C' s' H'=>by exact fE)
   (λB fp C' s' H'=>by exact(hO T.fr (pe_fldK (K:=K) rfl (pe_mtDK (CX:=CX0) (P:=P) (w:=w) (K:=K) (mg:=mg) (base:=base) rfl rfl rfl rfl rfl (pv 2) hr aL (aA (pv 0) aD)) rfl) (ok_times T) hr aL (aA (pv 1) aD)))
   (Clos.many (ys:=["net"]) rfl #[8,True.intro] rfl (by decide+kernel)) (Reads.many (ys:=["net"]) (js:=[0]) #[#[8,8,8],True.intro]))) aD)))),?_]
  try dsimp only[bF,Cx.nox,Cx.wish]
  refine#[d,.dK kvs,hd,(by intro o z e;cases e),9,d,kvs,8,hd,λo l O=>?_];have j:d≠l:=λz=>by rw[z,aC]at O;cases O
  have J:H l=none:=by rw[aG j.symm]at O;exact O
  refine compG_items (a:=d) (o:=o) (kvs:=kvs) (λi c=>i<=ks.length×' c d=some (.frz o (.dK kvs))×'(∀b M,H b=some M->b≠d->c b=some M)×'∃u,c l=some (.lst u)/\RowAt (FrIs a) c u ((ks.take i).map λn=>co n*f n))
   #[jZ _,by rw[aG j,aC],(λb M e ne=>by rw[aG (aP e J),aG ne];exact e),[],aC,RowAt.nil] ((by rintro i c⟨_,h,_⟩;exact h)) ?_ ?_
  ·rintro i kv t c aa nt⟨_,S,I,u,D,G⟩zs hz;let#[n,R,e1,ev,q,eq,fq]:=tb.at_ U aa;have hi:i<ks.length:=(jH.mp R).1;have ae:kV kv.1=.str n:=by rw[e1];rfl
   rw[ae,eq];let#[H3,zq,F,ht]:=uG (o:=.tup [.str n,.ref q]) nt;rw[zq]
   match zs,hz with
   |[z1,z2],_=>
    have af:=(hn.but I).mono F;let#[y,my,ey]:=j9.mp (sub n (jP R));let#[dx,dw,dy,hp,hw,hy]:=af.at_;let#[sm1,sm2]:=sm n (jP R)
    have X:FrAt a.Fraction H3 q (f n):=by
     let#[dq,g]:=fq;exact#[dq,F _ _ (I _ _ g (bK g hd (by intro z;cases z)))]
    refine#[t,[.str n,.ref q],8,SqT.of ht,8,.str n,[.ref q],8,#[.ref q,[],8,#[8,#[[_,_],8,8],yes ?_]]];refine#[9,p,a.Net,dx,_,1,["self","name"],spNetWay a,8,hp,eP _ _ (by decide+kernel) (by decide+kernel),T.cl_Net,5,ok_Net_way T,9,p,ps,ds,y,by rw[ey];rfl,#[dx,dw,dy,hp,hw,hy],nd,my,λv hx=>?_];let#[p',vh,vc,q',8,W,hk,#[qc,8,fc],_]:=hx;let#[ad,ab,Y,ac,_]:=W.ob;have c':=eV T y.kd;rw[Z y my,ey]at fc;refine#[p',_,ad,ab,9,Y,c'.cl,c'.n5,ac.co,qc,9,fc,9,qc,q,_,9,fc,X,sm2,sm1,True.intro,λr H4 nr s4 f4=>?_];have m:=F.trans s4;have L:=m _ _ D;have ai:u.length=i:=by rw[G.1,jE,kc];lia
    refine#[_,L,bB (),gM (by rw[tb.len];exact hi) #[hi,by rw[aG j];exact m _ _ S,(λb M e ne=>by rw[aG (aP e J)];exact m _ _ (I _ _ e ne)),_,aC,?_]];rw[j4,R,j6,jY];have ko:∀v x,FrIs a H4 v x->FrIs a (upd H4 l (.lst (u++[.ref r]))) v x:=(by rintro v x⟨q,e,dq,g⟩;exact#[q,e,dq,by rw[aG (bK g L (by intro z;cases z))];exact g]);exact RowAt.snoc (G.mono λv x z=>ko v x (z.mono m)) (ko _ _ #[r,8,f4])
  ·rintro c⟨_,S,I,u,D,G⟩;rw[tb.len,ke]at G
   have s2:Same H (upd c d (.dK kvs)):=λb M e=>by
    by_cases hb:b=d
    ·subst hb;rw[aC,<-hd,e]
    ·rw[aG hb];exact I _ _ e hb
   refine#[o,S,l,u,_,N,8,SqL.of (show upd c d (.dK kvs) l=some (.lst u) by rw[aG j.symm];exact D),G.mono λv x z=>z.keep (.frz S),bN,hN,λr H3 nr F f3=>k r H3 (s2.free nr) (s2.trans F) f3]
end
end G
namespace G
open PySem L2
section
def kv_at[DecidableEq κ]:∀{kvs:List (κ×V)}{i:Nat}{kv:κ×V},(kvs.map (·.1)).Nodup->kvs[i]?=some kv->cR kvs kv.1=some kv.2
 |[],_,_,_,e=>by simp at e
 |p::r,0,kv,_,e=>by
  simp at e;subst e;exact cM rfl
 |p::r,i+1,kv,nd,e=>by
  have e:r[i]?=some kv:=by simpa using e
  let#[a,b]:=lL.mp (show(p.1::r.map (·.1)).Nodup from nd);rw[cI λz=>a (by rw[z];exact j9.mpr #[kv,jP e,8])];exact kv_at b e
def WantsAt.at_{i:Nat}(h:WantsAt a H dw ps)(nd:(ps.map (·.1)).Nodup)(hi:ps[i]?=some p):∃kvs q,H dw=some (.dK kvs)/\cR kvs (Sum.inr p.1)=some (.ref q)/\FrAt a.Fraction H q p.2:=by
 let#[kvs,r,d,o]:=h;let#[t,b,q,8,l]:=o.get' (i:=i) (x:=p.2) (by rw[jM,hi];rfl);rw[jM]at b
 cases e:kvs[i]? with
 |none=>rw[e]at b;cases b
 |some kv=>
  rw[e]at b;have j:kv.2=.ref q:=kh b
  have m:kv.1=Sum.inr p.1:=by
   have g1:(kvs.map (·.1))[i]?=some kv.1:=by rw[jM,e];rfl
   rw[d,jM,hi]at g1;exact(kh g1).symm
  have c:(kvs.map (·.1)).Nodup:=by
   rw[d,show(λz:Str×Rat=>(Sum.inr z.1:Key))=(λn=>(Sum.inr n:Key))∘(λz:Str×Rat=>z.1)from rfl,<-kU];exact nd.map _ (λu v h e=>h (Sum.inr.inj e))
  refine#[kvs,q,r,?_,l];rw[<-m,<-j];exact kv_at c e
inductive IspNWant(a:Ad)(vs:List V)(H:Hp)(Q:VK):Prop
 |mk(p:Addr)(ps:List (Str×Rat))(ds:List WD)(i:Nat)(n:Str)(x:Rat)(h1:vs=[.ref p,.str n])(h2:NetAt a H p ps ds)(h3:(ps.map (·.1)).Nodup)(h4:ps[i]?=some (n,x))(h5:∀q,FrAt a.Fraction H q x->Q (.ref q) H):IspNWant a vs H Q
abbrev spNWant(a:Ad):Sp:=λvs H Q _=>IspNWant a vs H Q
def ok_Net_want(T:TX K mg a):MtB P w K mg base CX0 a.Net "want" 1 ["self","place"] (spNWant a):=by
 refine T.m_Net_want.ok sc_Net_want (λt H Q E h=>?_) (λf o A b s H t Q E l h=>?_)
 ·let#[_,_,_,_,_,_,8,_]:=h;rfl
 ·let#[p,ps,ds,i,n,x,8,#[j,e,z,d,y,B],v,hi,k]:=h
  refine#[_,(aB (aW (eC (cZ (cA l) (pv 1) (bE (pv 0) rfl))) (aE cF) aJ)
   (aE (aM (fF (cA l) (bE (pv 0) rfl) (pv 1) (λ_ _=>rfl))))),?_]
  try dsimp only[bF,Cx.nox,Cx.wish]
  let#[u,q,m,c,r]:=y.at_ v hi;refine#[9,9,p,_,j,_,9,d,T.cl_Net,T.na_Net_wants,fsN_w _ _,e,9,DGet.k (k:=Sum.inr n) m,9,?_];rw[c];refine iteF ?_;refine#[9,p,_,j,_,9,d,T.cl_Net,T.na_Net_wants,fsN_w _ _,9,e,.ref q,8,?_,k q r];rw[<-c];exact DGet.k (k:=Sum.inr n) m
end
end G
namespace G
open PySem L2
section
abbrev fG(hi:Option Rat)(x:Rat):Bool:=decide (x<0)||(match hi with|none=>false|some h=>decide (h<x))
abbrev bndB(hi:Option Rat)(x:Rat):Rat:=if x<0 then 0 else hi.getD 0
def sgn_lt(x:Rat):sgn x<0↔x<0:=by
 unfold sgn;have h:x<0↔x.num<0:=by rw[<-Rat.not_le,<-Rat.num_nonneg];lia
 rw[h]
 split
 ·constructor<;>intro<;>lia
 ·split
  ·constructor<;>intro<;>lia
  ·constructor<;>intro<;>lia
abbrev FtIs(H:Hp)(v:V)(e:Str×Str):Prop:=∃t,v=.ref t/\H t=some (.tup [.str e.1,.str e.2])
def FtIs.mono(h:FtIs H v e)(s:Same H H'):FtIs H' v e:=by
 let#[t,x,y]:=h;exact#[t,x,s _ _ y]
def FtIs.lst(hl:H l=some (.lst xs))(h:FtIs H v e):FtIs (upd H l o) v e:=let⟨t,x,y⟩:=h;#[t,x,by rw[aG (bK y hl (by intro z;cases z))];exact y]
inductive IspBP(a:Ad)(vs:List V)(H:Hp)(Q:VK):Prop
 |mk(v:V)(q:Addr)(d:WD)(x:Rat)(h1:vs=[v,.ref q])(h2:WayIs a H v d)(h3:FrAt a.Fraction H q x)(h4:SmR x)(h5:(∀h,d.hi=some h->SmR h))(h6:(fG d.hi x=true->∀r H',Same H H'->FrAt a.Fraction H' r (bndB d.hi x)->Q (.ref r) H'))(h7:(fG d.hi x=false->Q .non H)):IspBP a vs H Q
abbrev spBP(a:Ad):Sp:=λvs H Q _=>IspBP a vs H Q
def ok_bound_passed(T:TX K mg a):FnB P w K mg base CX0 "bound_passed" 4 ["way","part"] (spBP a):=by
 refine T.d_bound_passed.ok sc_bound_passed (λR H Q E h=>?_) (λf M A F s H R Q E D h=>?_)
 ·let#[_,_,_,_,8,_]:=h;rfl
 ·let#[v,q,d,x,8,S,u,O,X,j,b]:=h
  refine#[_,(aB (aW (aK iL (dQ T.fr (pv 1) (ip T) D aL) aF (aS _)) (aE (aM (eT (mk1 T) D T.mg_Fraction aL (aA aF aD)))) aJ)
   (aB (aW (PW.pt (d9 (aK fH (bE (pv 0) rfl) cB (aS _)) (dP (cG (hO T.fr (bE (pv 0) rfl) (ok_under T) D aL (aA (pv 1) aD)))))) (aE (aM (bE (pv 0) rfl))) aJ)
   (aE (aM cB)))),?_]
  try dsimp only[bF,Cx.nox,Cx.wish]
  let#[p,L,vc,Y,8,W,Z,_,o]:=S;let#[t,fs,m,l,_]:=id W.ob;have c:=eV T d.kd;refine#[9,q,x,8,u,q,x,8,u,7,9,ifB (λG=>?_) (λG=>?_)]
  ·have i:=(sgn_lt x).mp G;refine#[0,1,8,5,sm1,λr J nr I fr=>?_];rw[Rat.zero_divInt]at fr;refine j (by unfold fG;rw[jL i];rfl) r J I ?_;unfold bndB;rw[if_pos i];exact fr
  ·have i:¬x<0:=λz=>G ((sgn_lt x).mpr z);have N:fG d.hi x=(match d.hi with|none=>false|some h=>decide (h<x)):=by unfold fG;rw[jI i];rfl
   have U:bndB d.hi x=d.hi.getD 0:=by unfold bndB;rw[if_neg i]
   rw[N]at j b;rw[U]at j
   cases e:d.hi with
   |none=>
    rw[e]at o b;obtain rfl:L=.non:=o;refine#[9,p,_,t,fs,9,m,c.cl,c.n4,l.hi,8,9,iteF ?_];exact b rfl
   |some h=>
    rw[e]at o j b;let#[B,8,y]:=o;refine#[9,p,_,t,fs,9,m,c.cl,c.n4,l.hi,8,9,iteT ?_];refine#[9,p,_,t,fs,9,m,c.cl,c.n4,l.hi,B,9,y,9,B,q,_,9,y,u,X h e,O,9,?_];by_cases hlt:h<x
    ·refine bT (jL hlt) ?_;exact#[9,p,_,t,fs,9,m,c.cl,c.n4,l.hi,j (jL hlt) B H (Same.refl _) y]
    ·refine aX (jI hlt) ?_;exact b (jI hlt)
abbrev cT(ds:List WD)(ks:List Str):List Str:=ks.filter (λn=>decide (¬n∈ds.map (·.nm)))
abbrev OwnIs(_:Hp)(v:V)(_:Unit):Prop:=v=.bl true
inductive IspONames(a:Ad)(vs:List V)(H:Hp)(Q:VK):Prop
 |mk(p d:Addr)(ps:List (Str×Rat))(ds:List WD)(kvs:List (Key×V))(ks:List Str)(f:Str->Rat)(h1:vs=[.ref p,.ref d])(h2:NetOff a H p d ps ds)(h3:(ds.map (·.nm)).Nodup)(h4:ds.length<=100)(h5:H d=some (.dK kvs))(h6:Tab (FrIs a) H kvs ks f)(h7:ks.Nodup)(h8:ks.length<=100)(h9:∀l H',H l=none->Same H H'->H' l=some (.lst ((cT ds ks).map V.str))->Q (.ref l) H'):IspONames a vs H Q
abbrev spONames(a:Ad):Sp:=λvs H Q _=>IspONames a vs H Q
def ok_other_names(T:TX K mg a):FnB P w K mg base CX0 "other_names" 2 ["net","plan"] (spONames a):=by
 refine T.d_other_names.ok sc_other_names (λvs H Q E h=>?_) (λf am A al s H vs Q E hr h=>?_)
 ·let#[_,_,_,_,_,_,_,8,_]:=h;rfl
 ·let#[p,d,ps,ds,kvs,N,f,8,hn,nd,ld,hd,tb,ac,lk,k]:=h
  refine#[_,(aB (aR (i:=2) sc_other_names.nd rfl (Or.inr rfl) di)
   (bH (cS kl rfl (cU (cD (CX:=CX0) (pv 0) hr aL)) (bD (i:=3) sc_other_names.nd rfl (Or.inl rfl)) (aE (dm (cA hr) (pv 2) (bE (pv 3) rfl) pe_bl rfl)))
   (aE (aM (pe_thaw (fj (xs:=["name"]) (rest:=["own"]) rfl (pi_dict (pv 1))
   (λG fp C' s' H'=>(bD (i:=0) (show(["name","own"]:List Str).Nodup by decide+kernel) rfl (Or.inl rfl))) (λG fp C' s' H'=>(pts_one (eC (cZ (cA hr) (pv 0) (pv 1)))))
   (λG fp C' s' H'=>(pv 0))
   (Clos.many (ys:=["own"]) rfl #[8,True.intro] rfl (by decide+kernel)) (Reads.many (ys:=["own"]) (js:=[2]) #[#[8,8,8],True.intro]))))))),?_]
  try dsimp only[bF,Cx.nox,Cx.wish]
  intro r nr;have s0:Same H (upd H r (.dK [])):=aI nr;have aa:upd H r (.dK []) r=some (.dK []):=aC;generalize upd H r (.dK [])=H0 at s0 aa⊢;refine dX (λσ' H'=>yE2 λO j=>σ'=[some (.ref p),some (.ref d),some (.ref r),O]×' Same H H'×' H' r=some (.dK j)×' Tab OwnIs H' j (ds.map (·.nm)) (λ_=>Unit.unit)) ?_ ?_
  ·let#[dx,dw,dy,hp,hw,hy]:=(hn.mono s0).at_;refine#[9,p,a.Net,dx,_,1,["self"],spNAll a,8,hp,eP _ _ (by decide+kernel) (by decide+kernel),T.cl_Net,5,dS T,p,ps,ds,8,#[dx,dw,dy,hp,hw,hy],λl X ts R J hl hv=>?_]
   refine#[l,8,#[_,SqL.of hl],c8 (K:=K) (a:=l) (xs:=ts) (λi σ q=>i<=ds.length/\yE2 λO j=>σ=[some (.ref p),some (.ref d),some (.ref r),O]×' Same H q×' KeepD X q×' q r=some (.dK j)×' Tab OwnIs q j ((ds.map (·.nm)).take i) (λ_=>Unit.unit))
    #[jZ _,_,[],8,s0.trans J,.of (Same.refl _),J _ _ aa,Tab.nil] ((by rintro i σ q _⟨_,_,_,_,_,Y,_⟩;exact SqL.of (Y _ _ hl (by intro _ z;cases z) (by intro _ _ z;cases z)))) ?_ ?_]
   ·rintro i t σ q ht⟨_,O,j,rfl,S,Y,u,I⟩;let#[y,ey,wy]:=hv.get ht;have hi:=(jH.mp ey).1;have en:(ds.map (·.nm))[i]?=some y.nm:=by rw[jM,ey];rfl
    let#[tk,nk]:=take_next nd en;have ae:WayIs a q t y:=wy.keep λb C dx fs _ e=>Y _ _ e (by intro _ z;cases z) (by intro _ _ z;cases z);let#[p1,vh,vc,q1,8,W,hk]:=ae;let#[ak,ab,ho,h5,_]:=id W.ob;have c:=eV T y.kd;have an:j.length<=100:=by rw[I.len,kc,jE];lia
    refine#[9,9,p1,_,ak,ab,9,ho,c.cl,c.n1,h5.nm,r,9,DPut.k (k:=Sum.inr y.nm) u (bB ()),?_];refine#[hi,_,9,bY nr S,Y.trans (KeepD.put u),aC,?_];rw[tk,<-addK_new nk];exact(Tab.put (n:=y.nm) (y:=Unit.unit) (v:=.bl true) (I.mono (H':=upd q r (.dK (bX j (Sum.inr y.nm) (.bl true)))) λv x z=>z) rfl).congr λm _=>rfl
   ·rintro σ q⟨_,O,j,rfl,S,Y,u,I⟩;rw[hv.1,show ds.length=(ds.map (·.nm)).length by rw[jE],ke]at I;exact#[_,j,8,S,u,I]
  rintro zU ad σ' X⟨O,j,rfl,J,ah,I⟩;have L:=J _ _ hd;have F:=tb.mono λv x z=>FrIs.mono z J;subst ad;refine#[d,.dK kvs,L,(by intro o z e;cases e),9,d,kvs,8,L,λo l R=>?_];have D:d≠l:=λz=>by rw[z,aC]at R;cases R
  have M:X l=none:=by rw[aG D.symm]at R;exact R
  have ai:r≠d:=λz=>by rw[z,hd]at nr;cases nr
  refine compG_dict (a:=d) (o:=o) (kvs:=kvs) (λi q=>i<=N.length×' q d=some (.frz o (.dK kvs))×'(∀b Z,X b=some Z->b≠d->q b=some Z)×' q l=some (.lst ((cT ds (N.take i)).map V.str)))
   #[jZ _,by rw[aG D,aC],(λb Z e ne=>by rw[aG (aP e M),aG ne];exact e),aC] ((by rintro i q⟨_,h,_⟩;exact h)) ?_ ?_
  ·rintro i kv q af⟨_,hf,U,B⟩;let#[n,en,e1,ev,_]:=F.at_ ac af;have hi:i<N.length:=(jH.mp en).1;have aj:kV kv.1=.str n:=by rw[e1];rfl
   rw[aj];have u:=U _ _ ah ai
   have tk:cT ds (N.take (i+1))=cT ds (N.take i)++[n].filter (λn=>decide (¬n∈ds.map (·.nm))):=by
    unfold cT;rw[j4,en,j6,List.filter_append]
   have ll:(cT ds (N.take i)).length<=100:=by
    unfold cT;exact jK (kN _ _) (by rw[kc];lia)
   refine g1 #[#[[_],8,8],?_];refine#[9,9,r,9,DGet.k (k:=Sum.inr n) u,9,?_];by_cases hin:n∈ds.map (·.nm)
   ·let#[v,ag,_]:=I.vals n hin;rw[ag];refine iteF ?_;refine gM (by rw[F.len];exact hi) #[hi,hf,U,?_];rw[tk,List.filter_cons_of_neg (by simpa using hin),List.filter_nil,kE];exact B
   ·rw[I.none hin];refine iteT ?_;refine#[9,_,B,bB (by rw[jE];lia),gM (by rw[F.len];exact hi) #[hi,by rw[aG D];exact hf,(λb Z e ne=>by rw[aG (aP e M)];exact U _ _ e ne),?_]];rw[aC,tk,jY,List.filter_cons_of_pos (by simpa using hin)];rfl
  ·rintro q⟨_,hf,U,B⟩;rw[F.len,ke]at B;refine#[o,hf,?_]
   have S:Same X (upd q d (.dK kvs)):=λb Z e=>by
    by_cases hb:b=d
    ·subst hb;rw[aC,<-L,e]
    ·rw[aG hb];exact U _ _ e hb
   exact k l _ (J.free M) (J.trans S) (by rw[aG D.symm];exact B)
abbrev bP(A:Str->Rat)(ds:List WD):List (Str×Str):=(ds.filter λy=>fG y.hi (A y.nm)).map λy=>("bound",y.nm)
abbrev cK(F:Str->Rat)(ps:List (Str×Rat)):List (Str×Str):=(ps.filter λz=>decide (F z.1<z.2)).map λz=>("place",z.1)
abbrev jz(ks:List Str)(A:Str->Rat)(ps:List (Str×Rat))(ds:List WD):List (Str×Str):=(cT ds ks).map (λn=>(("way":Str),n))++bP A ds++cK (c9 A ds) ps
def gD(A:Str->Rat)(ds:List WD)(y:WD):bP A (ds++[y])=bP A ds++(if fG y.hi (A y.nm)=true then[(("bound":Str),y.nm)]else[]):=by
 unfold bP;rw[List.filter_append,jY]
 congr 1
 split
 ·rename_i h;rw[List.filter_cons_of_pos (by simpa using h)];rfl
 ·rename_i h;rw[List.filter_cons_of_neg (by simpa using h)];rfl
def gw(F:Str->Rat)(ps:List (Str×Rat))(z:Str×Rat):cK F (ps++[z])=cK F ps++(if F z.1<z.2 then[(("place":Str),z.1)]else[]):=by
 unfold cK;rw[List.filter_append,jY]
 congr 1
 split
 ·rename_i h;rw[List.filter_cons_of_pos (by simpa using h)];rfl
 ·rename_i h;rw[List.filter_cons_of_neg (by simpa using h)];rfl
def d6(A:Str->Rat)(ds:List WD):(bP A ds).length<=ds.length:=by
 unfold bP;rw[jE];exact kN _ _
def hI(F:Str->Rat)(ps:List (Str×Rat)):(cK F ps).length<=ps.length:=by
 unfold cK;rw[jE];exact kN _ _
structure FltOk(a:Ad)(H:Hp)(p d:Addr)(ps:List (Str×Rat))(ds:List WD)(kvs:List (Key×V))(ks:List Str)(f:Str->Rat):Prop where
 net:NetOff a H p d ps ds
 nd:(ds.map (·.nm)).Nodup
 ld:ds.length<=100
 hd:H d=some (.dK kvs)
 tb:Tab (FrIs a) H kvs ks f
 nk:ks.Nodup
 lk:ks.length<=100
 lp:ps.length<=100
 so:SumOk (aO ks f) ps ds
 hi:∀y∈ds,∀h,y.hi=some h->SmR h
 wa:∀z∈ps,SmR z.2
inductive IspFaults(a:Ad)(vs:List V)(H:Hp)(Q:VK):Prop
 |mk(p d:Addr)(ps:List (Str×Rat))(ds:List WD)(kvs:List (Key×V))(ks:List Str)(f:Str->Rat)(h1:vs=[.ref p,.ref d])(h2:FltOk a H p d ps ds kvs ks f)(h3:∀l H' ts,H l=none->Same H H'->H' l=some (.lst ts)->RowAt FtIs H' ts (jz ks (aO ks f) ps ds)->Q (.ref l) H'):IspFaults a vs H Q
abbrev spFaults(a:Ad):Sp:=λvs H Q _=>IspFaults a vs H Q
def ok_faults(T:TX K mg a):FnB P w K mg base CX0 "faults" 10 ["net","plan"] (spFaults a):=by
 refine T.d_faults.ok sc_faults (λvs H Q E h=>?_) (λf bl A bf s H vs Q E hr h=>?_)
 ·let#[_,_,_,_,_,_,_,8,_]:=h;rfl
 ·let#[p,d,ps,ds,ac,N,f,8,ok,k]:=h;generalize eA:aO N f=A at k;have so:=ok.so;rw[eA]at so;have ld:=ok.ld;have lk:=ok.lk;have lp:=ok.lp
  refine#[_,(bH (ps_compG (i:=2) (xs:=["name"]) (rest:=[]) sc_faults.nd rfl rfl rfl (cU (aZ (ok_other_names T) hr aL (aA (pv 0) (aA (pv 1) aD))))
   (λaa fp C' s' Y=>(bD (i:=0) (show(["name"]:List Str).Nodup by decide+kernel) rfl (Or.inl rfl))) (λaa fp C' s' Y=>fE)
   (λaa fp C' s' Y=>(cH (aA aT (aA (pv 0) aD))))
   (Clos.none (by decide+kernel) (by decide+kernel)) (Reads.many (ys:=[]) (js:=[]) True.intro))
   (bH (cS kl rfl (cU (cD (CX:=CX0) (pv 0) hr aL)) (bD (i:=3) sc_faults.nd rfl (Or.inl rfl)) (aE (aW (aK fH (aZ (ok_bound_passed T) hr aL (aA (pv 3) (aA (aZ (iq T) hr aL (aA (pv 1) (aA (bE (pv 3) rfl) aD))) aD))) cB (aS _)) (aE (bG (dr kj kf kg bU (pv 2) (aA (cH (aA aT (aA (bE (pv 3) rfl) aD))) aD)))) aJ)))
   (aB (aR (i:=4) sc_faults.nd rfl (Or.inl rfl) (aZ (eR T) hr aL (aA (pv 0) (aA (pv 1) aD))))
   (aB (cS kl rfl (cU (cD (CX:=CX0) (pv 0) hr aL)) (bD (i:=5) sc_faults.nd rfl (Or.inl rfl)) (aE (aW (cG (hO T.fr (fF (cA hr) (pv 4) (pv 5) (λ_ _=>rfl)) (ok_under T) hr aL (aA (eD (CX:=CX0) (pv 0) hr aL (aA (pv 5) aD)) aD))) (aE (bG (dr kj kf kg bU (pv 2) (aA (cH (aA aT (aA (pv 5) aD))) aD)))) aJ)))
   (aE (aM (pv 2))))))),?_]
  try dsimp only[bF,Cx.nox,Cx.wish]
  have lo:(cT ds N).length<=100:=by
   unfold cT;exact jK (kN _ _) lk
  refine dX (λσ' Y=>yE2 λl j=>σ'=[some (.ref p),some (.ref d),some (.ref l),none,none,none]×' H l=none×' Same H Y×' Y l=some (.lst j)×' RowAt FtIs Y j ((cT ds N).map (λn=>(("way":Str),n)))) ?_ ?_
  ·refine#[9,9,p,d,ps,ds,ac,N,f,8,ok.net,ok.nd,ld,ok.hd,ok.tb,ok.nk,lk,λax H1 bg s1 ay=>?_];refine#[ax,8,#[_,SqL.of ay],λl nl=>?_];refine gC (K:=K) (a:=ax) (xs:=(cT ds N).map V.str) (λi U=>i<=(cT ds N).length×' Same H1 U×'∃j,U l=some (.lst j)/\RowAt FtIs U j (((cT ds N).take i).map (λn=>(("way":Str),n)))) #[jZ _,aI nl,[],aC,RowAt.nil] ((by rintro i U⟨_,D,_⟩;exact SqL.of (D _ _ ay))) ?_ ?_
   ·rintro i x U hx⟨_,D,j,h2,hv⟩;rw[jM]at hx
    cases ex:(cT ds N)[i]? with
    |none=>rw[ex]at hx;cases hx
    |some n=>
     rw[ex]at hx
     cases hx;have hi:=(jH.mp ex).1;refine g1 #[#[[_],8,8],yes ?_];refine#[9,zL2,λt nt=>?_];let#[S,zq,B,X]:=uG (o:=.tup [.str "way",.str n]) nt;rw[zq];have h3:=B _ _ h2;have ao:j.length=i:=by rw[hv.1,jE,kc];lia
     refine#[_,h3,bB (),gM (by rw[jE];exact hi) #[hi,bY nl (D.trans B),_,aC,?_]];rw[j4,ex,j6,jY];exact RowAt.snoc (hv.mono λv x z=>(z.mono B).lst h3) (FtIs.lst h3 #[t,8,X])
   ·rintro U⟨_,D,j,h2,hv⟩;rw[jE,ke]at hv;exact#[l,j,8,s1.free nl,s1.trans D,h2,hv]
  rintro zU ab σ' H1⟨l,al,rfl,nl,s1,ag,ar⟩;have bh:al.length<=100:=by rw[ar.1,jE];exact lo
  subst ab;refine dX (λσ' Y=>yE2 λj z3=>σ'=[some (.ref p),some (.ref d),some (.ref l),z3,none,none]×' Same H Y×' Y l=some (.lst j)×' RowAt FtIs Y j ((cT ds N).map (λn=>(("way":Str),n))++bP A ds)) ?_ ?_
  ·let#[dx,dw,dy,hp,hw,hy]:=(ok.net.mono s1).at_;refine#[9,p,a.Net,dx,_,1,["self"],spNAll a,8,hp,eP _ _ (by decide+kernel) (by decide+kernel),T.cl_Net,5,dS T,p,ps,ds,8,#[dx,dw,dy,hp,hw,hy],λlw U tw ap D au ak=>?_];have ba:=s1.trans D
   refine#[lw,8,#[_,SqL.of au],c8 (K:=K) (a:=lw) (xs:=tw) (λi σ S=>i<=ds.length/\yE2 λj z3=>σ=[some (.ref p),some (.ref d),some (.ref l),z3,none,none]×' Same H S×'(∀b u,U b=some u->b≠l->S b=some u)×' S l=some (.lst j)×' RowAt FtIs S j ((cT ds N).map (λn=>(("way":Str),n))++bP A (ds.take i)))
    #[jZ _,al,9,ba,(λ_ _ e _=>e),D _ _ ag,by rw[List.take_zero,show bP A []=[]from rfl,kE];exact ar.mono λv x z=>z.mono D] ((by rintro i σ S _⟨_,_,_,_,_,L,_⟩;exact SqL.of (L _ _ au (λz=>by rw[z,ag]at ap;cases ap)))) ?_ ?_]
   ·rintro i t σ S X⟨_,j,z3,rfl,B,L,m,R⟩;let#[y,ey,wy]:=ak.get X;have hi:=(jH.mp ey).1;have my:=jP ey;have am:WayIs a S t y:=wy.keep λb C dx fs _ e=>L _ _ e (λz=>by rw[z,D _ _ ag]at e;cases e);have a3:=id am;let#[p1,vh,vc,q1,8,W,hk]:=am;let#[aq,as,ho,h5,_]:=id W.ob;have c:=eV T y.kd;have tk:ds.take (i+1)=ds.take i++[y]:=by rw[j4,ey];rfl
    have ao:j.length<=200:=by
     have:=d6 A (ds.take i)
     rw[kc]at this;rw[R.1,j5,jE]
     lia
    refine#[9,9,9,p1,_,aq,as,9,ho,c.cl,c.n1,h5.nm,d,ac,N,f,y.nm,8,.inl (B _ _ ok.hd),ok.tb.mono (λv x z=>FrIs.mono z B),λq H4 O f4=>?_];rw[eA]at f4;refine#[_,q,y,A y.nm,8,a3.mono O,f4,(so.sa y my).1,ok.hi y my,λaf r J s5 fr=>?_,λaf=>?_]
    ·refine#[8,9,iteT ?_];have ah:=O.trans s5;have I:=ah _ _ m;refine#[9,.inl #[8,_,SqL.of I],9,p1,_,aq,as,9,ah _ _ ho,c.cl,c.n1,h5.nm,zL2,λu nu=>?_];let#[H6,zq,s6,hu]:=uG (o:=.tup [.str "bound",.str y.nm]) nu;rw[zq];have Z:=ah.trans s6;have G:=Z _ _ m;refine#[l,7,G,bB (),?_];refine#[hi,_,9,bY nl (B.trans Z),(λb w e ne=>by rw[aG ne];exact Z _ _ (L _ _ e ne)),aC,?_];rw[tk,gD,if_pos af,<-List.append_assoc];exact RowAt.snoc (R.mono λv x z=>(z.mono Z).lst G) (FtIs.lst G #[u,8,hu])
    ·refine#[8,9,iteF ?_];refine#[hi,j,9,B.trans O,(λb w e ne=>O _ _ (L _ _ e ne)),O _ _ m,?_];rw[tk,gD,if_neg (by rw[af];decide),kE];exact R.mono λv x z=>z.mono O
   ·rintro σ S⟨_,j,z3,rfl,B,L,m,R⟩;rw[ak.1,ke]at R;exact#[j,9,B,m,R]
  rintro zU ab σ' U⟨an,z3,rfl,D,ai,a1⟩
  have bj:an.length<=200:=by
   have:=d6 A ds
   rw[a1.1,j5,jE]
   lia
  subst ab;refine#[9,9,p,d,ps,ds,ac,N,f,8,(ok.net.mono D).at_,D _ _ ok.hd,ok.tb.mono (λv x z=>FrIs.mono z D),ok.so,λr S be nr B bc tr=>?_];rw[eA]at tr;have aw:=D.trans B;have m:=B _ _ ai;let#[dx,dw,dy,hp,hw,hy]:=(ok.net.mono aw).at_;refine#[9,p,a.Net,dx,_,1,["self"],gT a,8,hp,eP _ _ (by decide+kernel) (by decide+kernel),T.cl_Net,5,eU T,p,ps,ds,8,#[dx,dw,dy,hp,hw,hy],λln ad=>?_];let#[H4,zq,O,ae]:=uG (o:=.lst (ps.map λx=>V.str x.1)) ad;rw[zq];have a7:ln≠l:=λz=>by rw[z,m]at ad;cases ad
  have rl:r≠l:=λz=>by rw[z,ai]at nr;cases nr
  have az:=O _ _ m;have a8:=O _ _ bc;have bb:=tr.mono λv x z=>FrIs.mono z O
  refine#[ln,8,#[_,SqL.of ae],c8 (K:=K) (a:=ln) (xs:=ps.map λx=>V.str x.1) (λi σ J=>i<=ps.length/\yE2 λj z5=>σ=[some (.ref p),some (.ref d),some (.ref l),z3,some (.ref r),z5]×' Same H J×'(∀b u,H4 b=some u->b≠l->J b=some u)×' J l=some (.lst j)×' RowAt FtIs J j ((cT ds N).map (λn=>(("way":Str),n))++bP A ds++cK (c9 A ds) (ps.take i)))
   #[jZ _,an,9,aw.trans O,(λ_ _ e _=>e),az,by rw[List.take_zero,show cK (c9 A ds) []=[]from rfl,kE];exact a1.mono λv x z=>(z.mono B).mono O] ((by rintro i σ J _⟨_,_,_,_,_,L,_⟩;exact SqL.of (L _ _ ae a7))) ?_ ?_]
  ·rintro i t σ J X⟨_,j,z5,rfl,s5,L,I,M⟩;rw[jM]at X
   cases ex:ps[i]? with
   |none=>rw[ex]at X;cases X
   |some x=>
    rw[ex]at X
    cases X;have hi:=(jH.mp ex).1;have mx:=jP ex;have tk:ps.take (i+1)=ps.take i++[x]:=by rw[j4,ex];rfl
    have ao:j.length<=300:=by
     have:=d6 A ds
     have:=hI (c9 A ds) (ps.take i)
     rw[kc]at this;rw[M.1,j5,j5,jE]
     lia
    let#[v,ev,x',8,fx]:=bb.vals x.1 (j9.mpr #[x,mx,8]);have a4:=L _ _ a8 rl
    have aj:FrAt a.Fraction J x' (c9 A ds x.1):=by
     let#[dq,g]:=fx;exact#[dq,L _ _ g (λz=>by rw[z,az]at g;cases g)]
    let#[av,a6,a2,a0,a9,a5]:=(ok.net.mono s5).at_
    have sf:SmR (c9 A ds x.1):=by
     have:=so.sf ds.length x.1
     rwa [ke]at this
    refine#[9,9,r,.ref x',8,.inl #[be,Sum.inr x.1,.inl a4,8,ev.symm],x',9,aj,9,p,a.Net,av,_,1,["self","place"],spNWant a,8,a0,eP _ _ (by decide+kernel) (by decide+kernel),T.cl_Net,5,ok_Net_want T,9,p,ps,ds,i,x.1,x.2,8,#[av,a6,a2,a0,a9,a5],so.np,ex,λq fq=>?_];refine#[x',q,_,9,aj,fq,sf,ok.wa x mx,9,?_];by_cases hlt:c9 A ds x.1<x.2
    ·refine bT (jL hlt) ?_;refine#[9,.inl #[8,_,SqL.of I],9,zL2,λu nu=>?_];let#[H6,zq,s6,hu]:=uG (o:=.tup [.str "place",.str x.1]) nu;rw[zq];have G:=s6 _ _ I;refine#[l,7,G,bB (),?_];refine#[hi,_,9,bY nl (s5.trans s6),(λb w e ne=>by rw[aG ne];exact s6 _ _ (L _ _ e ne)),aC,?_];rw[tk,gw,if_pos hlt,<-List.append_assoc];exact RowAt.snoc (M.mono λv x z=>(z.mono s6).lst G) (FtIs.lst G #[u,8,hu])
    ·refine aX (jI hlt) ?_;refine#[hi,j,9,s5,L,I,?_];rw[tk,gw,if_neg hlt,kE];exact M
  ·rintro σ J⟨_,j,z5,rfl,s5,L,I,M⟩;rw[jE,ke]at M;exact#[9,k l J j nl s5 I M]
end
end G
namespace G
open PySem L2
section
abbrev inB(g:Str)(c:Nat):Bool:=decide (c∈g.cps.toList)
abbrev madeB(z g:Str)(n:Int):Bool:=(decide ((1:Int)<=(z.length:Int))&&decide ((z.length:Int)<=n))&&z.cps.toList.all (inB g)
def occ_inB(g:Str)(c:Nat):(!(Builtin.Str.occurrences g #[(List.toArray [c])] 0 g.length 1).isEmpty)=inB g c:=StrLaws.found_one g c
inductive IspMade(vs:List V)(H:Hp)(Q:VK):Prop
 |mk(z g:Str)(n:Int)(h1:vs=[.str z,.str g,.int n])(h2:z.length<=900)(h3:∀H',Same H H'->Q (.bl (madeB z g n)) H'):IspMade vs H Q
abbrev spMade(K:W.Frag):Sp:=λvs H Q _=>IspMade vs H Q
def iN(T:TX K mg a):FnB P w K mg base CX0 "is_made_of" 1 ["text","signs","most"] (spMade K):=by
 refine T.d_is_made_of.ok sc_is_made_of (λy H Q E h=>?_) (λf B A p s H y Q E F h=>?_)
 ·let#[z,g,n,8,_]:=h;rfl
 ·let#[z,g,n,8,D,k]:=h
  refine#[_,(aE (aM (pe_and (pe_chain op_le op_le aF (bC call_len_str (by rfl) T.z_len lQ (aA (pv 0) aD)) (pv 2)) (pe_one (bC (call_allK (K:=K) rfl F.hd) (by rfl) T.z_all PyProof.Rows.boot_all (aA (fj (xs:=["sign"]) (rest:=["signs"]) rfl (pi_str (pv 0))
   (λb u x q v=>(bD (i:=0) (show(["sign","signs"]:List Str).Nodup by decide+kernel) rfl (Or.inl rfl))) (λb u x q v=>fE)
   (λb u x q v=>(gy op_in_str (pv 0) (pv 1) (by with_unfolding_all rfl)))
   (Clos.many (ys:=["signs"]) rfl #[8,True.intro] rfl (by decide+kernel)) (Reads.many (ys:=["signs"]) (js:=[1]) #[#[8,8,8],True.intro])) aD)))))),?_]
  try dsimp only[bF,Cx.nox,Cx.wish]
  refine#[9,z,8,jK D (by decide),7,9,?_];unfold madeB at k
  cases h1:decide ((1:Int)<=(z.length:Int)) with
  |false=>
   rw[h1]at k;exact iteF #[9,iteF (k H (Same.refl _))]
  |true=>
   rw[h1]at k;refine iteT #[9,7,9,?_]
   cases d:decide ((z.length:Int)<=n) with
   |false=>
    rw[d]at k;exact iteF (k H (Same.refl _))
   |true=>
    rw[d]at k;refine iteT #[9,z,8,λl r=>?_];refine compG_str (z:=z) (λi j=>i<=z.cps.size×' Same H j×' j l=some (.lst (((z.cps.toList.take i).map (inB g)).map V.bl))) #[jZ _,aI r,aC] ?_ ?_
    ·rintro i c j t⟨_,o,d⟩;have m:z.cps.toList[i]?=some c:=by rw[Array.getElem?_toList];exact t
     have hi:i<z.cps.size:=(kB.mp t).1;refine g1 #[#[[_],8,8],yes ?_];refine#[9,9,7,?_];refine#[_,d,bB (by rw[jE,jE,kc];have:z.cps.size=z.length:=rfl;lia),gM hi #[hi,bY r o,?_]];rw[aC,j4,m,j6,jY,jY];show some (HO.lst (_++[V.bl (!(Builtin.Str.occurrences g #[(List.toArray [c])] 0 g.length 1).isEmpty)]))=_;rw[occ_inB];rfl
    ·rintro j⟨_,o,d⟩;refine#[l,(z.cps.toList.take z.cps.size).map (inB g),8,SqL.of d,?_];rw[ly (by rw[ki];exact jJ _)];have e:(z.cps.toList.map (inB g)).all id=z.cps.toList.all (inB g):=by rw[List.all_map];rfl
     rw[e];exact k j o
def fig_made(h:z.cps.toList=dg m)(hm:m<10^9):madeB z "0123456789" 9=true:=by
 let#[l,o]:=ig m hm;have b:z.length=(dg m).length:=by show z.cps.size=_;rw[<-ki,h]
 unfold madeB;rw[b,jL (),jL (),h,Bool.and_self,Bool.true_and,kR];intro c j;let#[a,i]:=gj j
 have:∀c:Nat,48<=c->c<=57->inB "0123456789" c=true:=by
  intro c p e;obtain⟨d,rfl⟩:∃d,c=48+d:=#[c-48,4]
  match d,e with
  |0,_=>decide
  |1,_=>decide
  |2,_=>decide
  |3,_=>decide
  |4,_=>decide
  |5,_=>decide
  |6,_=>decide
  |7,_=>decide
  |8,_=>decide
  |9,_=>decide
  |d+10,h=>lia
 exact this c a i
inductive IspWholeT(vs:List V)(H:Hp)(Q:VK):Prop
 |mk(z:Str)(m:Nat)(h1:vs=[.str z])(h2:z.cps.toList=dg m)(h3:m<10^9)(h4:∀H',Same H H'->Q (.int m) H'):IspWholeT vs H Q
abbrev spWholeT:Sp:=λvs H Q _=>IspWholeT vs H Q
def iM(T:TX K mg a):FnB P w K mg base CX0 "read_whole" 2 ["text"] spWholeT:=by
 refine T.d_read_whole.ok sc_read_whole (λe H Q E h=>?_) (λf l A d s H e Q E o h=>?_)
 ·let#[z,m,8,_]:=h;rfl
 ·let#[z,m,8,c,b,k]:=h
  refine#[_,(aB (aW (fO (cG (aZ (iN T) o aL (aA (pv 0) (aA (pe_gs T.gs_FIGURES) (aA (pe_gi T.gi_MOST_FIGURES) aD)))))) (aE cF) aJ)
   (aE (aM (bW call_int_txt (by rfl) T.z_int PyProof.Rows.boot_int (aA (pv 0) aD))))),?_]
  try dsimp only[bF,Cx.nox,Cx.wish]
  have p:z.length=(dg m).length:=by show z.cps.size=_;rw[<-ki,c]
  let#[r,q]:=ig m b;refine⟨_,rfl,z,"0123456789",9,rfl,by lia,λj i=>#[9,aX (by rw[fig_made c b];rfl) ?_]⟩;exact#[9,z,m,8,4,dg_int c b,k j i]
inductive IspReadF(C:Addr)(vs:List V)(H:Hp)(Q:VK):Prop
 |mk(x:Rat)(h1:vs=[.str (bO x)])(h2:x.num.natAbs<10^9)(h3:x.den<10^9)(h4:∀r H',H r=none->Same H H'->FrAt C H' r x->Q (.ref r) H'):IspReadF C vs H Q
abbrev spReadF(C:Addr):Sp:=λvs H Q _=>IspReadF C vs H Q
def dg47(m:Nat):¬47∈dg m:=λh=>by have:=gj h;lia
def gB(x:Rat):(txt x.num).cps.toList=if x.num<0 then 45::dg x.num.natAbs else dg x.num.natAbs:=by
 cases e:x.num with
 |ofNat m=>rw[if_neg (by exact Int.not_lt.mpr (Int.natCast_nonneg m))];exact dO m
 |negSucc m=>rw[if_pos (Int.negSucc_lt_zero m)];exact txt_neg m
def num47(x:Rat):¬47∈(txt x.num).cps.toList:=by
 rw[gB]
 split
 ·intro h;rcases jR.mp h with z|z
  ·exact absurd z (by decide)
  ·exact dg47 _ z
 ·exact dg47 _
def shown_part(x:Rat):Txt.partition (bO x) "/"=if(x.den:Int)=1 then(txt x.num,Str.empty,Str.empty)else(txt x.num,#[(List.toArray [47])],txt (x.den:Int)):=by
 show Txt.partition (bO x) #[(List.toArray [47])]=_;unfold bO;by_cases h:(x.den:Int)=1
 ·rw[if_pos h,if_pos h];exact part_none (num47 x)
 ·rw[if_neg h,if_neg h]
  have e:(Str.ofString (toString x.num)++"/"++Str.ofString (toString (x.den:Int))).cps.toList=(txt x.num).cps.toList++47::dg x.den:=by
   rw[PySem.W.KT.app_list,PySem.W.KT.app_list,List.append_assoc]
   have:=dO x.den
   unfold txt at this;rw[this];rfl
  have:=part_one e (num47 x) (dg47 _)
  rw[this];have a:(#[(txt x.num).cps.toList.toArray]:Str)=txt x.num:=i8 rfl;have b:(#[(dg x.den).toArray]:Str)=txt (x.den:Int):=i8 (dO x.den).symm;rw[a,b]
def shown_len(h1:x.num.natAbs<10^9)(h2:x.den<10^9):(bO x).length<=900:=by
 let#[_,c]:=ig _ h1;let#[_,d]:=ig _ h2
 have a:(txt x.num).length<=10:=by
  show(txt x.num).cps.size<=_;rw[<-ki,gB]
  split
  ·rw[jU];lia
  ·lia
 have b:(txt (x.den:Int)).length<=10:=by
  show(txt (x.den:Int)).cps.size<=_;rw[<-ki,dO]
  lia
 unfold bO
 split
 ·exact jK a (by decide)
 ·rw[kD,kD]
  have:("/":Str).length=1:=rfl
  have h:(Str.ofString (toString x.num)).length<=10:=a;have e:(Str.ofString (toString (x.den:Int))).length<=10:=b
  lia
def ok_read_fraction(T:TX K mg a):FnB P w K mg base CX0 "read_fraction" 4 ["text"] (spReadF a.Fraction):=by
 refine T.d_read_fraction.ok sc_read_fraction (λvs H Q E h=>?_) (λf Z A L s H vs Q E v h=>?_)
 ·let#[x,8,_]:=h;rfl
 ·let#[x,8,t,hd,k]:=h
  refine#[_,(bH (aR (i:=1) sc_read_fraction.nd rfl (Or.inl rfl) (dr lK PySem.F.slot_str_partition PySem.F.type_str_partition mt_part (pv 0) (aA aT aD)))
   (bH (aR (i:=2) sc_read_fraction.nd rfl (Or.inl rfl) (dr lK PySem.F.slot_str_startswith PySem.F.type_str_startswith mt_starts (aN bA (pv 1) aF (λ_ _=>rfl)) (aA aT aD)))
   (bH (aR (i:=3) sc_read_fraction.nd rfl (Or.inl rfl) (aZ (iM T) v aL (aA (jn (cG (pv 2)) (hJ sl_str (aN bA (pv 1) aF (λ_ _=>rfl)) (gv aF) po_none) (aN bA (pv 1) aF (λ_ _=>rfl))) aD)))
   (bH (aR (i:=4) sc_read_fraction.nd rfl (Or.inl rfl) (jn (aK bL (aN bA (pv 1) aF (λ_ _=>rfl)) aT (aS _)) (aZ (iM T) v aL (aA (aN bA (pv 1) aF (λ_ _=>rfl)) aD)) aF))
   (aB (aW (aK bL (pv 4) aF (aS _)) (aE cF) aJ)
   (aB (aR (i:=5) sc_read_fraction.nd rfl (Or.inl rfl) (eT (mk2 T) v T.mg_Fraction aL (aA (jn (cG (pv 2)) (pe_un un_neg (pv 3)) (pv 3)) (aA (pv 4) aD))))
   (aB (aW (aK iK (dQ T.fr (pv 5) (gb T) v aL) (pv 0) (aS _)) (aE cF) aJ)
   (aE (aM (pv 5)))))))))),?_]
  try dsimp only[bF,Cx.nox,Cx.wish]
  have sl:=shown_len t hd;have dp:=den_pos x;refine dX (λm l=>yE3 λp b c=>m=[some (.str (bO x)),some (.ref p),none,none,none,none]×' Same H l×' l p=some (.tup [.str (txt x.num),.str b,.str c])×'(((x.den:Int)=1/\b=Str.empty)∨((x.den:Int)≠1×' b="/"×' c=txt (x.den:Int)))) ?_ ?_
  ·refine#[9,8,7,8,jK sl (by decide),λp O=>?_];have e:=shown_part x;by_cases h:(x.den:Int)=1
   ·rw[if_pos h]at e;rw[e];exact#[p,_,9,aI O,aC,.inl #[h,8]]
   ·rw[if_neg h]at e;rw[e];exact#[p,_,9,aI O,aC,.inr #[h,8,8]]
  rintro D j m W⟨p,b,c,rfl,s1,U,y⟩;have B:=SqT.of (K:=K) U;subst j;refine dX (λm l=>m=[some (.str (bO x)),some (.ref p),some (.bl (decide (x.num<0))),none,none,none]/\l=W) ?_ ?_
  ·refine#[9,p,_,7,B,8,8,7,?_,8];show[_,_,some (V.bl (Txt.startswith (txt x.num) #[(List.toArray [45])])),_,_,_]=_;rw[starts_one,gB]
   congr 4
   by_cases h:x.num<0
   ·rw[if_pos h,jL h];exact kI V.bl (jL (show(45::dg x.num.natAbs)[0]?=some 45 from rfl))
   ·rw[if_neg h,jI h];refine kI V.bl (jI λz=>?_)
    have:=gj (jP z)
    lia
  rintro D j m H2⟨rfl,Y⟩;subst j;subst Y;refine dX (λm l=>m=[some (.str (bO x)),some (.ref p),some (.bl (decide (x.num<0))),some (.int x.num.natAbs),none,none]/\Same H2 l) ?_ ?_
  ·refine#[9,9,?_];have e:=gB x;by_cases h:x.num<0
   ·rw[if_pos h]at e;refine bT (jL h) ?_;refine#[9,p,_,7,B,8,9,9,?_,_,9,slice_one e,t,λl q=>#[8,q]];show(txt x.num).length<=_;refine jK (show(txt x.num).cps.size<=900 from ?_) (by decide)
    have:=(ig _ t).2
    rw[<-ki,e,jU]
    lia
   ·rw[if_neg h]at e;refine aX (jI h) ?_;exact#[9,p,_,7,B,8,_,9,e,t,λl q=>#[8,q]]
  rintro D j m X⟨rfl,R⟩;have u:=SqT.of (K:=K) (R _ _ U);subst j;refine dX (λm l=>m=[some (.str (bO x)),some (.ref p),some (.bl (decide (x.num<0))),some (.int x.num.natAbs),some (.int x.den),none]/\Same X l) ?_ ?_
  ·refine#[9,p,_,7,u,8,8,9,?_];rcases y with⟨h1,rfl⟩|⟨h1,rfl,rfl⟩
   ·refine aX (by decide) #[?_,Same.refl _];rw[h1];rfl
   ·refine bT (jL rfl) ?_;exact#[9,p,_,7,u,8,_,9,dO x.den,hd,λl q=>#[8,q]]
  rintro D j m H4⟨rfl,s4⟩;subst j;refine#[9,8,9,aX (neV ()) ?_];have S:Tx x.num:=j7 t (by decide);have N:Tx (x.den:Int):=by show((x.den:Int)).natAbs<_;rw[kH];exact j7 hd (by decide)
  have M:Sm (x.den:Int):=Sm.of_le (n:=100) (by rw[kH];exact jK (Nat.le_of_lt hd) (by decide)) (by decide);have o:=s1.trans (R.trans s4);refine#[9,9,?_];by_cases h:x.num<0
  ·refine bT (jL h) #[9,9,9,_,9,4,M,λr I J G d=>?_];rw[show(-((x.num.natAbs:Nat):Int))=x.num by lia,Rat.num_divInt_den]at d;refine#[9,r,x,8,d,r,x,8,d,S,N,9,8,9,iO rfl ?_];exact#[9,k r I (o.free J) (o.trans G) d]
  ·refine aX (jI h) #[9,9,_,9,4,M,λr I J G d=>?_];rw[show(((x.num.natAbs:Nat):Int))=x.num by lia,Rat.num_divInt_den]at d;refine#[9,r,x,8,d,r,x,8,d,S,N,9,8,9,iO rfl ?_];exact#[9,k r I (o.free J) (o.trans G) d]
end
end G
namespace G
open PySem L2
section
inductive Wd where
 |nm(z:Str)
 |fr(x:Rat)
 |no
abbrev Wd.txt:Wd->Str
 |.nm z=>z
 |.fr x=>bO x
 |.no=>"-"
abbrev dN(z:Str):Bool:=madeB z "abcdefghijklmnopqrstuvwxyz" 8
abbrev Wd.ok(kd:Str):Wd->Prop
 |.nm z=>kd="name"/\dN z=true
 |.fr x=>(kd="fraction"∨kd="gain"∨kd="high")/\x.num.natAbs<10^9/\x.den<10^9
 |.no=>kd="high"
abbrev Wd.bad(kd:Str):Wd->Bool
 |.fr x=>decide (kd="gain"/\x.num<=0)||decide (kd="high"/\x.num<0)
 |_=>false
abbrev WdIs(a:Ad)(H:Hp)(v:V):Wd->Prop
 |.nm z=>v=.str z
 |.fr x=>∃r,v=.ref r/\FrAt a.Fraction H r x
 |.no=>v=.non
def WdIs.mono(h:WdIs a H v c)(s:Same H H'):WdIs a H' v c:=by
 cases c with
 |nm z=>exact h
 |fr x=>let#[r,e,f]:=h;exact#[r,e,f.mono s]
 |no=>exact h
def eX(h:dN z=true):1<=z.length/\z.length<=8/\∀c∈z.cps.toList,97<=c/\c<=122:=by
 unfold dN madeB at h;rw[lG,lG,decide_eq_true_iff,decide_eq_true_iff,kR]at h;refine#[4,4,λc b=>?_]
 have:=kG (h.2 c b)
 have a:∀x∈("abcdefghijklmnopqrstuvwxyz":Str).cps.toList,97<=x/\x<=122:=by decide
 exact a c this
def shown_free:¬32∈(bO x).cps.toList:=by
 have a:∀m,¬32∈dg m:=λm h=>by have:=gj h;lia
 have b:¬32∈(txt x.num).cps.toList:=by
  rw[gB]
  split
  ·intro h;rcases jR.mp h with z|z
   ·exact absurd z (by decide)
   ·exact a _ z
  ·exact a _
 unfold bO
 split
 ·exact b
 ·rw[app_of,app_of];intro h;rcases lC.mp h with h|h
  ·rcases lC.mp h with h|h
   ·exact b h
   ·exact absurd h (by decide)
  ·have e:=dO x.den;unfold txt at e;rw[e]at h;exact a _ h
def Wd.free{c:Wd}(h:c.ok kd):¬32∈c.txt.cps.toList:=by
 cases c with
 |nm z=>exactλm=>by have:=(eX h.2).2.2 32 m;omega
 |fr x=>exact shown_free
 |no=>exact(by decide:¬32∈("-":Str).cps.toList)
def Wd.len{c:Wd}(h:c.ok kd):c.txt.length<=900:=by
 cases c with
 |nm z=>have:=(eX h.2).2.1;exact jK this (by decide)
 |fr x=>exact shown_len h.2.1 h.2.2
 |no=>exact(by decide:("-":Str).length<=900)
inductive IspIsName(vs:List V)(H:Hp)(Q:VK):Prop
 |mk(z:Str)(h1:vs=[.str z])(h2:z.length<=900)(h3:∀H',Same H H'->Q (.bl (dN z)) H'):IspIsName vs H Q
abbrev spIsName:Sp:=λvs H Q _=>IspIsName vs H Q
def ok_is_name(T:TX K mg a):FnB P w K mg base CX0 "is_name" 2 ["text"] spIsName:=by
 refine T.d_is_name.ok sc_is_name (λc H Q E h=>?_) (λf i A b s H c Q E l h=>?_)
 ·let#[z,8,_]:=h;rfl
 ·let#[z,8,j,k]:=h;refine#[_,(aE (aM (aZ (iN T) l aL (aA (pv 0) (aA (pe_gs T.gs_LETTERS) (aA (pe_gi T.gi_MOST_LETTERS) aD)))))),?_];try dsimp only[bF,Cx.nox,Cx.wish]
  exact⟨_,rfl,z,"abcdefghijklmnopqrstuvwxyz",8,rfl,j,λe d=>k e d⟩
inductive IspRName(vs:List V)(H:Hp)(Q:VK):Prop
 |mk(z:Str)(h1:vs=[.str z])(h2:dN z=true)(h3:∀H',Same H H'->Q (.str z) H'):IspRName vs H Q
abbrev spRName:Sp:=λvs H Q _=>IspRName vs H Q
def ok_read_name(T:TX K mg a):FnB P w K mg base CX0 "read_name" 3 ["word"] spRName:=by
 refine T.d_read_name.ok sc_read_name (λd H Q E h=>?_) (λf j A b s H d Q E l h=>?_)
 ·let#[z,8,_]:=h;rfl
 ·let#[z,8,c,k]:=h
  refine#[_,(aB (aW (fO (cG (aZ (ok_is_name T) l aL (aA (pv 0) aD)))) (aE cF) aJ)
   (aE (aM (pv 0)))),?_]
  try dsimp only[bF,Cx.nox,Cx.wish]
  refine#[9,z,8,jK (eX c).2.1 (by decide),λi e=>#[9,aX (by rw[c];rfl) #[9,k i e]]]
def up_read_fraction(T:TX K mg a):FnB P w K mg base (CX1 P w) "read_fraction" 4 ["text"] (spReadF a.Fraction):=(ok_read_fraction T).up
def fk(T:TX K mg a):FnB P w K mg base CX0 "read_number" 5 ["word"] (spReadF a.Fraction):=by
 refine T.d_read_number.ok sc_read_number (λc H Q E h=>?_) (λf e A b s H c Q E i h=>?_)
 ·let#[x,8,_]:=h;rfl
 ·let#[x,8,d,hd,k]:=h;refine#[_,(aE (ps_try (pssx_one (psx_ret (px_fn (up_read_fraction T) i (aA (pv 0) aD)))) ph_never)),?_];try dsimp only[bF,Cx.nox,Cx.wish]
  exact#[9,x,8,d,hd,k]
def sgn_np:decide (sgn x<=0)=decide (x.num<=0):=by
 by_cases h:x.num<=0
 ·rw[jL h];refine jL ?_;unfold sgn;rw[if_neg ()]
  split<;>lia
 ·rw[jI h];exact jI (sgn_p ())
def sgn_ng:decide (sgn x<0)=decide (x.num<0):=by
 by_cases h:x.num<0
 ·rw[jL h];refine jL ?_;unfold sgn;rw[if_neg (),if_pos h];decide
 ·rw[jI h];exact jI (sgn_nn ())
inductive IspRGainX(a:Ad)(vs:List V)(H:Hp)(Q:VK)(E:XK):Prop
 |mk(x:Rat)(h1:vs=[.str (bO x)])(h2:x.num.natAbs<10^9)(h3:x.den<10^9)(h4:(0<x.num->∀r H',H r=none->Same H H'->FrAt a.Fraction H' r x->Q (.ref r) H'))(h5:(x.num<=0->∀H',Same H H'->E (.ref a.NoRow) none H')):IspRGainX a vs H Q E
abbrev spRGainX(a:Ad):Sp:=λvs H Q E=>IspRGainX a vs H Q E
def ok_read_gainX(T:TX K mg a):FnB P w K mg base (CX1 P w) "read_gain" 6 ["word"] (spRGainX a):=by
 refine T.d_read_gain.okX sc_read_gain (λe H Q E h=>?_) (λf o A c s H e Q E b h=>?_)
 ·let#[x,8,_]:=h;rfl
 ·let#[x,8,l,hd,k,q]:=h
  refine#[_,(aB (aR (i:=1) sc_read_gain.nd rfl (Or.inl rfl) (aZ (fk T) b aL (aA (pv 0) aD)))
   (aB (aW (aK op_le (dQ T.fr (pv 1) (ip T) b aL) aF (aS _)) (aE (jl xout1 rfl b.hd (by rfl) T.mg_NoRow T.ex_NoRow (aA aT aD))) aJ)
   (aE (aM (pv 1))))),?_]
  try dsimp only[bF,Cx.nox,Cx.wish]
  refine#[9,x,8,l,hd,λr m p d j=>?_];walk_at"rd"
  by_cases hx:0<x.num
  ·exact aX (jI (sgn_p hx)) #[9,k hx r m p d j]
  ·exact bT (by rw[sgn_np];exact jL ()) #[5,q () _ d]
def shown_nb(hn:x.num.natAbs<10^9):bO x≠"-":=λe=>by
 have h:(bO x).cps.toList=[45]:=by rw[e];rfl
 have b:(txt x.num).cps.toList≠[45]:=λz=>by
  rw[gB]at z
  split at z
  ·have a:=kI List.length (List.cons.inj z).2;have l:=ig x.num.natAbs hn;rw[show(dg x.num.natAbs).length=0 from a]at l
   lia
  ·have:=gj (m:=x.num.natAbs) (c:=45) (by rw[z];simp)
   lia
 unfold bO at h
 split at h
 ·exact b h
 ·rw[app_of,app_of]at h
  have:47∈([45]:List Nat):=by rw[<-h];exact List.mem_append_left _ (jS _ (by decide))
  exact absurd this (by decide)
inductive IspRHighX(a:Ad)(vs:List V)(H:Hp)(Q:VK)(E:XK):Prop
 |mk(c:Wd)(h1:vs=[.str c.txt])(h2:c.ok "high")(h3:(c.bad "high"=false->∀v H',Same H H'->WdIs a H' v c->Q v H'))(h4:(c.bad "high"=true->∀H',Same H H'->E (.ref a.NoRow) none H')):IspRHighX a vs H Q E
abbrev spRHighX(a:Ad):Sp:=λvs H Q E=>IspRHighX a vs H Q E
def ok_read_highX(T:TX K mg a):FnB P w K mg base (CX1 P w) "read_high" 6 ["word"] (spRHighX a):=by
 refine T.d_read_high.okX sc_read_high (λp H Q E h=>?_) (λf u A d s H p Q E b h=>?_)
 ·let#[c,8,_]:=h;rfl
 ·let#[c,8,l,k,o]:=h
  refine#[_,(aB (aW (aK bL (pv 0) aT (aS _)) (aE (aM cB)) aJ)
   (aB (aR (i:=1) sc_read_high.nd rfl (Or.inl rfl) (aZ (fk T) b aL (aA (pv 0) aD)))
   (aB (aW (aK iL (dQ T.fr (pv 1) (ip T) b aL) aF (aS _)) (aE (jl xout1 rfl b.hd (by rfl) T.mg_NoRow T.ex_NoRow (aA aT aD))) aJ)
   (aE (aM (pv 1)))))),?_]
  try dsimp only[bF,Cx.nox,Cx.wish]
  cases c with
  |nm z=>exact absurd l.1 (by decide)
  |no=>exact#[9,8,9,bT (jL rfl) (k rfl _ H (Same.refl _) rfl)]
  |fr x=>
   let#[_,j,hd]:=l;refine#[9,8,9,aX (jI λz=>shown_nb j (V.str.inj z)) ?_];refine#[9,x,8,j,hd,λr t v m q=>?_];walk_at"rd"
   have e:(Wd.fr x).bad "high"=decide (x.num<0):=by
    show(decide (("high":Str)="gain"/\x.num<=0)||decide (("high":Str)="high"/\x.num<0))=_;rw[jI (λz=>absurd z.1 (by decide)),Bool.false_or];simp
   rw[e]at k o;by_cases hx:x.num<0
   ·exact bT (by rw[sgn_ng];exact jL hx) #[5,o (jL hx) _ m]
   ·exact aX (by rw[sgn_ng];exact jI hx) #[9,k (jI hx) _ t m #[r,8,q]]
inductive IspWordX(a:Ad)(vs:List V)(H:Hp)(Q:VK)(E:XK):Prop
 |mk(kd:Str)(c:Wd)(h1:vs=[.str kd,.str c.txt])(h2:c.ok kd)(h3:(c.bad kd=false->∀v H',Same H H'->WdIs a H' v c->Q v H'))(h4:(c.bad kd=true->∀H',Same H H'->E (.ref a.NoRow) none H')):IspWordX a vs H Q E
abbrev spWordX(a:Ad):Sp:=λvs H Q E=>IspWordX a vs H Q E
def ok_read_wordX(T:TX K mg a):FnB P w K mg base (CX1 P w) "read_word" 7 ["kind","word"] (spWordX a):=by
 refine T.d_read_word.okX sc_read_word (λu H Q E h=>?_) (λf B A o s H u Q E j h=>?_)
 ·let#[v,c,8,_]:=h;rfl
 ·let#[v,c,8,i,k,l]:=h
  refine#[_,(aB (aW (aK bL (pv 0) aT (aS _)) (aE (aM (aZ (ok_read_name T) j aL (aA (pv 1) aD)))) aJ)
   (aB (aW (aK bL (pv 0) aT (aS _)) (aE (aM (aZ (ok_read_gainX T) j pass1 (aA (pv 1) aD)))) aJ)
   (aB (aW (aK bL (pv 0) aT (aS _)) (aE (aM (aZ (ok_read_highX T) j pass1 (aA (pv 1) aD)))) aJ)
   (aE (aM (aZ (fk T) j aL (aA (pv 1) aD))))))),?_]
  try dsimp only[bF,Cx.nox,Cx.wish]
  cases c with
  |nm z=>
   let#[8,y]:=i;exact#[9,8,9,bT (jL rfl) #[9,z,8,y,λd b=>k rfl _ d b rfl]]
  |fr x=>
   let#[D,q,hd]:=id i;rcases D with rfl|rfl|rfl
   ·have e:(Wd.fr x).bad "fraction"=false:=by
     show(decide (("fraction":Str)="gain"/\x.num<=0)||decide (("fraction":Str)="high"/\x.num<0))=false;rw[jI (λz=>absurd z.1 (by decide)),jI (λz=>absurd z.1 (by decide))];rfl
    exact#[9,8,9,aX (by decide) #[9,8,9,aX (by decide) #[9,8,9,aX (by decide) #[9,x,8,q,hd,λr d F b m=>k e _ d b #[r,8,m]]]]]
   ·have e:(Wd.fr x).bad "gain"=decide (x.num<=0):=by
     show(decide (("gain":Str)="gain"/\x.num<=0)||decide (("gain":Str)="high"/\x.num<0))=_;rw[jI (p:=("gain":Str)="high"/\x.num<0) (λz=>absurd z.1 (by decide)),Bool.or_false];simp
    rw[e]at k l;exact#[9,8,9,aX (by decide) #[9,8,9,bT (jL rfl) #[9,x,8,q,hd,λt r d F b m=>k (jI ()) _ d b #[r,8,m],λt d b=>l (jL t) d b]]]
   ·exact#[9,8,9,aX (by decide) #[9,8,9,aX (by decide) #[9,8,9,bT (jL rfl) #[9,.fr x,8,i,k,l]]]]
  |no=>
   obtain rfl:=i;exact#[9,8,9,aX (by decide) #[9,8,9,aX (by decide) #[9,8,9,bT (jL rfl) #[9,.no,8,8,k,l]]]]
end
end G
namespace G
open PySem L2
section
def cut_drop(i:Nat):cutV xs (some (i:Int)) none=xs.drop i:=by
 unfold cutV;rw[HT.sIx_nat,HT.sIx_none];by_cases h:i<=xs.length
 ·rw[Nat.min_eq_left h,ly (by rw[List.length_drop];lia)]
 ·rw[Nat.min_eq_right (),List.drop_of_length_le (jJ _),List.take_nil,List.drop_of_length_le ()]
def at0:atI (x::xs) 0=some x:=iw (j:=0) rfl
def datum_mem:∀{D:List (Str×δ)}{d:δ},PyProof.Rows.KTD.datumAt k D=some d->(k,d)∈D
 |[],_,h=>by cases h
 |p::D,d,h=>by
  unfold PyProof.Rows.KTD.datumAt at h
  split at h
  ·rename_i e
   cases h;obtain rfl:=kG e;exact jX
  ·exact jW _ (datum_mem h)
structure RowOk(hd:Str)(kds:List Str)(cs:List Wd):Prop where
 at_:PyProof.Rows.KTD.datumAt hd dG=some kds
 len:cs.length=kds.length
 ok:∀(j:Nat)(kd:Str)(c:Wd),kds[j]?=some kd->cs[j]?=some c->c.ok kd
def ie(h:PyProof.Rows.KTD.datumAt hd dG=some kds):¬32∈hd.cps.toList/\hd.length<=8/\kds.length<=6:=by
 have a:∀p∈dG,¬32∈p.1.cps.toList/\p.1.length<=8/\p.2.length<=6:=by decide
 exact a _ (datum_mem h)
def RowOk.each(h:RowOk hd kds cs)(hc:c∈cs):∃kd,c.ok kd:=by
 let#[j,a]:=kO.mp hc;have lt:j<kds.length:=by rw[<-h.len];exact(jH.mp a).1
 exact#[kds[j],h.ok j _ c (jF lt) a]
def RowOk.split(h:RowOk hd kds cs):Txt.split (Str.join #[(List.toArray [32])] (hd::cs.map Wd.txt)) #[(List.toArray [32])]=hd::cs.map Wd.txt:=by
 refine split_words (by simp) λp a=>?_;rcases jR.mp a with rfl|a
 ·exact(ie h.at_).1
 ·let#[c,b,8]:=j9.mp a;let#[d,ok]:=h.each b;exact Wd.free ok
def sum_le{xs:List Nat}(h:∀x∈xs,x<=b):xs.sum<=xs.length*b:=by
 induction xs with
 |nil=>simp
 |cons x r ih=>
  rw[lI,jU,Nat.succ_mul];have c:=h x jX;have d:=ih λy a=>h y (jW _ a)
  lia
def RowOk.size(h:RowOk hd kds cs):(Str.join #[(List.toArray [32])] (hd::cs.map Wd.txt)).length<=10000:=by
 refine jK (StrLaws.join_length_le _ _) ?_;let#[_,j,m]:=ie h.at_;have o:=h.len
 have e:=sum_le (xs:=(hd::cs.map Wd.txt).map (·.length)) (b:=900) λx i=>by
  let#[y,a,8]:=j9.mp i;rcases jR.mp a with rfl|a
  ·lia
  ·let#[c,d,8]:=j9.mp a;let#[l,ok]:=h.each d;exact Wd.len ok
 rw[jE,jU,jE]at e;rw[jU,jE]
 have:(#[(List.toArray [32])]:Str).length=1:=rfl
 rw[this]
 lia
abbrev sameW(hd:Str):List Wd->Bool
 |_::.nm s::.nm g::_=>decide (hd="way")&&decide (s=g)
 |_=>false
def way_shape(h:RowOk "way" kds cs):∃n s g x hi c,cs=[.nm n,.nm s,.nm g,.fr x,hi,.fr c]/\(hi=.no∨∃y,hi=.fr y):=by
 have e:kds=(["name","name","name","gain","high","fraction"]:List Str):=by
  have:=h.at_
  rw[show PyProof.Rows.KTD.datumAt ("way":Str) dG=some (["name","name","name","gain","high","fraction"]:List Str) by decide]at this;exact(kh this).symm
 subst e;have l:=h.len
 obtain⟨r,j,q,p,b,o,rfl⟩:∃r j q p b o,cs=[r,j,q,p,b,o]:=by
  match cs,l with
  |[r,j,q,p,b,o],_=>exact#[_,_,_,_,_,9]
 have a:∀c:Wd,c.ok "name"->∃z,c=.nm z:=λc d=>by
  cases c with
  |nm z=>exact#[z,8]
  |fr x=>rcases d.1 with z|z|z<;>exact absurd z (by decide)
  |no=>exact absurd d (by decide:¬("name":Str)="high")
 have i:∀(c:Wd)(m:Str),m≠"name"->m≠"high"->c.ok m->∃x,c=.fr x:=λc m u t d=>by
  cases c with
  |nm z=>exact absurd d.1 u
  |fr x=>exact#[x,8]
  |no=>exact absurd d t
 let#[n,8]:=a r (h.ok 0 _ _ rfl rfl);let#[s,8]:=a j (h.ok 1 _ _ rfl rfl);let#[g,8]:=a q (h.ok 2 _ _ rfl rfl);let#[x,8]:=i p _ (by decide) (by decide) (h.ok 3 _ _ rfl rfl);let#[c,8]:=i o _ (by decide) (by decide) (h.ok 5 _ _ rfl rfl);have v:=h.ok 4 _ b rfl rfl;refine#[n,s,g,x,b,c,8,?_]
 cases b with
 |nm z=>exact absurd v.1 (by decide:¬("high":Str)="name")
 |fr x=>exact .inr #[x,8]
 |no=>exact .inl rfl
abbrev badW(kds:List Str)(cs:List Wd):Bool:=(kds.zip cs).any λp=>p.2.bad p.1
def badW_of{i:Nat}(e1:kds[i]?=some kd)(e2:cs[i]?=some c)(h:c.bad kd=true):badW kds cs=true:=by
 unfold badW;rw[List.any_eq_true];have e:(kds.zip cs)[i]?=some (kd,c):=by rw[List.getElem?_zip_eq_some];exact#[e1,e2]
 exact#[_,jP e,h]
def badW_not(l:cs.length=kds.length)(h:∀i kd c,i<cs.length->kds[i]?=some kd->cs[i]?=some c->c.bad kd=false):badW kds cs=false:=by
 unfold badW;rw[List.any_eq_false];intro p a;let#[i,hi]:=kO.mp a;rw[List.getElem?_zip_eq_some]at hi;exact Bool.eq_false_iff.mp (h i p.1 p.2 (jH.mp hi.2).1 hi.1 hi.2)
abbrev fv(hd:Str)(kds:List Str)(cs:List Wd):Bool:=badW kds cs||sameW hd cs
inductive IspRow(a:Ad)(vs:List V)(H:Hp)(Q:VK)(E:XK):Prop
 |mk(hd:Str)(kds:List Str)(cs:List Wd)(h1:vs=[.str (Str.join ⟨(List.toArray [32])⟩ (hd::cs.map Wd.txt))])(h2:RowOk hd kds cs)(h3:(fv hd kds cs=false->∀l H' us,H l=none->Same H H'->H' l=some (.lst (.str hd::us))->RowAt (WdIs a) H' us cs->Q (.ref l) H'))(h4:(fv hd kds cs=true->∀H',Same H H'->E (.ref a.NoRow) none H')):IspRow a vs H Q E
abbrev spRow(K:W.Frag)(a:Ad):Sp:=λvs H Q E=>IspRow a vs H Q E
def ok_read_rowX(T:TX K mg a):FnB P w K mg base (CX1 P w) "read_row" 8 ["row"] (spRow K a):=by
 refine T.d_read_row.okX sc_read_row (λvs H Q E h=>?_) (λf al A ak s H vs Q E hr h=>?_)
 ·let#[_,_,_,8,_]:=h;rfl
 ·let#[hd,kds,cs,8,J,k,kx]:=h
  refine#[_,(bH (aR (i:=1) sc_read_row.nd rfl (Or.inl rfl) (dr lK PySem.F.slot_str_split PySem.F.type_str_split mt_split (pv 0) (aA aT aD)))
   (bH (aR (i:=2) sc_read_row.nd rfl (Or.inl rfl) (pe_kget T.kt_FORMS (aN aU (pv 1) aF (λ_ _=>rfl)) #[8,8,8,8]))
   (bH (aW (PW.pt (gL (aK op_isN (pv 2) cB (aS _)) (hF (aK iK (bC eY (by rfl) T.z_len lQ (aA (pv 1) aD)) (aQ fP (bC eY (by rfl) T.z_len lQ (aA (pv 2) aD)) aF) (aS _))))) (aE (jl xout1 rfl hr.hd (by rfl) T.mg_NoRow T.ex_NoRow (aA aT aD))) aJ)
   (bH (aR (i:=3) sc_read_row.nd rfl (Or.inl rfl) (aQ op_cat (dj (aA (aN aU (pv 1) aF (λ_ _=>rfl)) aD)) (pe_compGX (xs:=["kind","word"]) (rest:=[]) xoutF rfl rfl rfl rfl (pi_zipM (by rfl) T.z_zip (aA (pv 2) (aA (hJ sl_list (pv 1) (gv aF) po_none) aD)))
   (λL fp C' s' d=>by exact(jm (K:=K) (n:=2) rfl rfl (bJ (bD (i:=0) (show(["kind","word"]:List Str).Nodup by decide+kernel) rfl (Or.inl rfl)) (bJ (bD (i:=1) (show(["kind","word"]:List Str).Nodup by decide+kernel) rfl (Or.inl rfl)) dH)))) (λL fp C' s' d ps=>by exact fE)
   (λL fp C' s' d ps=>by exact(aZ (ok_read_wordX T) hr (passC rfl rfl) (aA (pv 0) (aA (pv 1) aD))))
   (Clos.none (by decide+kernel) (by decide+kernel)) (Reads.many (ys:=[]) (js:=[]) True.intro))))
   (aB (aW (PW.pt (d9 (aK bL (aN aU (pv 1) aF (λ_ _=>rfl)) aT (aS _)) (dP (aK bL (aN aU (pv 3) aF (λ_ _=>rfl)) (aN aU (pv 3) aF (λ_ _=>rfl)) (aS _))))) (aE (jl xout1 rfl hr.hd (by rfl) T.mg_NoRow T.ex_NoRow (aA aT aD))) aJ)
   (aE (aM (pv 3)))))))),?_]
  try dsimp only[bF,Cx.nox,Cx.wish]
  generalize ab:tCut _ _=k9
  revert k9
  refine jv λk9 ab=>?_;have sz:=J.size;have sp:=J.split;let#[_,_,lk]:=ie J.at_;have lc:=J.len;generalize hz:Str.join #[(List.toArray [32])] (hd::cs.map Wd.txt)=z at sz sp⊢;subst ab;refine dX (λu d=>yE1 λp=>u=[some (.str z),some (.ref p),none,none]×' Same H d×' d p=some (.lst ((hd::cs.map Wd.txt).map V.str))) ?_ ?_
  ·refine#[9,8,7,8,jK sz (by decide),?_,λp np=>?_]
   ·show(Txt.split z #[(List.toArray [32])]).length<=_;rw[sp,jU,jE];exact jK (show _<=7 by lia) (by decide)
   ·have e:Txt.split z " "=hd::cs.map Wd.txt:=sp;rw[e];exact#[p,8,aI np,aC]
  rintro zU b u H1⟨p,rfl,s1,hp⟩;have sq:=SqL.of (K:=K) hp;subst b;refine dX (λu d=>yE1 λt=>u=[some (.str z),some (.ref p),some (.ref t),none]×' d=H1×'∀H'',SqT K H'' t (kds.map V.str)) ?_ ?_
  ·refine#[9,p,_,7,sq,at0,hd,8,λss t e ah=>?_,λe=>?_]
   ·rw[J.at_]at e
    cases e;exact#[t,8,8,ah]
   ·rw[J.at_]at e
    cases e
  rintro zU b u H2⟨t,rfl,rfl,Y⟩;subst b;refine dX (λu d=>u=[some (.str z),some (.ref p),some (.ref t),none]/\d=H2) ?_ ?_
  ·refine#[9,8,9,aX (jI (by simp)) ?_];refine#[9,p,9,.inl sq,9,t,9,.inr (Y _),7,8,9,iO ?_ #[8,8]];show V.int _=V.int _;rw[jE,jU,jE,jE,lc];rfl
  rintro zU b u H3⟨rfl,rfl⟩;subst b;refine dX (λu d=>badW kds cs=false/\yE2 λl Z=>u=[some (.str z),some (.ref p),some (.ref t),some (.ref l)]×' H l=none×' Same H d×' Same H3 d×' d l=some (.lst (.str hd::Z))×' RowAt (WdIs a) d Z cs) ?_ ?_
  ·refine#[9,p,_,7,sq,at0,zL1,λl0 n0=>?_];let#[H4,zq,W,h0]:=uG (o:=.lst [.str hd]) n0;rw[zq];have ai:=W.seq sq;refine#[9,9,9,p,9,ai,λl1 n1=>?_];have e1:cutV ((hd::cs.map Wd.txt).map V.str) (some 1) none=(cs.map Wd.txt).map V.str:=(cut_drop 1).trans rfl;have s5:=aI (o:=.lst ((cs.map Wd.txt).map V.str)) n1;have h1:upd H4 l1 (.lst ((cs.map Wd.txt).map V.str)) l1=some (.lst ((cs.map Wd.txt).map V.str)):=aC;rw[e1];generalize upd H4 l1 (.lst ((cs.map Wd.txt).map V.str))=H5 at s5 h1⊢;have aa:=W.trans s5;have aj:=s5 _ _ h0;refine#[t,l1,_,9,Y _,SqL.of h1,λq nq=>?_];have B:min (kds.map V.str).length ((cs.map Wd.txt).map V.str).length=cs.length:=by rw[jE,jE,jE];lia
   refine compG_zipM (K:=K) (λi M=>i<=cs.length×'(∀j m c,j<i->kds[j]?=some m->cs[j]?=some c->c.bad m=false)×' Same H5 M×'∃G,M q=some (.lst G)/\RowAt (WdIs a) M G (cs.take i)) #[jZ _,(λj _ _ h=>absurd h (Nat.not_lt_zero j)),aI nq,[],aC,RowAt.nil] ((by rintro i M⟨_,_,U,_⟩;exact#[Y _,SqL.of (U _ _ h1)])) ?_ ?_
   ·rintro i x y tt M hx hy nt⟨_,I,U,G,h6,hv⟩zs af;rw[jM]at hx hy;let#[m,ek,8]:=kq.mp hx;let#[y',ey,8]:=kq.mp hy;rw[jM]at ey;let#[c,ec,8]:=kq.mp ey;have hi:i<cs.length:=(jH.mp ec).1;let#[H7,zq,X,ht]:=uG (o:=.tup [.str m,.str c.txt]) nt;rw[zq]
    match zs,af with
    |[w1,w2],_=>
     refine#[tt,[.str m,.str c.txt],8,SqT.of ht,8,.str m,[.str c.txt],8,#[.str c.txt,[],8,#[8,#[[_,_],8,8],yes ?_]]];refine#[9,9,m,c,8,J.ok i m c ek ec,λeb v H8 s8 S=>?_,λeb H8 s8=>kx (by unfold fv;rw[badW_of ek ec eb];rfl) _ ?_]
     rotate_left
     ·exact s1.trans ((aa.trans (U.trans X)).trans s8)
     have R:=X.trans s8;have h8:=R _ _ h6;have ae:G.length<=10:=by rw[hv.1,kc];lia
     refine#[_,h8,bB (),gM (by rw[B];exact hi) #[hi,(λj ag c' hj e1 e2=>by
      rcases Nat.lt_succ_iff_lt_or_eq.mp hj with hj|rfl
      ·exact I j ag c' hj e1 e2
      ·rw[ek]at e1;rw[ec]at e2;cases e1;cases e2;exact eb),bY nq (U.trans R),_,aC,?_]]
     have ko:∀v x,WdIs a H8 v x->WdIs a (upd H8 q (.lst (G++[v]))) v x:=λv' x h=>by
      cases x with
      |nm z=>exact h
      |fr x=>let#[r,e,dx,f]:=h;exact#[r,e,dx,by rw[aG (bK f h8 (by intro z;cases z))];exact f]
      |no=>exact h
     rw[j4,ec,j6];refine RowAt.snoc (hv.mono λv' x h=>?_) ?_
     ·have h:=h.mono R
      cases x with
      |nm z=>exact h
      |fr x=>let#[r,e,dx,f]:=h;exact#[r,e,dx,by rw[aG (bK f h8 (by intro z;cases z))];exact f]
      |no=>exact h
     ·cases c with
      |nm z=>exact S
      |fr x=>let#[r,e,dx,f]:=S;exact#[r,e,dx,by rw[aG (bK f h8 (by intro z;cases z))];exact f]
      |no=>exact S
   ·rintro M⟨_,I,U,G,h6,hv⟩;rw[B,ke]at hv;rw[B]at I;have O:=aa.trans U;have ae:G.length<=6:=by rw[hv.1];lia
    refine#[l0,q,7,U _ _ aj,h6,jK (show 1+G.length<=7 by lia) (by decide),λl2 n2=>?_];have N:=aI (o:=.lst ([.str hd]++G)) n2;exact#[badW_not lc I,l2,G,8,(s1.trans O).free n2,s1.trans (O.trans N),O.trans N,aC,hv.mono λv x h=>h.mono N]
  rintro zU b u H4⟨bw,l,Z,rfl,nl,W,ad,hl,D⟩;have ac:=SqL.of (K:=K) hl;subst b;refine#[9,p,_,7,ad.seq sq,at0,8,9,?_];by_cases hw:hd="way"
  ·subst hw;let#[n,s',g,x,hi,c,8,_]:=way_shape J
   obtain⟨u0,u1,u2,u3,u4,u5,rfl⟩:yE6 λu0 u1 u2 u3 u4 u5=>Z=[u0,u1,u2,u3,u4,u5]:=by
    match Z,D.1 with
    |[u0,u1,u2,u3,u4,u5],_=>exact#[_,_,_,_,_,9]
   obtain rfl:u1=.str s':=D.2 1 _ _ rfl rfl;obtain rfl:u2=.str g:=D.2 2 _ _ rfl rfl;refine bT (jL rfl) ?_;refine#[9,l,_,7,ac,8,9,l,_,7,ac,8,8,9,?_];by_cases e:s'=g
   ·refine bT (jL (kI V.str e)) #[5,kx ?_ _ W];show(badW _ _||(decide (("way":Str)="way")&&decide (s'=g)))=true;rw[jL e,jL rfl,bw];rfl
   ·refine aX (jI λz=>e (V.str.inj z)) #[9,k ?_ l H4 _ nl W hl D];show(badW _ _||(decide (("way":Str)="way")&&decide (s'=g)))=false;rw[jI e,Bool.and_false,bw];rfl
  ·refine aX (jI λz=>hw (V.str.inj z)) (iteF #[9,k ?_ l H4 Z nl W hl D]);unfold fv;rw[bw,Bool.false_or];unfold sameW
   split
   ·rw[jI hw,Bool.false_and]
   ·rfl
end
end G
namespace G
open PySem L2
section
abbrev fsD(dw dy da:Addr):List (Str×V):=[("wants",.ref dw),("ways",.ref dy),("amounts",.ref da),("prices",.non),("bounds",.non)]
def cJ(h:g≠f):bI f v ((g,x)::r)=(g,x)::bI f v r:=if_neg h
def putF_eq:bI f v ((f,x)::r)=(f,v)::r:=if_pos rfl
def fsD_new(dw dy da:Addr):bI "bounds" .non (bI "prices" .non (bI "amounts" (.ref da) (bI "ways" (.ref dy) (bI "wants" (.ref dw) []))))=fsD dw dy da:=by
 show bI "bounds" .non (bI "prices" .non (bI "amounts" (.ref da) (bI "ways" (.ref dy) [(("wants":Str),V.ref dw)])))=_;rw[cJ (by decide+kernel)];show bI "bounds" .non (bI "prices" .non (bI "amounts" (.ref da) [(("wants":Str),V.ref dw),(("ways":Str),V.ref dy)]))=_;rw[cJ (by decide+kernel),cJ (by decide+kernel)];show bI "bounds" .non (bI "prices" .non [(("wants":Str),V.ref dw),(("ways":Str),V.ref dy),(("amounts":Str),V.ref da)])=_;rw[cJ (by decide+kernel),cJ (by decide+kernel),cJ (by decide+kernel)];show bI "bounds" .non [(("wants":Str),V.ref dw),(("ways":Str),V.ref dy),(("amounts":Str),V.ref da),(("prices":Str),V.non)]=_;rw[cJ (by decide+kernel),cJ (by decide+kernel),cJ (by decide+kernel),cJ (by decide+kernel)];rfl
def fsD_p(dw dy da:Addr):bI "prices" .non (fsD dw dy da)=fsD dw dy da:=by
 unfold fsD;rw[cJ (by decide+kernel),cJ (by decide+kernel),cJ (by decide+kernel),putF_eq]
def fsD_b(dw dy da:Addr):bI "bounds" .non (fsD dw dy da)=fsD dw dy da:=by
 unfold fsD;rw[cJ (by decide+kernel),cJ (by decide+kernel),cJ (by decide+kernel),cJ (by decide+kernel),putF_eq]
def fsD_am(dw dy da db:Addr):bI "amounts" (.ref db) (fsD dw dy da)=fsD dw dy db:=by
 unfold fsD;rw[cJ (by decide+kernel),cJ (by decide+kernel),putF_eq]
def fsD_w(dw dy da:Addr):(fsD dw dy da).lookup ("wants":Str)=some (.ref dw):=rfl
def fsD_y(dw dy da:Addr):(fsD dw dy da).lookup ("ways":Str)=some (.ref dy):=by
 unfold fsD;rw[kC,show(("ways":Str)=="wants")=false by decide+kernel];rfl
def fsD_a(dw dy da:Addr):(fsD dw dy da).lookup ("amounts":Str)=some (.ref da):=by
 unfold fsD;rw[kC,show(("amounts":Str)=="wants")=false by decide+kernel,kC,show(("amounts":Str)=="ways")=false by decide+kernel];rfl
def ej(dw dy da:Addr){m:Str}(h:(m=="wants"||m=="ways"||m=="amounts"||m=="prices"||m=="bounds")=false):(fsD dw dy da).lookup m=none:=by
 simp only[Bool.or_eq_false_iff]at h;unfold fsD;rw[kC,h.1.1.1.1,kC,h.1.1.1.2,kC,h.1.1.2,kC,h.1.2,kC,h.2];rfl
structure DS where
 ks:List Str
 f:Str->Rat
 ws:List Str
 g:Str->WD
 as:List Str
 A:Str->Rat
structure DeskAt(a:Ad)(H:Hp)(p dw dy da:Addr)(S:DS):Prop where
 ob:∃dx,H p=some (.ins a.Desk dx (fsD dw dy da))
 wa:∃kvs,H dw=some (.dK kvs)/\Tab (FrIs a) H kvs S.ks S.f
 wy:∃kvs,H dy=some (.dK kvs)/\Tab (WayIs a) H kvs S.ws S.g
 am:∃kvs,H da=some (.dK kvs)/\Tab (FrIs a) H kvs S.as S.A
 n1:dw≠dy
 n2:dw≠da
 n3:dy≠da
def DeskAt.mono(h:DeskAt a H p dw dy da S)(s:Same H H'):DeskAt a H' p dw dy da S:=by
 let#[r,e]:=h.ob;let#[d,m,l]:=h.wa;let#[i,b,o]:=h.wy;let#[c,j,q]:=h.am;exact#[#[r,s _ _ e],#[d,s _ _ m,l.mono λ_ _ z=>FrIs.mono z s],#[i,s _ _ b,o.mono λ_ _ z=>z.mono s],#[c,s _ _ j,q.mono λ_ _ z=>FrIs.mono z s],h.n1,h.n2,h.n3]
abbrev Stp(p dw dy da db:Addr)(H H':Hp):Prop:=∀b o,H b=some o->b≠p->b≠dw->b≠dy->b≠da->H' b=some o/\b≠db
def Stp.of(s:Same H H'):Stp p dw dy da da H H':=λb o e _ _ _ n=>#[s b o e,n]
def Stp.trans(s:Stp p dw dy da db H H')(t:Stp p dw dy db dc H' H''):Stp p dw dy da dc H H'':=λb o e a c d h=>
 let⟨q,n5⟩:=s b o e a c d h;t b o q a c d n5
inductive IspDeskI(a:Ad)(vs:List V)(H:Hp)(Q:VK):Prop
 |mk(p dx:Addr)(h1:vs=[.ref p])(h2:H p=some (.ins a.Desk dx []))(h3:∀H' dw dy da,H dw=none->H dy=none->H da=none->(∀b o,H b=some o->b≠p->H' b=some o)->(∀f g A,DeskAt a H' p dw dy da ⟨[],f,[],g,[],A⟩)->Q .non H'):IspDeskI a vs H Q
abbrev spDeskI(a:Ad):Sp:=λvs H Q _=>IspDeskI a vs H Q
def mk_Desk(T:TX K mg a):MkB P w K mg base CX0 a.Desk 1 ["self"] [] (spDeskI a):=by
 refine T.i_Desk.ok sc_Desk_init (λvs H Q E h=>?_) (λf aa A W s H vs Q E hr h=>?_) _ (by simp)
 ·let#[_,_,8,_]:=h;rfl
 ·let#[p,i,8,hp,k]:=h
  refine#[_,(aB (cY (pv 0) di rfl)
   (aB (cY (pv 0) di rfl)
   (aB (cY (pv 0) di rfl)
   (aB (cY (pv 0) cB rfl)
   (aE (cY (pv 0) cB rfl)))))),?_]
  try dsimp only[bF,Cx.nox,Cx.wish]
  intro c F;have O:=aI (o:=.dK []) F;have X:upd H c (.dK []) c=some (.dK []):=aC;have p1:=O _ _ hp;have r:c≠p:=λz=>by rw[z,hp]at F;cases F
  generalize upd H c (.dK [])=B at O X p1⊢;refine#[9,p,a.Desk,i,[],8,p1,T.cl_Desk,T.na_Desk_wants,5,?_];have G:∀b o,H b=some o->b≠p->upd B p (.ins a.Desk i (bI "wants" (.ref c) [])) b=some o:=λb o e n=>by rw[aG n];exact O _ _ e
  have I:upd B p (.ins a.Desk i (bI "wants" (.ref c) [])) c=some (.dK []):=by rw[aG r];exact X
  have p2:upd B p (.ins a.Desk i (bI "wants" (.ref c) [])) p=some (.ins a.Desk i (bI "wants" (.ref c) [])):=aC;generalize upd B p (.ins a.Desk i (bI "wants" (.ref c) []))=R at G I p2⊢;intro d q;have J:=aI (o:=.dK []) q;have Z:upd R d (.dK []) d=some (.dK []):=aC;have p3:=J _ _ p2;have w3:=J _ _ I;have m:d≠p:=λz=>by rw[z,p2]at q;cases q
  have v:c≠d:=λz=>by rw[<-z,I]at q;cases q
  have h3:H d=none:=by
   cases e:H d with
   |none=>rfl
   |some o=>rw[G _ _ e m]at q;cases q
  have k3:∀b o,H b=some o->b≠p->upd R d (.dK []) b=some o:=λb o e n=>J _ _ (G b o e n);generalize upd R d (.dK [])=u at k3 Z p3 w3⊢;refine#[9,p,a.Desk,i,9,p3,T.cl_Desk,T.na_Desk_ways,j8 (bM (jJ 0)) (by decide),?_];have L:∀b o,H b=some o->b≠p->upd u p (.ins a.Desk i (bI "ways" (.ref d) (bI "wants" (.ref c) []))) b=some o:=λb o e n=>by rw[aG n];exact k3 _ _ e n
  have S:upd u p (.ins a.Desk i (bI "ways" (.ref d) (bI "wants" (.ref c) []))) c=some (.dK []):=by rw[aG r];exact w3
  have N:upd u p (.ins a.Desk i (bI "ways" (.ref d) (bI "wants" (.ref c) []))) d=some (.dK []):=by rw[aG m];exact Z
  have M:upd u p (.ins a.Desk i (bI "ways" (.ref d) (bI "wants" (.ref c) []))) p=some (.ins a.Desk i (bI "ways" (.ref d) (bI "wants" (.ref c) []))):=aC;generalize upd u p (.ins a.Desk i (bI "ways" (.ref d) (bI "wants" (.ref c) [])))=U at L S N M⊢;intro j l;have D:=aI (o:=.dK []) l;have a5:upd U j (.dK []) j=some (.dK []):=aC;have Y:=D _ _ M;have w5:=D _ _ S;have y5:=D _ _ N;have x:j≠p:=λz=>by rw[z,M]at l;cases l
  have t:c≠j:=λz=>by rw[<-z,S]at l;cases l
  have y:d≠j:=λz=>by rw[<-z,N]at l;cases l
  have h5:H j=none:=by
   cases e:H j with
   |none=>rfl
   |some o=>rw[L _ _ e x]at l;cases l
  have k5:∀b o,H b=some o->b≠p->upd U j (.dK []) b=some o:=λb o e n=>D _ _ (L b o e n);generalize upd U j (.dK [])=H5 at k5 a5 y5 Y w5⊢;refine#[9,p,a.Desk,i,9,Y,T.cl_Desk,T.na_Desk_amounts,j8 (bM (bM (jJ 0))) (by decide),?_];refine#[9,p,a.Desk,i,9,aC,T.cl_Desk,T.na_Desk_prices,j8 (bM (bM (bM (jJ 0)))) (by decide),?_];rw[i7];refine#[9,p,a.Desk,i,9,aC,T.cl_Desk,T.na_Desk_bounds,j8 (bM (bM (bM (bM (jJ 0))))) (by decide),?_];rw[i7,fsD_new];refine k _ c d j F h3 h5 (λb o e n=>by rw[aG n];exact k5 b o e n) λf g A=>#[#[i,aC],#[[],by rw[aG r];exact w5,Tab.nil],#[[],by rw[aG m];exact y5,Tab.nil],#[[],by rw[aG x];exact a5,Tab.nil],v,t,y]
inductive IspForget(a:Ad)(vs:List V)(H:Hp)(Q:VK):Prop
 |mk(p dx dw dy da:Addr)(h1:vs=[.ref p])(h2:H p=some (.ins a.Desk dx (fsD dw dy da)))(h3:Q .non H):IspForget a vs H Q
abbrev gU(a:Ad):Sp:=λvs H Q _=>IspForget a vs H Q
def cQ(T:TX K mg a):MtB P w K mg base CX0 a.Desk "forget_prices" 1 ["self"] (gU a):=by
 refine T.m_Desk_forget_prices.ok gP (λe H Q E h=>?_) (λf i A c s H e Q E o h=>?_)
 ·let#[_,_,_,_,_,8,_]:=h;rfl
 ·let#[p,d,m,l,j,8,b,k]:=h
  refine#[_,(aB (cY (pv 0) cB rfl)
   (aE (cY (pv 0) cB rfl))),?_]
  try dsimp only[bF,Cx.nox,Cx.wish]
  refine#[9,p,a.Desk,d,9,b,T.cl_Desk,T.na_Desk_prices,by show 5<1000;decide,?_];rw[fsD_p,upd_id b];refine#[9,p,a.Desk,d,9,b,T.cl_Desk,T.na_Desk_bounds,by show 5<1000;decide,?_];rw[fsD_b,upd_id b];exact k
inductive IspRefP(a:Ad)(vs:List V)(H:Hp)(Q:VK)(E:XK):Prop
 |mk(p dw dy da:Addr)(S:DS)(n:Str)(h1:vs=[.ref p,.str n])(h2:DeskAt a H p dw dy da S)(h3:n.length<=1000)(h4:(n∈S.ks->Q .non H))(h5:(¬n∈S.ks->NoPlaceE a H n E)):IspRefP a vs H Q E
abbrev spRefP(a:Ad):Sp:=λvs H Q E=>IspRefP a vs H Q E
def dD(T:TX K mg a):MtB P w K mg base (CX1 P w) a.Desk "refuse_place" 3 ["self","place"] (spRefP a):=by
 refine T.m_Desk_refuse_place.okX gW (λe H Q E h=>?_) (λf o A b s H e Q E c h=>?_)
 ·let#[_,_,_,_,_,_,8,_]:=h;rfl
 ·let#[p,l,u,t,S,n,8,D,ln,k,r]:=h;refine#[_,(aE (aW (eC (cZ (cA c) (pv 1) (bE (pv 0) rfl))) (aE (ps_raiseI xout1 rfl c (by rfl) T.mg_NoPlace (xi_NoPlace T) (aA (pv 1) aD))) aJ)),?_];try dsimp only[bF,Cx.nox,Cx.wish]
  let#[m,q]:=D.ob;let#[d,j,tb]:=D.wa;refine#[9,9,p,_,m,_,9,q,T.cl_Desk,T.na_Desk_wants,fsD_w _ _ _,l,9,DGet.k (k:=Sum.inr n) j,9,?_];by_cases hn:n∈S.ks
  ·let#[v,i,_]:=tb.vals n hn;rw[i];exact iteF (k hn)
  ·rw[tb.none hn];exact iteT #[9,raise_np ln (r hn)]
inductive Rw where
 |place(n:Str)(x:Rat)
 |way(n s g:Str)(x:Rat)(h:Option Rat)(c:Rat)
 |drop(n:Str)
 |send(n:Str)(x:Rat)
 |amount(n:Str)
 |sum(n:Str)
 |cost
 |look
abbrev hiW:Option Rat->Wd
 |none=>.no
 |some y=>.fr y
abbrev Rw.hd:Rw->Str
 |.place _ _=>"place"
 |.way _ _ _ _ _ _=>"way"
 |.drop _=>"drop"
 |.send _ _=>"send"
 |.amount _=>"amount"
 |.sum _=>"sum"
 |.cost=>"cost"
 |.look=>"look"
abbrev Rw.cs:Rw->List Wd
 |.place n x=>[.nm n,.fr x]
 |.way n s g x h c=>[.nm n,.nm s,.nm g,.fr x,hiW h,.fr c]
 |.drop n=>[.nm n]
 |.send n x=>[.nm n,.fr x]
 |.amount n=>[.nm n]
 |.sum n=>[.nm n]
 |.cost=>[]
 |.look=>[]
abbrev smallR(x:Rat):Prop:=x.num.natAbs<10^9/\x.den<10^9
abbrev Rw.ok:Rw->Prop
 |.place n x=>dN n=true/\smallR x
 |.way n s g x h c=>dN n=true/\dN s=true/\dN g=true/\smallR x/\smallR c/\∀y,h=some y->smallR y
 |.drop n=>dN n=true
 |.send n x=>dN n=true/\smallR x
 |.amount n=>dN n=true
 |.sum n=>dN n=true
 |.cost=>True
 |.look=>True
abbrev Rw.kds:Rw->List Str
 |.place _ _=>["name","fraction"]
 |.way _ _ _ _ _ _=>["name","name","name","gain","high","fraction"]
 |.drop _=>["name"]
 |.send _ _=>["name","fraction"]
 |.amount _=>["name"]
 |.sum _=>["name"]
 |.cost=>[]
 |.look=>[]
def rowOk1(e:PyProof.Rows.KTD.datumAt hd dG=some (["name"]:List Str))(h:dN n=true):RowOk hd ["name"] [.nm n]:=
 #[e,8,λj d c a b=>by
  match j with
  |0=>cases a;cases b;exact#[8,h]
  |j+1=>cases a]
def rowOk2(e:PyProof.Rows.KTD.datumAt hd dG=some (["name","fraction"]:List Str))(h:dN n=true)(hx:smallR x):RowOk hd ["name","fraction"] [.nm n,.fr x]:=
 #[e,8,λj d c a b=>by
  match j with
  |0=>cases a;cases b;exact#[8,h]
  |1=>cases a;cases b;exact#[.inl rfl,hx]
  |j+2=>cases a]
def rowOk0(e:PyProof.Rows.KTD.datumAt hd dG=some ([]:List Str)):RowOk hd [] []:=#[e,8,λj d c a b=>by cases a]
def Rw.rowOk{r:Rw}(h:r.ok):RowOk r.hd r.kds r.cs:=by
 cases r with
 |place n x=>exact rowOk2 (hd:="place") (by decide) h.1 h.2
 |send n x=>exact rowOk2 (hd:="send") (by decide) h.1 h.2
 |drop n=>exact rowOk1 (hd:="drop") (by decide) h
 |amount n=>exact rowOk1 (hd:="amount") (by decide) h
 |sum n=>exact rowOk1 (hd:="sum") (by decide) h
 |cost=>exact rowOk0 (hd:="cost") (by decide)
 |look=>exact rowOk0 (hd:="look") (by decide)
 |way n s g x hh co=>
  refine#[(by decide:PyProof.Rows.KTD.datumAt ("way":Str) dG=some (["name","name","name","gain","high","fraction"]:List Str)),8,λj d c a b=>?_]
  match j with
  |0=>cases a;cases b;exact#[8,h.1]
  |1=>cases a;cases b;exact#[8,h.2.1]
  |2=>cases a;cases b;exact#[8,h.2.2.1]
  |3=>cases a;cases b;exact#[.inr (.inl rfl),h.2.2.2.1]
  |4=>
   cases a;obtain rfl:hiW hh=c:=kh b
   cases hh with
   |none=>exact rfl
   |some y=>exact#[.inr (.inr rfl),h.2.2.2.2.2 y rfl]
  |5=>cases a;cases b;exact#[.inl rfl,h.2.2.2.2.1]
  |j+6=>cases a
abbrev Words(a:Ad)(H:Hp)(l:Addr)(r:Rw):Prop:=∃us,H l=some (.lst (.str r.hd::us))/\RowAt (WdIs a) H us r.cs
def Words.mono(h:Words a H l r)(s:Same H H'):Words a H' l r:=by
 let#[us,e,k]:=h;exact#[us,s _ _ e,k.mono λ_ _ z=>z.mono s]
def words2(e0:r.cs=[.nm n,.fr x])(h:Words a H l r):∃q,H l=some (.lst [.str r.hd,.str n,.ref q])/\FrAt a.Fraction H q x:=by
 let#[d,e,k]:=h;rw[e0]at k
 obtain⟨b,c,rfl⟩:∃b c,d=[b,c]:=by
  match d,k.1 with
  |[b,c],_=>exact#[_,9]
 obtain rfl:b=.str n:=k.2 0 _ _ rfl rfl;let#[q,8,f]:=k.2 1 _ _ rfl rfl;exact#[q,e,f]
def gm(e0:r.cs=[.nm n])(h:Words a H l r):H l=some (.lst [.str r.hd,.str n]):=by
 let#[c,e,k]:=h;rw[e0]at k
 obtain⟨b,rfl⟩:∃b,c=[b]:=by
  match c,k.1 with
  |[b],_=>exact#[9]
 obtain rfl:b=.str n:=k.2 0 _ _ rfl rfl;exact e
def words0(e0:r.cs=[])(h:Words a H l r):H l=some (.lst [.str r.hd]):=by
 let#[b,e,k]:=h;rw[e0]at k
 obtain rfl:b=[]:=by
  match b,k.1 with
  |[],_=>rfl
 exact e
def Words.way(h:Words a H l (.way n s g x hh c)):∃q vh qc,H l=some (.lst [.str "way",.str n,.str s,.str g,.ref q,vh,.ref qc])/\FrAt a.Fraction H q x/\HiT a H vh hh/\FrAt a.Fraction H qc c:=by
 let#[p,e,k]:=h
 obtain⟨j,d,i,m,b,o,rfl⟩:∃j d i m b o,p=[j,d,i,m,b,o]:=by
  match p,k.1 with
  |[j,d,i,m,b,o],_=>exact#[_,_,_,_,_,9]
 obtain rfl:j=.str n:=k.2 0 _ _ rfl rfl;obtain rfl:d=.str s:=k.2 1 _ _ rfl rfl;obtain rfl:i=.str g:=k.2 2 _ _ rfl rfl;let#[q,8,f]:=k.2 3 _ _ rfl rfl;have r:WdIs a H b (hiW hh):=k.2 4 _ _ rfl rfl;let#[c,8,t]:=k.2 5 _ _ rfl rfl;refine#[q,b,c,e,f,?_,t]
 cases hh with
 |none=>exact r
 |some y=>exact r
abbrev DS.miss(S:DS):Rw->Option (Nat×Str)
 |.way _ s g _ _ _=>if s∈S.ks then if g∈S.ks then none else some (1,g)else some (1,s)
 |.sum n=>if n∈S.ks then none else some (1,n)
 |.drop n=>if n∈S.ws then none else some (2,n)
 |.send n _=>if n∈S.ws then none else some (2,n)
 |.amount n=>if n∈S.ws then none else some (2,n)
 |_=>none
abbrev NoE(a:Ad)(H:Hp)(x:Nat×Str)(E:XK):Prop:=(x.1=1->NoPlaceE a H x.2 E)/\(x.1=2->NoWayE a H x.2 E)
def NoPlaceE.pre(h:NoPlaceE a H n E)(s:Same H H1):NoPlaceE a H1 n E:=λc d b e=>h c d (s.trans b) e
def NoWayE.pre(h:NoWayE a H n E)(s:Same H H1):NoWayE a H1 n E:=λc d b e=>h c d (s.trans b) e
abbrev Rw.lens(r:Rw):Prop:=∀z∈r.cs,∀n,z=.nm n->n.length<=8
def Rw.len8{r:Rw}(h:r.ok):r.lens:=by
 intro z a n e;obtain⟨kd,ok⟩:∃kd,z.ok kd:=(Rw.rowOk h).each a;subst e;exact(eX ok.2).2.1
inductive IspRefM(a:Ad)(vs:List V)(H:Hp)(Q:VK)(E:XK):Prop
 |mk(p dw dy da:Addr)(S:DS)(l:Addr)(r:Rw)(h1:vs=[.ref p,.ref l])(h2:DeskAt a H p dw dy da S)(h3:Words a H l r)(h4:r.ok)(h5:(S.miss r=none->∀H',Same H H'->Q .non H'))(h6:(∀x,S.miss r=some x->NoE a H x E)):IspRefM a vs H Q E
abbrev spRefM(a:Ad):Sp:=λvs H Q E=>IspRefM a vs H Q E
def ge(T:TX K mg a):MtB P w K mg base (CX1 P w) a.Desk "refuse_missing" 4 ["self","words"] (spRefM a):=by
 refine T.m_Desk_refuse_missing.okX gt (λvs H Q E h=>?_) (λf aa A Z s H vs Q E R h=>?_)
 ·let#[_,_,_,_,_,_,_,8,_]:=h;rfl
 ·let#[p,X,F,U,S,l,r,8,D,W,ok,k,I]:=h
  refine#[_,(aB (aW (aK bL (aN aU (pv 1) aF (λ_ _=>rfl)) aT (aS _)) (aB (bG (eD (CX:=CX1 P w) (pv 0) R pass1 (aA (aN aU (pv 1) aF (λ_ _=>rfl)) aD)))
   (aE (bG (eD (CX:=CX1 P w) (pv 0) R pass1 (aA (aN aU (pv 1) aF (λ_ _=>rfl)) aD))))) aJ)
   (aB (aW (aK im (aN aU (pv 1) aF (λ_ _=>rfl)) (cH (aA aT (aA aT (aA aT aD)))) (by with_unfolding_all rfl)) (aE (bG (eD (CX:=CX1 P w) (pv 0) R pass1 (aA (aN aU (pv 1) aF (λ_ _=>rfl)) aD)))) aJ)
   (aE (aW (PW.pt (d9 (aK im (aN aU (pv 1) aF (λ_ _=>rfl)) (cH (aA aT (aA aT (aA aT (aA aT aD))))) (by with_unfolding_all rfl)) (dP (eC (cZ (cA R) (aN aU (pv 1) aF (λ_ _=>rfl)) (bE (pv 0) rfl)))))) (aE (ps_raiseI xout1 rfl R (by rfl) T.mg_NoWay (xi_NoWay T) (aA (aN aU (pv 1) aF (λ_ _=>rfl)) aD))) aJ)))),?_]
  try dsimp only[bF,Cx.nox,Cx.wish]
  let#[J,L]:=D.ob;have G:=ej X F U (m:="refuse_place") (by decide+kernel);have ln:=Rw.len8 ok
  cases r with
  |place n x=>
   obtain⟨q,j,fq⟩:∃q,H l=some (.lst [.str "place",.str n,.ref q])/\FrAt a.Fraction H q x:=words2 rfl W;have c:=SqL.of (K:=K) j;refine#[9,l,_,7,c,8,8,9,aX (by decide) ?_];refine#[9,l,_,7,c,8,zL3,λt u=>?_];have d:=aI (o:=.tup [.str "sum",.str "price",.str "most"]) u;refine#[t,9,.inr (SqT.of aC),8,8,9,aX (by decide) ?_];generalize upd H t (.tup [.str "sum",.str "price",.str "most"])=z at d⊢;refine#[9,l,_,7,d.seq c,8,zL4,λi e=>?_];have y:=aI (o:=.tup [.str "drop",.str "send",.str "amount",.str "bound"]) e;have b:=d.trans y;refine#[i,9,.inr (SqT.of aC),8,8,9,aX (by decide) (iteF ?_)];exact k rfl _ b
  |send n x=>
   obtain⟨q,j,fq⟩:∃q,H l=some (.lst [.str "send",.str n,.ref q])/\FrAt a.Fraction H q x:=words2 rfl W;have c:=SqL.of (K:=K) j;refine#[9,l,_,7,c,8,8,9,aX (by decide) ?_];refine#[9,l,_,7,c,8,zL3,λt u=>?_];have d:=aI (o:=.tup [.str "sum",.str "price",.str "most"]) u;refine#[t,9,.inr (SqT.of aC),8,8,9,aX (by decide) ?_];generalize upd H t (.tup [.str "sum",.str "price",.str "most"])=z at d⊢;refine#[9,l,_,7,d.seq c,8,zL4,λi e=>?_];have y:=aI (o:=.tup [.str "drop",.str "send",.str "amount",.str "bound"]) e;have b:=d.trans y;refine#[i,9,.inr (SqT.of aC),8,8,9,bT (by decide) ?_];generalize upd z i (.tup [.str "drop",.str "send",.str "amount",.str "bound"])=H2 at b⊢;let#[O,N,tb]:=D.wy;refine#[9,l,_,7,b.seq c,8,9,p,_,J,_,9,b _ _ L,T.cl_Desk,T.na_Desk_ways,fsD_y _ _ _,F,9,DGet.k (k:=Sum.inr n) (b _ _ N),9,?_];by_cases hn:n∈S.ws
   ·let#[v,M,_]:=tb.vals n hn;rw[M];exact iteF (k (if_pos hn) _ b)
   ·rw[tb.none hn];exact iteT #[9,l,_,7,b.seq c,8,raise_nw (by have:=ln (.nm n) (by simp[Rw.cs]) n rfl;lia) (NoWayE.pre ((I (2,n) (if_neg hn)).2 rfl) b)]
  |way n st go x hi co=>
   let#[q,vh,qc,j,fq,hh,fc]:=W.way;have c:=SqL.of (K:=K) j;refine#[9,l,_,7,c,8,8,9,bT (by decide) ?_];refine#[9,p,a.Desk,J,_,3,["self","place"],spRefP a,8,L,G,T.cl_Desk,5,dD T,9,l,_,7,c,8,p,X,F,U,S,st,8,D,by have:=ln (.nm st) (by simp[Rw.cs]) st rfl;lia,λB=>?_,λB=>(I (1,st) (if_neg B)).1 rfl];refine#[9,p,a.Desk,J,_,3,["self","place"],spRefP a,8,L,G,T.cl_Desk,5,dD T,9,l,_,7,c,8,p,X,F,U,S,go,8,D,by have:=ln (.nm go) (by simp[Rw.cs]) go rfl;lia,λY=>?_,λY=>(I (1,go) ((if_pos B).trans (if_neg Y))).1 rfl];refine#[9,l,_,7,c,8,zL3,λt u=>?_];have d:=aI (o:=.tup [.str "sum",.str "price",.str "most"]) u;refine#[t,9,.inr (SqT.of aC),8,8,9,aX (by decide) ?_];generalize upd H t (.tup [.str "sum",.str "price",.str "most"])=z at d⊢;refine#[9,l,_,7,d.seq c,8,zL4,λi e=>?_];have y:=aI (o:=.tup [.str "drop",.str "send",.str "amount",.str "bound"]) e;have b:=d.trans y;refine#[i,9,.inr (SqT.of aC),8,8,9,aX (by decide) (iteF ?_)];exact k ((if_pos B).trans (if_pos Y)) _ b
  |drop n=>
   have j:H l=some (.lst [.str "drop",.str n]):=gm rfl W;have c:=SqL.of (K:=K) j;refine#[9,l,_,7,c,8,8,9,aX (by decide) ?_];refine#[9,l,_,7,c,8,zL3,λt u=>?_];have d:=aI (o:=.tup [.str "sum",.str "price",.str "most"]) u;refine#[t,9,.inr (SqT.of aC),8,8,9,aX (by decide) ?_];generalize upd H t (.tup [.str "sum",.str "price",.str "most"])=z at d⊢;refine#[9,l,_,7,d.seq c,8,zL4,λi e=>?_];have y:=aI (o:=.tup [.str "drop",.str "send",.str "amount",.str "bound"]) e;have b:=d.trans y;refine#[i,9,.inr (SqT.of aC),8,8,9,bT (by decide) ?_];generalize upd z i (.tup [.str "drop",.str "send",.str "amount",.str "bound"])=H2 at b⊢;let#[O,N,tb]:=D.wy;refine#[9,l,_,7,b.seq c,8,9,p,_,J,_,9,b _ _ L,T.cl_Desk,T.na_Desk_ways,fsD_y _ _ _,F,9,DGet.k (k:=Sum.inr n) (b _ _ N),9,?_];by_cases hn:n∈S.ws
   ·let#[v,M,_]:=tb.vals n hn;rw[M];exact iteF (k (if_pos hn) _ b)
   ·rw[tb.none hn];exact iteT #[9,l,_,7,b.seq c,8,raise_nw (by have:=ln (.nm n) (by simp[Rw.cs]) n rfl;lia) (NoWayE.pre ((I (2,n) (if_neg hn)).2 rfl) b)]
  |amount n=>
   have j:H l=some (.lst [.str "amount",.str n]):=gm rfl W;have c:=SqL.of (K:=K) j;refine#[9,l,_,7,c,8,8,9,aX (by decide) ?_];refine#[9,l,_,7,c,8,zL3,λt u=>?_];have d:=aI (o:=.tup [.str "sum",.str "price",.str "most"]) u;refine#[t,9,.inr (SqT.of aC),8,8,9,aX (by decide) ?_];generalize upd H t (.tup [.str "sum",.str "price",.str "most"])=z at d⊢;refine#[9,l,_,7,d.seq c,8,zL4,λi e=>?_];have y:=aI (o:=.tup [.str "drop",.str "send",.str "amount",.str "bound"]) e;have b:=d.trans y;refine#[i,9,.inr (SqT.of aC),8,8,9,bT (by decide) ?_];generalize upd z i (.tup [.str "drop",.str "send",.str "amount",.str "bound"])=H2 at b⊢;let#[O,N,tb]:=D.wy;refine#[9,l,_,7,b.seq c,8,9,p,_,J,_,9,b _ _ L,T.cl_Desk,T.na_Desk_ways,fsD_y _ _ _,F,9,DGet.k (k:=Sum.inr n) (b _ _ N),9,?_];by_cases hn:n∈S.ws
   ·let#[v,M,_]:=tb.vals n hn;rw[M];exact iteF (k (if_pos hn) _ b)
   ·rw[tb.none hn];exact iteT #[9,l,_,7,b.seq c,8,raise_nw (by have:=ln (.nm n) (by simp[Rw.cs]) n rfl;lia) (NoWayE.pre ((I (2,n) (if_neg hn)).2 rfl) b)]
  |sum n=>
   have j:H l=some (.lst [.str "sum",.str n]):=gm rfl W;have c:=SqL.of (K:=K) j;refine#[9,l,_,7,c,8,8,9,aX (by decide) ?_];refine#[9,l,_,7,c,8,zL3,λt u=>?_];have d:=aI (o:=.tup [.str "sum",.str "price",.str "most"]) u;refine#[t,9,.inr (SqT.of aC),8,8,9,bT (by decide) ?_];generalize upd H t (.tup [.str "sum",.str "price",.str "most"])=z at d⊢;refine#[9,p,a.Desk,J,_,3,["self","place"],spRefP a,8,d _ _ L,G,T.cl_Desk,5,dD T,9,l,_,7,(d.seq c),8,p,X,F,U,S,n,8,D.mono d,by have:=ln (.nm n) (by simp[Rw.cs]) n rfl;lia,λB=>?_,λB=>NoPlaceE.pre ((I (1,n) (if_neg B)).1 rfl) d];refine#[9,l,_,7,d.seq c,8,zL4,λi e=>?_];have y:=aI (o:=.tup [.str "drop",.str "send",.str "amount",.str "bound"]) e;have b:=d.trans y;refine#[i,9,.inr (SqT.of aC),8,8,9,aX (by decide) (iteF ?_)];exact k (if_pos B) _ b
  |cost=>
   have j:H l=some (.lst [.str "cost"]):=words0 rfl W;have c:=SqL.of (K:=K) j;refine#[9,l,_,7,c,8,8,9,aX (by decide) ?_];refine#[9,l,_,7,c,8,zL3,λt u=>?_];have d:=aI (o:=.tup [.str "sum",.str "price",.str "most"]) u;refine#[t,9,.inr (SqT.of aC),8,8,9,aX (by decide) ?_];generalize upd H t (.tup [.str "sum",.str "price",.str "most"])=z at d⊢;refine#[9,l,_,7,d.seq c,8,zL4,λi e=>?_];have y:=aI (o:=.tup [.str "drop",.str "send",.str "amount",.str "bound"]) e;have b:=d.trans y;refine#[i,9,.inr (SqT.of aC),8,8,9,aX (by decide) (iteF ?_)];exact k rfl _ b
  |look=>
   have j:H l=some (.lst [.str "look"]):=words0 rfl W;have c:=SqL.of (K:=K) j;refine#[9,l,_,7,c,8,8,9,aX (by decide) ?_];refine#[9,l,_,7,c,8,zL3,λt u=>?_];have d:=aI (o:=.tup [.str "sum",.str "price",.str "most"]) u;refine#[t,9,.inr (SqT.of aC),8,8,9,aX (by decide) ?_];generalize upd H t (.tup [.str "sum",.str "price",.str "most"])=z at d⊢;refine#[9,l,_,7,d.seq c,8,zL4,λi e=>?_];have y:=aI (o:=.tup [.str "drop",.str "send",.str "amount",.str "bound"]) e;have b:=d.trans y;refine#[i,9,.inr (SqT.of aC),8,8,9,aX (by decide) (iteF ?_)];exact k rfl _ b
inductive IspRefT(a:Ad)(vs:List V)(H:Hp)(Q:VK):Prop
 |mk(p dw dy da:Addr)(S:DS)(l:Addr)(r:Rw)(h1:vs=[.ref p,.ref l])(h2:DeskAt a H p dw dy da S)(h3:Words a H l r)(h4:S.ks.length<=11)(h5:S.ws.length<=23)(h6:Q .non H):IspRefT a vs H Q
abbrev spRefT(a:Ad):Sp:=λvs H Q _=>IspRefT a vs H Q
def gc(T:TX K mg a):MtB P w K mg base CX0 a.Desk "refuse_too_many" 3 ["self","words"] (spRefT a):=by
 refine T.m_Desk_refuse_too_many.ok fV (λL H Q E h=>?_) (λf J A u s H L Q E I h=>?_)
 ·let#[_,_,_,_,_,_,_,8,_]:=h;rfl
 ·let#[p,G,y,R,S,l,r,8,D,W,M,Y,k]:=h
  refine#[_,(aB (aW (PW.pt (d9 (aK bL (aN aU (pv 1) aF (λ_ _=>rfl)) aT (aS _)) (d9 (eC (cZ (cA I) (aN aU (pv 1) aF (λ_ _=>rfl)) (bE (pv 0) rfl))) (dP (aK bL (bC call_lenD (by rfl) T.z_len lQ (aA (bE (pv 0) rfl) aD)) (pe_gi T.gi_MOST_PLACES) (aS _)))))) (aE cF) aJ)
   (aE (aW (PW.pt (d9 (aK bL (aN aU (pv 1) aF (λ_ _=>rfl)) aT (aS _)) (d9 (eC (cZ (cA I) (aN aU (pv 1) aF (λ_ _=>rfl)) (bE (pv 0) rfl))) (dP (aK bL (bC call_lenD (by rfl) T.z_len lQ (aA (bE (pv 0) rfl) aD)) (pe_gi T.gi_MOST_WAYS) (aS _)))))) (aE cF) aJ))),?_]
  try dsimp only[bF,Cx.nox,Cx.wish]
  let#[j,m]:=D.ob
  cases r with
  |place n x=>
   obtain⟨q,d,F⟩:∃q,H l=some (.lst [.str "place",.str n,.ref q])/\FrAt a.Fraction H q x:=words2 rfl W;have c:=SqL.of (K:=K) d;let#[e,i,tb]:=D.wa;have fin:∀{A B:Prop},B->(if decide (V.str "place"=V.str "way")=true then A else B):=λb=>aX (by decide) b;refine#[9,l,_,7,c,8,8,9,bT (by decide) ?_];refine#[9,l,_,7,c,8,9,p,_,j,_,9,m,T.cl_Desk,T.na_Desk_wants,fsD_w _ _ _,G,9,DGet.k (k:=Sum.inr n) i,9,?_];by_cases hn:n∈S.ks
   ·let#[v,o,_]:=tb.vals n hn;rw[o];exact iteF (iteF #[9,l,_,7,c,8,8,9,fin (iteF k)])
   ·rw[tb.none hn];refine iteT #[9,p,_,j,_,9,m,T.cl_Desk,T.na_Desk_wants,fsD_w _ _ _,G,e,8,i,8,9,?_];have t:=tb.len;exact aX (jI λz=>by have:=V.int.inj z;lia) #[9,l,_,7,c,8,8,9,fin (iteF k)]
  |send n x=>
   obtain⟨q,d,F⟩:∃q,H l=some (.lst [.str "send",.str n,.ref q])/\FrAt a.Fraction H q x:=words2 rfl W;have c:=SqL.of (K:=K) d;refine#[9,l,_,7,c,8,8,9,aX (by decide) (iteF ?_)];exact#[9,l,_,7,c,8,8,9,aX (by decide) (iteF k)]
  |way n st go x hi co=>
   let#[q,N,U,d,F,O,X]:=W.way;have c:=SqL.of (K:=K) d;let#[e,i,tb]:=D.wy;refine#[9,l,_,7,c,8,8,9,aX (by decide) (iteF ?_)];refine#[9,l,_,7,c,8,8,9,bT (by decide) ?_];refine#[9,l,_,7,c,8,9,p,_,j,_,9,m,T.cl_Desk,T.na_Desk_ways,fsD_y _ _ _,y,9,DGet.k (k:=Sum.inr n) i,9,?_];by_cases hn:n∈S.ws
   ·let#[v,o,_]:=tb.vals n hn;rw[o];exact iteF (iteF k)
   ·rw[tb.none hn];refine iteT #[9,p,_,j,_,9,m,T.cl_Desk,T.na_Desk_ways,fsD_y _ _ _,y,e,8,i,8,9,?_];have t:=tb.len;exact aX (jI λz=>by have:=V.int.inj z;lia) k
  |drop n=>
   have d:H l=some (.lst [.str "drop",.str n]):=gm rfl W;have c:=SqL.of (K:=K) d;refine#[9,l,_,7,c,8,8,9,aX (by decide) (iteF ?_)];exact#[9,l,_,7,c,8,8,9,aX (by decide) (iteF k)]
  |amount n=>
   have d:H l=some (.lst [.str "amount",.str n]):=gm rfl W;have c:=SqL.of (K:=K) d;refine#[9,l,_,7,c,8,8,9,aX (by decide) (iteF ?_)];exact#[9,l,_,7,c,8,8,9,aX (by decide) (iteF k)]
  |sum n=>
   have d:H l=some (.lst [.str "sum",.str n]):=gm rfl W;have c:=SqL.of (K:=K) d;refine#[9,l,_,7,c,8,8,9,aX (by decide) (iteF ?_)];exact#[9,l,_,7,c,8,8,9,aX (by decide) (iteF k)]
  |cost=>
   have d:H l=some (.lst [.str "cost"]):=words0 rfl W;have c:=SqL.of (K:=K) d;refine#[9,l,_,7,c,8,8,9,aX (by decide) (iteF ?_)];exact#[9,l,_,7,c,8,8,9,aX (by decide) (iteF k)]
  |look=>
   have d:H l=some (.lst [.str "look"]):=words0 rfl W;have c:=SqL.of (K:=K) d;refine#[9,l,_,7,c,8,8,9,aX (by decide) (iteF ?_)];exact#[9,l,_,7,c,8,8,9,aX (by decide) (iteF k)]
def valV_drop(h:k'≠k):∀kvs:List (Key×V),cR (cO kvs k) k'=cR kvs k'
 |[]=>rfl
 |kv::r=>by
  by_cases e:kv.1=k
  ·rw[dropK_pos e,valV_drop h r,cI λz=>h (z.symm.trans e)]
  ·rw[dropK_neg e];by_cases e':kv.1=k'
   ·rw[cM e',cM e']
   ·rw[cI e',cI e',valV_drop h r]
abbrev ia(ks:List Str)(n:Str):List Str:=ks.filter λm=>decide (m≠n)
def keys_drop:∀{kvs:List (Key×V)}{ks:List Str},kvs.map (·.1)=ks.map (λn=>(Sum.inr n:Key))->(cO kvs (Sum.inr n)).map (·.1)=(ia ks n).map (λn=>(Sum.inr n:Key))
 |[],[],_=>rfl
 |[],_::_,h=>by cases h
 |_::_,[],h=>by cases h
 |kv::kvs,m::ks,h=>by
  let#[a,b]:=List.cons.inj (show kv.1::kvs.map (·.1)=Sum.inr m::ks.map (λn=>(Sum.inr n:Key))from h);unfold ia;by_cases e:m=n
  ·rw[dropK_pos (a.trans (kI Sum.inr e)),List.filter_cons_of_neg (by rw[e];simp)];exact keys_drop b
  ·rw[dropK_neg (λz=>e (Sum.inr.inj (a.symm.trans z))),List.filter_cons_of_pos (by exact jL e),kz,kz,a];exact kI _ (keys_drop b)
def mem_offK:m∈ia ks n↔m∈ks/\m≠n:=by unfold ia;rw[kL,decide_eq_true_iff]
def Tab.off(t:Tab R H kvs ks f):Tab R H (cO kvs (Sum.inr n)) (ia ks n) f:=
 #[keys_drop t.keys,λm c=>by
  let#[b,a]:=mem_offK.mp c;rw[valV_drop λz=>a (Sum.inr.inj z)];exact t.vals m b]
def offK_not(h:¬n∈ks):ia ks n=ks:=List.filter_eq_self.mpr λm a=>jL λe=>h (e▸a)
abbrev DS.next(S:DS):Rw->DS
 |.place n x=>{S with ks:=eO S.ks n,f:=upf S.f n x}
 |.way n s go x h c=>{S with ws:=eO S.ws n,g:=upf S.g n #[n,s,go,.gro,x,h,c]}
 |.drop n=>{S with ws:=ia S.ws n,as:=ia S.as n}
 |.send n x=>{S with as:=fz (upf S.A n x) (eO S.as n),A:=upf S.A n x}
 |_=>S
abbrev Rw.ch:Rw->Prop
 |.place _ _=>True
 |.way _ _ _ _ _ _=>True
 |.drop _=>True
 |.send _ _=>True
 |_=>False
abbrev Rw.good:Rw->Prop
 |.way _ s g x h _=>s≠g/\0<x.num/\∀y,h=some y->0<=y.num
 |_=>True
def deskC(T:TX K mg a):a.Desk≠a.Fraction/\∀kd:Kd,a.Desk≠kd.C a:=by
 have d:a.Desk≠a.Fraction:=λe=>by
  have h:=T.na_Fraction_top;have c:=T.m_Fraction_sign;rw[<-e]at c;let#[f,b,_,#[m,_,_],_]:=c
  cases T.no_Desk_sign.symm.trans m
 refine#[d,λkd e=>?_]
 have:=T.no_Desk_may_stay
 cases kd
 ·let#[f,b,_,#[m,_,_],_]:=T.m_Way_may_stay;rw[show a.Way=a.Desk from e.symm]at m
  cases this.symm.trans m
 ·let#[f,b,_,#[m,_,_],_]:=T.m_Growing_may_stay;rw[show a.Growing=a.Desk from e.symm]at m
  cases this.symm.trans m
 ·let#[f,b,_,#[m,_,_],_]:=T.m_Leaking_may_stay;rw[show a.Leaking=a.Desk from e.symm]at m
  cases this.symm.trans m
 ·let#[f,b,_,#[m,_,_],_]:=T.m_Store_may_stay;rw[show a.Store=a.Desk from e.symm]at m
  cases this.symm.trans m
def tab_ins(t:Tab (FrIs a) H kvs ks f)(hp:H p=some (.ins C dx fs))(hC:C≠a.Fraction/\∀kd:Kd,C≠kd.C a):Tab (FrIs a) (upd H p (.ins C dx gs)) kvs ks f:=
 t.mono λv y h=>let⟨q,e,fq⟩:=h;#[q,e,(Stays.ins hp hC).fr fq]
inductive IspChange(a:Ad)(vs:List V)(H:Hp)(Q:VK):Prop
 |mk(p dw dy da:Addr)(S:DS)(l:Addr)(r:Rw)(h1:vs=[.ref p,.ref l])(h2:DeskAt a H p dw dy da S)(h3:Words a H l r)(h4:r.ch)(h5:r.good)(h6:S.miss r=none)(h7:S.ks.length<=100)(h8:S.ws.length<=100)(h9:S.as.length<=100)(h10:S.as.Nodup)(h11:∀H' db,Stp p dw dy da db H H'->DeskAt a H' p dw dy db (S.next r)->Q .non H'):IspChange a vs H Q
abbrev spChange(a:Ad):Sp:=λvs H Q _=>IspChange a vs H Q
def ok_Desk_change(T:TX K mg a):MtB P w K mg base CX0 a.Desk "change" 7 ["self","words"] (spChange a):=by
 refine T.m_Desk_change.ok sc_Desk_change (λvs H Q E h=>?_) (λf a6 A a2 s H vs Q E hr h=>?_)
 ·let#[_,_,_,_,_,_,_,8,_]:=h;rfl
 ·let#[p,B,d,c,S,l,r,8,D,W,ch,gd,ms,a8,a5,a7,aw,k]:=h
  refine#[_,(aB (aR (i:=2) sc_Desk_change.nd rfl (Or.inl rfl) (aN aU (pv 1) aF (λ_ _=>rfl)))
   (aB (aW (aK bL (aN aU (pv 1) aF (λ_ _=>rfl)) aT (aS _)) (aB (dm (cA hr) (bE (pv 0) rfl) (pv 2) (aN aU (pv 1) aF (λ_ _=>rfl)) rfl)
   (aB (cY (pv 0) (aZ (iW T) hr aL (aA (bE (pv 0) rfl) aD)) rfl)
   (aE ps_retN))) aJ)
   (aB (aW (aK bL (aN aU (pv 1) aF (λ_ _=>rfl)) aT (aS _)) (aE (dm (cA hr) (bE (pv 0) rfl) (pv 2) (aN aU (pv 1) aF (λ_ _=>rfl)) rfl)) aJ)
   (aB (aW (aK bL (aN aU (pv 1) aF (λ_ _=>rfl)) aT (aS _)) (aE (dm (cA hr) (bE (pv 0) rfl) (pv 2) (pe_mk (mk_Growing T) hr T.mg_Growing aL (aA (pv 2) (aA (aN aU (pv 1) aF (λ_ _=>rfl)) (aA (aN aU (pv 1) aF (λ_ _=>rfl)) (aA (aN aU (pv 1) aF (λ_ _=>rfl)) (aA (aN aU (pv 1) aF (λ_ _=>rfl)) (aA (aN aU (pv 1) aF (λ_ _=>rfl)) aD))))))) rfl)) aJ)
   (aB (aW (aK bL (aN aU (pv 1) aF (λ_ _=>rfl)) aT (aS _)) (aB (bG (pe_dpop1 (bE (pv 0) rfl) (pv 2) #[8,8,8,8]))
   (aE (bG (dr kF PySem.F.slot_dict_pop PySem.F.type_dict_pop mt_dpop (bE (pv 0) rfl) (aA (pv 2) (aA cB aD)))))) aJ)
   (aE (bG (cD (CX:=CX0) (pv 0) hr aL)))))))),?_]
  try dsimp only[bF,Cx.nox,Cx.wish]
  let#[G,N]:=D.ob;let#[R,hw,tw]:=D.wa;let#[u,hy,ty]:=D.wy;let#[I,ha,ta]:=D.am;have ac:=ej B d c (m:="forget_prices") (by decide+kernel);have ah:p≠B:=λz=>by rw[z,hw]at N;cases N
  have af:p≠d:=λz=>by rw[z,hy]at N;cases N
  have ak:p≠c:=λz=>by rw[z,ha]at N;cases N
  have l1:=tw.len;have l2:=ty.len;have l3:=ta.len
  cases r with
  |amount n=>exact absurd ch id
  |sum n=>exact absurd ch id
  |cost=>exact absurd ch id
  |look=>exact absurd ch id
  |send n x=>
   obtain⟨q,Z,fq⟩:∃q,H l=some (.lst [.str "send",.str n,.ref q])/\FrAt a.Fraction H q x:=words2 rfl W;have t:=SqL.of (K:=K) Z;refine#[9,l,_,7,t,8,?_];refine#[9,l,_,7,t,8,8,9,bT (by decide) ?_];refine#[9,l,_,7,t,8,9,p,_,G,_,9,N,T.cl_Desk,T.na_Desk_amounts,fsD_a _ _ _,9,c,9,DPut.k (k:=Sum.inr n) ha (bB ()),?_];have O:KeepD H (upd H c (.dK (bX I (Sum.inr n) (.ref q)))):=.put ha;have j:∀b o,H b=some o->b≠c->upd H c (.dK (bX I (Sum.inr n) (.ref q))) b=some o:=λb o e ne=>by rw[aG ne];exact e
   have t1:Tab (FrIs a) (upd H c (.dK (bX I (Sum.inr n) (.ref q)))) (bX I (Sum.inr n) (.ref q)) (eO S.as n) (upf S.A n x):=Tab.put (ta.mono λv y z=>z.keep O) (FrIs.keep #[q,8,fq] O);have t2:Tab (WayIs a) (upd H c (.dK (bX I (Sum.inr n) (.ref q)))) u S.ws S.g:=ty.mono λv y z=>z.put ha;have t3:Tab (FrIs a) (upd H c (.dK (bX I (Sum.inr n) (.ref q)))) R S.ks S.f:=tw.mono λv y z=>z.keep O;have e1:upd H c (.dK (bX I (Sum.inr n) (.ref q))) c=some (.dK (bX I (Sum.inr n) (.ref q))):=aC;generalize upd H c (.dK (bX I (Sum.inr n) (.ref q)))=M at j t1 t2 t3 e1⊢;have aa:=j _ _ N ak;have ae:=j _ _ hw D.n2;have J:=j _ _ hy D.n3;refine#[9,p,_,G,_,9,aa,T.cl_Desk,T.na_Desk_amounts,fsD_a _ _ _,c,_,_,9,e1,t1,fm aw,jK (len_addK _ _) (),λr Y ay nr s2 ar tr=>?_];have ab:=s2 _ _ aa;refine#[9,p,a.Desk,G,9,ab,T.cl_Desk,T.na_Desk_amounts,by show 5<1000;decide,?_];rw[fsD_am];have hC:=deskC T;have ax:r≠p:=λz=>by rw[z,aa]at nr;cases nr
   have au:B≠r:=λz=>by rw[<-z,ae]at nr;cases nr
   have ao:d≠r:=λz=>by rw[<-z,J]at nr;cases nr
   refine k _ r (λb o e b1 b2 b3 b4=>#[by rw[aG b1];exact s2 _ _ (j _ _ e b4),λz=>by rw[<-z,j _ _ e b4]at nr;cases nr]) #[#[G,aC],#[R,by rw[aG ah.symm];exact s2 _ _ ae,tab_ins (t3.mono λv y z=>FrIs.mono z s2) ab hC],#[u,by rw[aG af.symm];exact s2 _ _ J,(t2.mono λv y z=>z.mono s2).mono λv y z=>z.keep (.ins ab hC)],#[ay,by rw[aG ax];exact ar,tab_ins tr ab hC],D.n1,au,ao]
  |place n x=>
   obtain⟨q,Z,fq⟩:∃q,H l=some (.lst [.str "place",.str n,.ref q])/\FrAt a.Fraction H q x:=words2 rfl W;have t:=SqL.of (K:=K) Z;refine#[9,l,_,7,t,8,?_];refine#[9,l,_,7,t,8,8,9,aX (by decide) ?_];refine#[9,l,_,7,t,8,8,9,bT (by decide) ?_];refine#[9,l,_,7,t,8,9,p,_,G,_,9,N,T.cl_Desk,T.na_Desk_wants,fsD_w _ _ _,9,B,9,DPut.k (k:=Sum.inr n) hw (bB ()),?_];have O:KeepD H (upd H B (.dK (bX R (Sum.inr n) (.ref q)))):=.put hw;have j:∀b o,H b=some o->b≠B->upd H B (.dK (bX R (Sum.inr n) (.ref q))) b=some o:=λb o e L=>by rw[aG L];exact e
   have t1:Tab (FrIs a) (upd H B (.dK (bX R (Sum.inr n) (.ref q)))) (bX R (Sum.inr n) (.ref q)) (eO S.ks n) (upf S.f n x):=Tab.put (tw.mono λv y z=>z.keep O) (FrIs.keep #[q,8,fq] O);have t2:Tab (WayIs a) (upd H B (.dK (bX R (Sum.inr n) (.ref q)))) u S.ws S.g:=ty.mono λv y z=>z.put hw;have t3:Tab (FrIs a) (upd H B (.dK (bX R (Sum.inr n) (.ref q)))) I S.as S.A:=ta.mono λv y z=>z.keep O;have e1:upd H B (.dK (bX R (Sum.inr n) (.ref q))) B=some (.dK (bX R (Sum.inr n) (.ref q))):=aC;generalize upd H B (.dK (bX R (Sum.inr n) (.ref q)))=M at j t1 t2 t3 e1⊢;have X:=j _ _ N ah;have e5:SqL K M l [.str "place",.str n,.ref q]:=SqL.of (j _ _ Z (bK Z hw (by intro z;cases z)));refine#[9,l,_,7,e5,8,8,9,aX (by decide) ?_];refine#[9,l,_,7,e5,8,8,9,aX (by decide) ?_];exact#[9,p,a.Desk,G,_,1,["self"],gU a,8,X,ac,T.cl_Desk,5,cQ T,p,G,B,d,c,8,X,k M c (λb o e _ L _ n3=>#[j b o e L,n3]) #[#[G,X],#[_,e1,t1],#[_,j _ _ hy D.n1.symm,t2],#[_,j _ _ ha D.n2.symm,t3],D.n1,D.n2,D.n3]]
  |way n st go x hi co=>
   let#[q,vh,qc,Z,fq,hh,fc]:=W.way;have t:=SqL.of (K:=K) Z;refine#[9,l,_,7,t,8,?_];refine#[9,l,_,7,t,8,8,9,aX (by decide) ?_];refine#[9,l,_,7,t,8,8,9,aX (by decide) ?_];refine#[9,l,_,7,t,8,8,9,bT (by decide) ?_];refine#[9,9,l,_,7,t,8,9,l,_,7,t,8,9,l,_,7,t,8,9,l,_,7,t,8,9,l,_,7,t,8,?_]
   have ho:HiOk a.Fraction H vh:=by
    cases hi with
    |none=>exact .inl hh
    |some y=>let#[qh,eh,fh]:=hh;exact .inr #[qh,y,eh,fh,gd.2.2 y rfl]
   intro z dz nz nd _;have ss:=same_two (C:=a.Growing) nz nd;refine#[z,_,dz,n,st,go,vh,.ref qc,q,x,8,aC,T.wG,T.na_Growing_rate,gd.1,fq.mono ss,gd.2.1,ho.mono ss,λM fs ag h5 az ap hs al=>#[8,?_]];have U:=same_new nz nd hs;have W1:WayAt a M z .gro n st go vh ag q x:=#[#[dz,fs,al,h5,λ_=>az],λ_=>fq.mono U];have ec:ag=.ref qc:=ap.elim (λh=>h.2) λh=>absurd h.1 (by intro z;cases z);subst ec;have aa:=U _ _ N;have ae:=U _ _ hw;have J:=U _ _ hy;have a3:=U _ _ ha;have a4:=U _ _ Z;have a0:=tw.mono λv y z=>FrIs.mono z U;have an:=ty.mono λv y z=>z.mono U;have aq:=ta.mono λv y z=>FrIs.mono z U;refine#[9,p,_,G,_,9,aa,T.cl_Desk,T.na_Desk_ways,fsD_y _ _ _,9,d,9,DPut.k (k:=Sum.inr n) J (bB ()),?_];have O:KeepD M (upd M d (.dK (bX u (Sum.inr n) (.ref z)))):=.put J;have j:∀b o,H b=some o->b≠d->upd M d (.dK (bX u (Sum.inr n) (.ref z))) b=some o:=λb o e L=>by rw[aG L];exact U _ _ e
   have wz:WayIs a M (.ref z) #[n,st,go,.gro,x,hi,co]:=#[z,_,_,9,W1,(by intro e;cases e),#[qc,8,fc.mono U],hh.mono U];have t2:Tab (WayIs a) (upd M d (.dK (bX u (Sum.inr n) (.ref z)))) (bX u (Sum.inr n) (.ref z)) (eO S.ws n) (upf S.g n #[n,st,go,.gro,x,hi,co]):=Tab.put (an.mono λv y h=>h.put J) (wz.put J);have t1:Tab (FrIs a) (upd M d (.dK (bX u (Sum.inr n) (.ref z)))) R S.ks S.f:=a0.mono λv y h=>h.keep O;have t3:Tab (FrIs a) (upd M d (.dK (bX u (Sum.inr n) (.ref z)))) I S.as S.A:=aq.mono λv y h=>h.keep O;have e1:upd M d (.dK (bX u (Sum.inr n) (.ref z))) d=some (.dK (bX u (Sum.inr n) (.ref z))):=aC;generalize upd M d (.dK (bX u (Sum.inr n) (.ref z)))=Y at j t1 t2 t3 e1⊢;have X:=j _ _ N af;have e5:SqL K Y l [.str "way",.str n,.str st,.str go,.ref q,vh,.ref qc]:=SqL.of (j _ _ Z (bK Z hy (by intro z;cases z)));refine#[9,l,_,7,e5,8,8,9,aX (by decide) ?_];exact#[9,p,a.Desk,G,_,1,["self"],gU a,8,X,ac,T.cl_Desk,5,cQ T,p,G,B,d,c,8,X,k Y c (λb o e _ _ L n3=>#[j b o e L,n3]) #[#[G,X],#[_,j _ _ hw D.n1,t1],#[_,e1,t2],#[_,j _ _ ha D.n3.symm,t3],D.n1,D.n2,D.n3]]
  |drop n=>
   have Z:H l=some (.lst [.str "drop",.str n]):=gm rfl W;have t:=SqL.of (K:=K) Z
   have av:n∈S.ws:=by
    by_cases h:n∈S.ws
    ·exact h
    ·rw[show S.miss (.drop n)=some (2,n) from if_neg h]at ms;cases ms
   let#[v,ev,_]:=ty.vals n av;refine#[9,l,_,7,t,8,?_];refine#[9,l,_,7,t,8,8,9,aX (by decide) ?_];refine#[9,l,_,7,t,8,8,9,aX (by decide) ?_];refine#[9,l,_,7,t,8,8,9,aX (by decide) ?_];refine#[9,l,_,7,t,8,8,9,bT (by decide) ?_];refine#[9,p,_,G,_,9,N,T.cl_Desk,T.na_Desk_ways,fsD_y _ _ _,d,8,.inl #[u,.inl hy],9,u,Sum.inr n,v,hy,8,ev,?_];have O:KeepD H (upd H d (.dK (cO u (Sum.inr n)))):=.put hy;have j:∀b o,H b=some o->b≠d->upd H d (.dK (cO u (Sum.inr n))) b=some o:=λb o e L=>by rw[aG L];exact e
   have t1:Tab (FrIs a) (upd H d (.dK (cO u (Sum.inr n)))) R S.ks S.f:=tw.mono λv y h=>h.keep O;have t3:Tab (FrIs a) (upd H d (.dK (cO u (Sum.inr n)))) I S.as S.A:=ta.mono λv y h=>h.keep O;have t2:Tab (WayIs a) (upd H d (.dK (cO u (Sum.inr n)))) (cO u (Sum.inr n)) (ia S.ws n) S.g:=(ty.mono λv y h=>h.put hy).off;have e1:upd H d (.dK (cO u (Sum.inr n))) d=some (.dK (cO u (Sum.inr n))):=aC;generalize upd H d (.dK (cO u (Sum.inr n)))=Y at j t1 t2 t3 e1⊢;have X:=j _ _ N af;have e2:=j _ _ hw D.n1;have e3:=j _ _ ha D.n3.symm
   have fin:∀(v2:V)(H3:Hp),Stays a Y H3->(∀b o,Y b=some o->b≠c->H3 b=some o)->(∃k3,H3 c=some (.dK k3)/\Tab (FrIs a) H3 k3 (ia S.as n) S.A)->Stp p B d c c H H3/\DeskAt a H3 p B d c (S.next (.drop n)):=λv2 H3 ad k3 h3=>
    #[λb o e _ _ L n3=>#[k3 _ _ (j b o e L) n3,n3],#[#[G,k3 _ _ X ak],#[_,k3 _ _ e2 D.n2,t1.mono λv y h=>let⟨q,e,fq⟩:=h;#[q,e,ad.fr fq]],#[_,k3 _ _ e1 D.n3,t2.mono λv y h=>h.keep ad],h3,D.n1,D.n2,D.n3]]
   refine#[9,p,_,G,_,9,X,T.cl_Desk,T.na_Desk_amounts,fsD_a _ _ _,.inr (.inr (.inl #[8,.inl #[I,e3]])),9,c,I,Sum.inr n,.non,8,8,e3,λv e=>?_,λe=>?_]
   ·have a1:KeepD Y (upd Y c (.dK (cO I (Sum.inr n)))):=.put e3;have ad:Stays a Y (upd Y c (.dK (cO I (Sum.inr n)))):=.put e3 (by intro _ _ _ z;cases z);let#[r1,r2]:=fin .non _ ad (λb o e L=>by rw[aG L];exact e) #[_,aC,(t3.mono λv y h=>h.keep a1).off];let#[ai,aj]:=r2.ob;exact#[9,p,a.Desk,ai,_,1,["self"],gU a,8,aj,ac,T.cl_Desk,5,cQ T,p,ai,B,d,c,8,aj,k _ c r1 r2]
   ·have nn:¬n∈S.as:=λhn=>by
     let#[v,ev,_]:=ta.vals n hn;rw[ev]at e
     cases e
    let#[r1,r2]:=fin .non Y (.of (Same.refl _)) (λb o e L=>e) #[_,e3,by rw[offK_not nn];exact t3];exact#[9,p,a.Desk,G,_,1,["self"],gU a,8,X,ac,T.cl_Desk,5,cQ T,p,G,B,d,c,8,X,k Y c r1 r2]
def Bd.smr(b:Bd n x)(hn:n<9000):SmR x:=#[Sm.of_le b.1 hn,Sm.of_le (by rw[kH];exact b.2) hn]
def smallR.bd(h:smallR x):Bd 30 x:=#[jK (Nat.le_of_lt h.1) (by decide),jK (Nat.le_of_lt h.2) (by decide)]
def smallR.zero:smallR 0:=#[5,5]
def nodup_le{xs ys:List Str}(nd:xs.Nodup)(h:∀x∈xs,x∈ys):xs.length<=ys.length:=by
 induction xs generalizing ys with
 |nil=>exact jZ _
 |cons x xs ih=>
  let#[d,c]:=lL.mp nd;have a:=h x jX
  have:=ih (ys:=ys.erase x) c λz b=>by
   rw[List.mem_erase_of_ne (λe=>d (by rw[<-e];exact b))];exact h z (jW _ b)
  rw[List.length_erase_of_mem a]at this
  have:=List.length_pos_of_mem a
  rw[jU]
  lia
abbrev DS.ps(S:DS):List (Str×Rat):=S.ks.map λn=>(n,S.f n)
abbrev DS.ds(S:DS):List WD:=S.ws.map S.g
structure SOk(S:DS):Prop where
 nk:S.ks.Nodup
 nw:S.ws.Nodup
 na:S.as.Nodup
 lk:S.ks.length<=11
 lw:S.ws.length<=23
 sub:∀n∈S.as,n∈S.ws
 gk:∀n∈S.ws,(S.g n).nm=n/\(S.g n).kd=.gro/\(S.g n).st∈S.ks/\(S.g n).go∈S.ks/\(S.g n).st≠(S.g n).go
 sf:∀n∈S.ks,smallR (S.f n)
 sg:∀n∈S.ws,smallR (S.g n).x/\smallR (S.g n).co/\∀y,(S.g n).hi=some y->smallR y
 sA:∀n∈S.as,smallR (S.A n)
def DS.ps1(S:DS):S.ps.map (·.1)=S.ks:=by unfold DS.ps;rw[kU];exact(List.map_congr_left λ_ _=>rfl).trans (List.map_id _)
def SOk.ds1(h:SOk S):S.ds.map (·.nm)=S.ws:=by unfold DS.ds;rw[kU];exact(List.map_congr_left λn a=>(h.gk n a).1).trans (List.map_id _)
def SOk.mem(h:SOk S)(hd:d∈S.ds):d.nm∈S.ws/\S.g d.nm=d:=by
 unfold DS.ds at hd;let#[n,a,8]:=j9.mp hd;rw[(h.gk n a).1];exact#[a,8]
def SOk.net(h:SOk S):NetOk S.ps S.ds:=by
 refine#[by rw[S.ps1];exact h.nk,by unfold DS.ps;rw[jE];have:=h.lk;lia,by rw[h.ds1];exact h.nw,by unfold DS.ds;rw[jE];have:=h.lw;lia,λd hd=>?_];let#[m,e]:=h.mem hd;have g:=h.gk _ m;rw[e]at g;rw[S.ps1];exact#[g.2.2.1,g.2.2.2.1]
def SOk.la(h:SOk S):S.as.length<=23:=jK (nodup_le h.na h.sub) h.lw
def SOk.amt(h:SOk S)(n:Str):smallR (aO S.as S.A n):=by
 unfold aO
 split
 ·exact h.sA n ‹_›
 ·exact smallR.zero
def gp{ds:List WD}(h:∀d∈ds,Bd 60 (A d.nm)/\Bd 60 (A d.nm*ft d.kd d.x)):∀i s,Bd (i*61) (c9 A (ds.take i) s)
 |0,s=>Bd.zero
 |i+1,s=>by
  rw[j4]
  cases e:ds[i]? with
  |none=>
   rw[Option.toList_none,kE];exact(gp h i s).mono (by omega)
  |some d=>
   let#[a,b]:=h d (jP e);rw[j6,sumF_snoc];unfold sumStep;by_cases e1:s=d.go
   ·subst e1;rw[dL];exact((gp h i _).add b).mono (by omega)
   ·rw[eZ e1];by_cases e2:s=d.st
    ·subst e2;rw[dL];exact((gp h i _).sub a).mono (by omega)
    ·rw[eZ e2];exact(gp h i s).mono (by omega)
def SOk.sums(h:SOk S):SumOk (aO S.as S.A) S.ps S.ds:=by
 have a:∀d∈S.ds,d.kd=.gro/\d.st∈S.ks/\d.go∈S.ks/\d.st≠d.go/\smallR d.x:=λd hd=>by
  let#[m,e]:=h.mem hd;have g:=h.gk _ m;have s:=h.sg _ m;rw[e]at g s;exact#[g.2.1,g.2.2.1,g.2.2.2.1,g.2.2.2.2,s.1]
 have bd:∀d∈S.ds,Bd 60 (aO S.as S.A d.nm)/\Bd 60 (aO S.as S.A d.nm*ft d.kd d.x):=λd hd=>by
  let#[e,_,_,_,s]:=a d hd;refine#[(h.amt d.nm).bd.mono (by decide),?_];rw[e];exact((h.amt d.nm).bd.mul s.bd).mono (by decide)
 refine#[by rw[S.ps1];exact h.nk,by unfold DS.ps;rw[jE];have:=h.lk;lia,λd hd=>by rw[S.ps1];exact#[(a d hd).2.1,(a d hd).2.2.1],λd hd=>(a d hd).2.2.2.1,λd hd=>?_,λd hd=>#[(bd d hd).1.smr (by decide),(bd d hd).2.smr (by decide)],λi s=>?_]
 ·let#[e,_,_,_,s]:=a d hd;rw[e];exact#[s.bd.smr (by decide),s.bd.smr (by decide)]
 ·have b:S.ds.length<=23:=by unfold DS.ds;rw[jE];exact h.lw
  by_cases hi:i<=23
  ·exact(gp bd i s).smr ()
  ·rw[ly (),<-ly (i:=23) b];exact(gp bd 23 s).smr (by decide)
def SOk.sumBd(h:SOk S)(s:Str):Bd 1403 (c9 (aO S.as S.A) S.ds s):=by
 have bd:∀d∈S.ds,Bd 60 (aO S.as S.A d.nm)/\Bd 60 (aO S.as S.A d.nm*ft d.kd d.x):=λd hd=>by
  let#[m,e]:=h.mem hd;have g:=h.gk _ m;have s:=h.sg _ m;rw[e]at g s;refine#[(h.amt d.nm).bd.mono (by decide),?_];rw[g.2.1];exact((h.amt d.nm).bd.mul s.1.bd).mono (by decide)
 have a:S.ds.length<=23:=by unfold DS.ds;rw[jE];exact h.lw
 have:=gp bd 23 s
 rw[ly a]at this;exact this
def Bd.tx(b:Bd n x)(h:n<1900):Tx x.num:=j8 b.1 (Nat.pow_lt_pow_right (by decide) h)
def Bd.txd(b:Bd n x)(h:n<1900):Tx (x.den:Int):=by
 show(x.den:Int).natAbs<_;rw[kH];exact j8 b.2 (Nat.pow_lt_pow_right (by decide) h)
def bd_sum(h:BdS xs N):Bd N xs.sum:=by
 induction h with
 |nil=>exact Bd.zero
 |snoc _ b ih=>rw[sum_snoc];exact(ih.add b).mono ()
def bdS_map:∀{ks:List Str},(∀n∈ks,Bd 60 (f n))->BdS (ks.map f) (ks.length*61):=λ{ks}=>by
 have b:∀i,i<=ks.length->(∀n∈ks,Bd 60 (f n))->BdS ((ks.take i).map f) (i*61):=λi=>by
  induction i with
  |zero=>exactλ_ _=>BdS.nil
  |succ i ih=>
   intro hi a;have e:ks[i]?=some ks[i]:=jF ();rw[j4,e,j6,jY,Nat.succ_mul];exact BdS.snoc (ih () a) (a _ (lv _))
 intro a
 have:=b ks.length (jJ _) a
 rw[ke]at this;exact this
def SOk.flt{q p dw dy da:Addr}(h:SOk S)(hn:NetOff a H q da S.ps S.ds)(hd:H da=some (.dK kva))(ta:Tab (FrIs a) H kva S.as S.A):FltOk a H q da S.ps S.ds kva S.as S.A where
 net:=hn
 nd:=h.net.nd
 ld:=jK h.net.ld (by decide)
 hd:=hd
 tb:=ta
 nk:=h.na
 lk:=jK h.la (by decide)
 lp:=jK h.net.lp (by decide)
 so:=h.sums
 hi:=λy d z e=>by
  let#[m,c]:=h.mem d;have s:=h.sg _ m;rw[c]at s;exact(s.2.2 z e).bd.smr (by decide)
 wa:=λz b=>by
  unfold DS.ps at b;let#[n,hn,8]:=j9.mp b;exact(h.sf n hn).bd.smr (by decide)
def net_off(e:H p=some (.ins a.Net dx (fsN dw dy)))(hw:WantsAt a H dw ps)(hy:WaysAt a H dy ds)(hd:H d=some (.dK kvs))(nw:dw≠d)(ny:dy≠d):NetOff a H p d ps ds:=by
 have c:∀b o,b≠d->H b=some o->(if b=d then none else H b)=some o:=λb o ne q=>by rw[if_neg ne];exact q
 have i:∀{b C dx:Addr}{fs:List (Str×V)},H b=some (.ins C dx fs)->b≠d:=λq=>bK q hd (by intro z;cases z);refine#[λb=>if b=d then none else H b,#[dx,dw,dy,c _ _ (i e) e,?_,?_],λb o q=>?_,if_pos rfl]
 ·let#[j,m,h,l]:=hw;exact#[j,c _ _ nw m,h,l.mono (by rintro v x⟨q,e,r,f⟩;exact#[q,e,r,c _ _ (i f) f])]
 ·let#[j,m,h,l]:=hy;exact#[j,c _ _ ny m,h,l.mono λv x z=>z.keep λb C dx fs _ q=>c _ _ (i q) q]
 ·dsimp only at q
  split at q
  ·cases q
  ·exact q
def NetNew.off(h:NetNew a H H' p ps ds)(s:Same H H')(hd:H d=some (.dK kvs)):NetOff a H' p d ps ds:=by
 let#[o,m,l,j,e,i,b,c]:=h;exact net_off j e i (s _ _ hd) (λz=>by rw[z,hd]at b;cases b) λz=>by rw[z,hd]at c;cases c
inductive IspDNet(a:Ad)(vs:List V)(H:Hp)(Q:VK):Prop
 |mk(p dw dy da:Addr)(S:DS)(h1:vs=[.ref p])(h2:DeskAt a H p dw dy da S)(h3:SOk S)(h4:∀q H',H q=none->Same H H'->NetNew a H H' q S.ps S.ds->Q (.ref q) H'):IspDNet a vs H Q
abbrev spDNet(a:Ad):Sp:=λvs H Q _=>IspDNet a vs H Q
def Tab.row(t:Tab R H kvs ks f)(nd:ks.Nodup):RowAt R H (kvs.map (·.2)) (ks.map f):=by
 refine#[by rw[jE,jE,t.len],λi v x c b=>?_];rw[jM]at c b;let#[h,e,8]:=kq.mp c;let#[n,d,8]:=kq.mp b;let#[j,a,_,_,r]:=t.at_ nd e;rw[d]at a
 cases a;exact r
def eL(T:TX K mg a):MtB P w K mg base CX0 a.Desk "net" 6 ["self"] (spDNet a):=by
 refine T.m_Desk_net.ok sc_Desk_net (λvs H Q E h=>?_) (λf af A ac s H vs Q E hr h=>?_)
 ·let#[_,_,_,_,_,8,_]:=h;rfl
 ·let#[p,dw,l,da,S,8,D,so,k]:=h;have nd:=so.nk;refine#[_,(aE (aM (pe_mk (mk_Net T) hr T.mg_Net aL (aA (bW (dW hr.hd) (by rfl) T.z_list lz (aA (pe_bm0 kF PySem.F.slot_dict_items PySem.F.type_dict_items ir (bE (pv 0) rfl)) aD)) (aA (bW (ii hr.hd) (by rfl) T.z_list lz (aA (pe_bm0 kF PySem.F.slot_dict_values PySem.F.type_dict_values mt_values (bE (pv 0) rfl)) aD)) aD))))),?_];try dsimp only[bF,Cx.nox,Cx.wish]
  let#[dx,hp]:=D.ob;let#[m,hw,tw]:=D.wa;let#[c,U,ty]:=D.wy;have ad:=so.nw;refine#[9,p,_,dx,_,9,hp,T.cl_Desk,T.na_Desk_wants,fsD_w _ _ _,.inr (.inr (.inl #[8,.inl #[m,hw]])),dw,m,8,8,.inl hw,λv nv=>?_];have s1:=aI (o:=ViewI v dw) nv;refine#[v,dw,m,8,aC,.inl (s1 _ _ hw),λlp L tp ae s2 Y M O=>?_];have e:=s1.trans s2;refine#[9,p,_,dx,_,9,e _ _ hp,T.cl_Desk,T.na_Desk_ways,fsD_y _ _ _,.inr (.inr (.inl #[8,.inl #[c,e _ _ U]])),l,c,8,8,.inl (e _ _ U),λd N=>?_];have W:=aI (o:=iQ d l) N;have G:=e.trans W;refine#[d,l,c,8,aC,.inl (G _ _ U),λu aa=>?_];have s4:=aI (o:=.lst (c.map (·.2))) aa;have b:=G.trans s4;have B:upd (upd L d (iQ d l)) u (.lst (c.map (·.2))) u=some (.lst (c.map (·.2))):=aC;have j:=(W.trans s4) _ _ Y
  have rp:RowAt (PlIs a) (upd (upd L d (iQ d l)) u (.lst (c.map (·.2)))) tp (S.ks.map λn=>(n,S.f n)):=by
   refine#[by rw[M,tw.len,jE],λi t x e1 e2=>?_];rw[jM]at e2;let#[n,en,8]:=kq.mp e2;have hi:i<m.length:=by rw[tw.len];exact(jH.mp en).1
   have ek:m[i]?=some m[i]:=jF hi;let#[n',J,e3,_,r]:=tw.at_ nd ek;rw[en]at J
   cases J;let#[q,8,hq]:=O i t _ e1 ek;let#[qf,ab,ff]:=FrIs.mono r b;rw[e3,ab]at hq;exact#[q,qf,8,(W.trans s4) _ _ hq,ff]
  have I:RowAt (WayIs a) (upd (upd L d (iQ d l)) u (.lst (c.map (·.2)))) (c.map (·.2)) (S.ws.map S.g):=(ty.row ad).mono λv x z=>z.mono b;generalize upd (upd L d (iQ d l)) u (.lst (c.map (·.2)))=H4 at b B j rp I⊢;intro q dq Z m2 m3;have y:=same_two (C:=a.Net) Z m2;exact#[q,dq,lp,u,tp,_,_,9,aC,y.seq (SqL.of j),rp.mono (λv x z=>z.mono y),y.seq (SqL.of B),I.mono (λv x z=>z.mono y),so.net,λH' R X=>#[8,k q H' (b.free Z) (b.trans (same_new Z m2 R)) (let⟨d1,d2,d3,g1,g2,g3,g4,g5⟩:=X;#[d1,d2,d3,g1,g2,g3,(b.trans y).free g4,(b.trans y).free g5])]]
inductive IspPlan(a:Ad)(vs:List V)(H:Hp)(Q:VK):Prop
 |mk(p dw dy da:Addr)(S:DS)(h1:vs=[.ref p])(h2:DeskAt a H p dw dy da S)(h3:∀r H' kvs,H r=none->Same H H'->H' r=some (.dK kvs)->Tab (FrIs a) H' kvs S.as S.A->Q (.ref r) H'):IspPlan a vs H Q
abbrev spPlan(a:Ad):Sp:=λvs H Q _=>IspPlan a vs H Q
def jp(T:TX K mg a):MtB P w K mg base CX0 a.Desk "plan" 2 ["self"] (spPlan a):=by
 refine T.m_Desk_plan.ok sc_Desk_plan (λi H Q E h=>?_) (λf l A d s H i Q E t h=>?_)
 ·let#[_,_,_,_,_,8,_]:=h;rfl
 ·let#[p,q,o,e,S,8,D,k]:=h;refine#[_,(aE (aM (bW call_dict_copy (by rfl) T.z_dict PyProof.Rows.boot_dict (aA (bE (pv 0) rfl) aD)))),?_];try dsimp only[bF,Cx.nox,Cx.wish]
  let#[j,m]:=D.ob;let#[b,hd,tb]:=D.am;exact#[9,p,_,j,_,9,m,T.cl_Desk,T.na_Desk_amounts,fsD_a _ _ _,e,b,8,.inl hd,λr c=>k r _ b c (aI c) aC (tb.mono λv x z=>FrIs.mono z (aI c))]
abbrev fR(e:Str×Str):Str:=e.1++" "++e.2
abbrev lookT(fs:List (Str×Str)):Str:=if fs=[]then"ok"else Builtin.Str.glued ", " (fs.map fR)
abbrev DS.faults(S:DS):List (Str×Str):=jz S.as (aO S.as S.A) S.ps S.ds
def SOk.fts(h:SOk S)(ln:∀n,n∈S.ks∨n∈S.ws->n.length<=8):S.faults.length<=60/\∀e∈S.faults,e.1.length<=5/\e.2.length<=8:=by
 have i:cT S.ds S.as=[]:=by
  unfold cT;rw[h.ds1];exact List.filter_eq_nil_iff.mpr λn d z=>kG z (h.sub n d)
 have b:=d6 (aO S.as S.A) S.ds;have q:=hI (c9 (aO S.as S.A) S.ds) S.ps;have j:=h.net.lp;have l:=h.net.ld;unfold DS.faults jz;rw[i,lD,List.nil_append];refine#[by rw[j5];lia,λe a=>?_];rcases lC.mp a with a|a
 ·unfold bP at a;let#[y,c,8]:=j9.mp a;exact#[(by decide:("bound":Str).length<=5),ln _ (.inr (h.mem (kL.mp c).1).1)]
 ·unfold cK at a;let#[y,c,8]:=j9.mp a;refine#[(by decide:("place":Str).length<=5),ln _ (.inl ?_)];rw[<-S.ps1];exact j9.mpr #[y,(kL.mp c).1,8]
inductive IspTFaults(a:Ad)(vs:List V)(H:Hp)(Q:VK):Prop
 |mk(p dw dy da:Addr)(S:DS)(h1:vs=[.ref p])(h2:DeskAt a H p dw dy da S)(h3:SOk S)(h4:(∀n,n∈S.ks∨n∈S.ws->n.length<=8))(h5:∀H',Same H H'->Q (.str (lookT S.faults)) H'):IspTFaults a vs H Q
abbrev spTFaults(a:Ad):Sp:=λvs H Q _=>IspTFaults a vs H Q
def ix(T:TX K mg a):MtB P w K mg base CX0 a.Desk "told_faults" 11 ["self"] (spTFaults a):=by
 refine T.m_Desk_told_faults.ok sc_Desk_told_faults (λvs H Q E h=>?_) (λf ad A ac s H vs Q E hr h=>?_)
 ·let#[_,_,_,_,_,8,_]:=h;rfl
 ·let#[p,dw,dy,L,S,8,D,so,ln,k]:=h
  refine#[_,(aB (aR (i:=1) sc_Desk_told_faults.nd rfl (Or.inl rfl) (aZ (ok_faults T) hr aL (aA (cD (CX:=CX0) (pv 0) hr aL) (aA (bE (pv 0) rfl) aD))))
   (aB (aW (aK (op_eqN hr.units0) (pv 1) (dj aD) (aS _)) (aE (aM aT)) aJ)
   (aE (aM (dr lK PySem.F.slot_str_join PySem.F.type_str_join mt_join aT (aA (fj (xs:=["word","name"]) (rest:=[]) rfl (cU (pv 1))
   (λd fp C' s' H'=>by exact(jm (K:=K) (n:=2) rfl rfl (bJ (bD (i:=0) (show(["word","name"]:List Str).Nodup by decide+kernel) rfl (Or.inl rfl)) (bJ (bD (i:=1) (show(["word","name"]:List Str).Nodup by decide+kernel) rfl (Or.inl rfl)) dH)))) (λd fp C' s' H'=>by exact fE)
   (λd fp C' s' H'=>by exact(aQ cW (aQ cW (pv 0) aT) (pv 1)))
   (Clos.none (by decide+kernel) (by decide+kernel)) (Reads.many (ys:=[]) (js:=[]) True.intro)) aD)))))),?_]
  try dsimp only[bF,Cx.nox,Cx.wish]
  let#[dx,hp]:=D.ob;have W:=ej dw dy L (m:="net") (by decide+kernel);refine#[9,p,a.Desk,dx,_,6,["self"],spDNet a,8,hp,W,T.cl_Desk,5,eL T,p,dw,dy,L,S,8,D,so,λq H1 nq G hn=>?_];let#[B,hd,ta]:=D.am;have ff:FltOk a H1 q L S.ps S.ds B S.as S.A:=so.flt (p:=p) (dw:=dw) (dy:=dy) (hn.off G hd) (G _ _ hd) (ta.mono λv x z=>FrIs.mono z G);refine#[9,p,_,dx,_,9,G _ _ hp,T.cl_Desk,T.na_Desk_amounts,fsD_a _ _ _,q,L,S.ps,S.ds,B,S.as,S.A,8,ff,λl Y J nl s2 hl Z=>?_];have Z:RowAt FtIs Y J S.faults:=Z;let#[lf,hf]:=so.fts ln;have aa:=G.trans s2;refine#[9,5,λN ab=>?_];let#[H3,zq,M,h0]:=uG (o:=.lst []) ab;rw[zq];have j:=M _ _ hl;have b:RowAt FtIs H3 J S.faults:=Z.mono λv x z=>z.mono M;have I:=aa.trans M;refine#[l,N,9,8,SqL.of j,SqL.of h0,9,?_];unfold lookT at k;by_cases e0:S.faults=[]
  ·rw[if_pos e0]at k;exact bT (by rw[show J=[]from List.length_eq_zero_iff.mp (by rw[b.1,e0];rfl)];rfl) (k H3 I)
  ·rw[if_neg e0]at k
   refine aX (by
    cases J with
    |nil=>exact absurd (List.length_eq_zero_iff.mp b.1.symm) e0
    |cons _ _=>rfl) ?_
   refine#[8,9,l,8,#[_,SqL.of j],λc nc=>?_];refine gC (K:=K) (a:=l) (xs:=J) (λi r=>i<=S.faults.length×' Same H3 r×' r c=some (.lst ((S.faults.take i).map λe=>V.str (fR e)))) #[jZ _,aI nc,aC] ((by rintro i r⟨_,u,_⟩;exact SqL.of (u _ _ j))) ?_ ?_
   ·rintro i x r hx⟨_,u,O⟩zs U;let#[e,R,t,8,ht]:=b.get hx;have hi:i<S.faults.length:=(jH.mp R).1;let#[b1,b2]:=hf e (jP R)
    match zs,U with
    |[z1,z2],_=>
     refine#[t,[.str e.1,.str e.2],8,SqT.of (u _ _ ht),8,.str e.1,[.str e.2],8,#[.str e.2,[],8,#[8,#[[_,_],8,8],yes ?_]]];have c1:(" ":Str).length=1:=rfl;refine#[9,7,by rw[j1];lia,9,7,by rw[j1,kD];lia,?_];refine#[_,O,bB (by rw[jE,kc];lia),gM (by rw[b.1];exact hi) #[hi,bY nc u,?_]];rw[aC,j4,R,j6,jY];rfl
   ·rintro r⟨_,u,O⟩;rw[b.1,ke]at O
    have hj:∀y∈S.faults.map fR,y.length<=14:=λy X=>by
     let#[e,he,8]:=j9.mp X;let#[b1,b2]:=hf e he;have c1:(" ":Str).length=1:=rfl;unfold fR;rw[kD,kD]
     lia
    have c2:(", ":Str).length=2:=rfl;refine#[", ",c,S.faults.map fR,8,8,SqL.of (by rw[kU];exact O),λy X=>jK (hj y X) (by decide),5,by rw[jE];lia,?_,k r (I.trans u)];refine jK (glued_len ", " 14 _ hj) ?_;rw[jE,c2,j1]
    lia
abbrev DS.tell(S:DS):Rw->Str
 |.amount n=>bO (aO S.as S.A n)
 |.sum n=>bO (c9 (aO S.as S.A) S.ds n)
 |.cost=>bO (S.as.map λn=>(S.g n).co*S.A n).sum
 |.look=>lookT S.faults
 |_=>"ok"
inductive IspTold(a:Ad)(vs:List V)(H:Hp)(Q:VK):Prop
 |mk(p dw dy da:Addr)(S:DS)(l:Addr)(r:Rw)(h1:vs=[.ref p,.ref l])(h2:DeskAt a H p dw dy da S)(h3:Words a H l r)(h4:¬r.ch)(h5:S.miss r=none)(h6:SOk S)(h7:(∀n,n∈S.ks∨n∈S.ws->n.length<=8))(h8:∀H',Same H H'->Q (.str (S.tell r)) H'):IspTold a vs H Q
abbrev spTold(a:Ad):Sp:=λvs H Q _=>IspTold a vs H Q
def ok_Desk_told(T:TX K mg a):MtB P w K mg base CX0 a.Desk "told" 12 ["self","words"] (spTold a):=by
 refine T.m_Desk_told.ok sc_Desk_told (λvs H Q E h=>?_) (λf ac A ab s H vs Q E d h=>?_)
 ·let#[_,_,_,_,_,_,_,8,_]:=h;rfl
 ·let#[p,M,G,o,S,l,r,8,D,W,j,ms,b,ln,k]:=h
  refine#[_,(aB (aW (aK bL (aN aU (pv 1) aF (λ_ _=>rfl)) aT (aS _)) (aE (aM (cD (CX:=CX0) (pv 0) d aL))) aJ)
   (aB (aW (aK bL (aN aU (pv 1) aF (λ_ _=>rfl)) aT (aS _)) (aE (aM (dQ T.fr (aZ (ok_worth T) d aL (aA (cD (CX:=CX0) (pv 0) d aL) (aA (bE (pv 0) rfl) aD))) (gb T) d aL))) aJ)
   (aB (aW (aK bL (aN aU (pv 1) aF (λ_ _=>rfl)) aT (aS _)) (aE (aM (dQ T.fr (aZ (iq T) d aL (aA (bE (pv 0) rfl) (aA (aN aU (pv 1) aF (λ_ _=>rfl)) aD))) (gb T) d aL))) aJ)
   (aB (aW (aK bL (aN aU (pv 1) aF (λ_ _=>rfl)) aT (aS _)) (aE (aM (dQ T.fr (fF (cA d) (aZ (ok_sums T) d aL (aA (cD (CX:=CX0) (pv 0) d aL) (aA (bE (pv 0) rfl) aD))) (aN aU (pv 1) aF (λ_ _=>rfl)) (λ_ _=>rfl)) (gb T) d aL))) aJ)
   (aB (aW (aK op_isN (bE (pv 0) rfl) cB (aS _)) (aE (aM aT)) aJ)
   (aB (aW (aK bL (aN aU (pv 1) aF (λ_ _=>rfl)) aT (aS _)) (aE (aM (dQ T.fr (fF (cA d) (bE (pv 0) rfl) (aN aU (pv 1) aF (λ_ _=>rfl)) (λ_ _=>rfl)) (gb T) d aL))) aJ)
   (aE (aM (dQ T.fr (aZ (iq T) d aL (aA (bE (pv 0) rfl) (aA (aN aU (pv 1) aF (λ_ _=>rfl)) aD))) (gb T) d aL))))))))),?_]
  try dsimp only[bF,Cx.nox,Cx.wish]
  let#[B,F]:=D.ob;let#[u,hd,R]:=D.am;have J:=ej M G o (m:="net") (by decide+kernel);have aa:=ej M G o (m:="told_faults") (by decide+kernel)
  cases r with
  |place n x=>exact absurd True.intro j
  |way n s g x hi co=>exact absurd True.intro j
  |drop n=>exact absurd True.intro j
  |send n x=>exact absurd True.intro j
  |look=>
   have t:H l=some (.lst [.str "look"]):=words0 rfl W;have c:=SqL.of (K:=K) t;refine#[9,l,_,7,c,8,8,9,bT (by decide) ?_];exact#[9,p,a.Desk,B,_,11,["self"],spTFaults a,8,F,aa,T.cl_Desk,5,ix T,p,M,G,o,S,8,D,b,ln,k]
  |cost=>
   have t:H l=some (.lst [.str "cost"]):=words0 rfl W;have c:=SqL.of (K:=K) t;refine#[9,l,_,7,c,8,8,9,aX (by decide) ?_];refine#[9,l,_,7,c,8,8,9,bT (by decide) ?_];refine#[9,p,a.Desk,B,_,6,["self"],spDNet a,8,F,J,T.cl_Desk,5,eL T,p,M,G,o,S,8,D,b,λq N nq e y=>?_];have O:∀n∈S.as,Bd 60 ((S.g n).co*S.A n):=λn y=>(((b.sg n (b.sub n y)).2.1).bd.mul (b.sA n y).bd).mono (by decide);have la:=b.la;refine#[9,p,_,B,_,9,e _ _ F,T.cl_Desk,T.na_Desk_amounts,fsD_a _ _ _,q,o,S.ps,S.ds,u,S.as,S.A,(λn=>(S.g n).co),S.as.length*61,8,y.off e hd,b.net.nd,e _ _ hd,R.mono λv x z=>FrIs.mono z e,b.na,4,(λn i=>by rw[b.ds1];exact b.sub n i),(λx hx=>by rw[(b.mem hx).2]),(λn i=>#[(b.sA n i).bd.smr (by decide),((b.sg n (b.sub n i)).2.1).bd.smr (by decide)]),bdS_map O,4,λr U nr Z fr=>?_];exact#[r,9,fr,r,9,fr,(bd_sum (bdS_map O)).tx (),(bd_sum (bdS_map O)).txd (),k U (e.trans Z)]
  |amount n=>
   have t:H l=some (.lst [.str "amount",.str n]):=gm rfl W;have c:=SqL.of (K:=K) t;refine#[9,l,_,7,c,8,8,9,aX (by decide) ?_];refine#[9,l,_,7,c,8,8,9,aX (by decide) ?_];refine#[9,l,_,7,c,8,8,9,bT (by decide) ?_];refine#[9,p,_,B,_,9,F,T.cl_Desk,T.na_Desk_amounts,fsD_a _ _ _,9,l,_,7,c,8,o,u,S.as,S.A,n,8,.inl hd,R,λq N e fq=>?_];exact#[q,9,fq,q,9,fq,(b.amt n).bd.tx (by decide),(b.amt n).bd.txd (by decide),k N e]
  |sum n=>
   have t:H l=some (.lst [.str "sum",.str n]):=gm rfl W;have c:=SqL.of (K:=K) t
   have nk:n∈S.ks:=by
    by_cases h:n∈S.ks
    ·exact h
    ·rw[show S.miss (.sum n)=some (1,n) from if_neg h]at ms;cases ms
   refine#[9,l,_,7,c,8,8,9,aX (by decide) ?_];refine#[9,l,_,7,c,8,8,9,aX (by decide) ?_];refine#[9,l,_,7,c,8,8,9,aX (by decide) ?_];refine#[9,l,_,7,c,8,8,9,bT (by decide) ?_];refine#[9,p,a.Desk,B,_,6,["self"],spDNet a,8,F,J,T.cl_Desk,5,eL T,p,M,G,o,S,8,D,b,λq N nq e y=>?_];refine#[9,p,_,B,_,9,e _ _ F,T.cl_Desk,T.na_Desk_amounts,fsD_a _ _ _,q,o,S.ps,S.ds,u,S.as,S.A,8,y.off e hd,b.net.nd,e _ _ hd,R.mono λv x z=>FrIs.mono z e,b.na,(λn i=>by rw[b.ds1];exact b.sub n i),b.sums,λr U X nr Z Y tr=>?_];let#[v,ev,r1,8,I]:=tr.vals n (by rw[S.ps1];exact nk);have L:=e.trans Z;exact#[9,l,_,7,L.seq c,8,r,9,.inl #[X,Sum.inr n,.inl Y,8,ev.symm],r1,9,I,r1,9,I,(b.sumBd n).tx (by decide),(b.sumBd n).txd (by decide),k U L]
abbrev DS.due(S:DS)(r:Rw):Option (Nat×Str):=if fv r.hd r.kds r.cs=true then some (0,"")else S.miss r
abbrev XDueD(a:Ad)(H:Hp)(E:XK)(x:Nat×Str):Prop:=(x.1=0->∀H',Same H H'->E (.ref a.NoRow) none H')/\(x.1=1->NoPlaceE a H x.2 E)/\(x.1=2->NoWayE a H x.2 E)
def badRow_way:fv (Rw.way n s g x h c).hd (Rw.way n s g x h c).kds (Rw.way n s g x h c).cs=false↔(Rw.way n s g x h c).good:=by
 have e:fv (Rw.way n s g x h c).hd (Rw.way n s g x h c).kds (Rw.way n s g x h c).cs=((decide (x.num<=0)||(match h with|none=>false|some y=>decide (y.num<0)))||decide (s=g)):=by
  have g1:(Wd.fr x).bad "gain"=decide (x.num<=0):=by
   show(decide (("gain":Str)="gain"/\x.num<=0)||decide (("gain":Str)="high"/\x.num<0))=_;rw[jI (p:=("gain":Str)="high"/\x.num<0) (λz=>absurd z.1 (by decide)),Bool.or_false];simp
  have l:(hiW h).bad "high"=(match h with|none=>false|some y=>decide (y.num<0)):=by
   cases h with
   |none=>rfl
   |some y=>
    show(decide (("high":Str)="gain"/\y.num<=0)||decide (("high":Str)="high"/\y.num<0))=_;rw[jI (λz=>absurd z.1 (by decide)),Bool.false_or];simp
  have j:(Wd.fr c).bad "fraction"=false:=by
   show(decide (("fraction":Str)="gain"/\c.num<=0)||decide (("fraction":Str)="high"/\c.num<0))=_;rw[jI (λz=>absurd z.1 (by decide)),jI (λz=>absurd z.1 (by decide))];rfl
  show(((false||(false||(false||((Wd.fr x).bad "gain"||((hiW h).bad "high"||((Wd.fr c).bad "fraction"||false))))))||(decide (("way":Str)="way")&&decide (s=g))):Bool)=_;rw[g1,l,j,jL (rfl:("way":Str)="way"),Bool.true_and,Bool.or_false,Bool.or_false,Bool.false_or,Bool.false_or,Bool.false_or]
 rw[e,Bool.or_eq_false_iff,Bool.or_eq_false_iff,decide_eq_false_iff_not,decide_eq_false_iff_not];constructor
 ·rintro⟨⟨d,b⟩,a⟩;refine#[a,by omega,λy i=>?_];subst i
  have:=of_decide_eq_false b
  omega
 ·rintro⟨d,b,a⟩;refine#[#[by omega,?_],d]
  cases h with
  |none=>rfl
  |some y=>have:=a y rfl;exact jI (by omega)
def good_of{r:Rw}(h:fv r.hd r.kds r.cs=false):r.good:=by
 cases r with
 |way n s g x hi c=>exact badRow_way.mp h
 |place n x=>trivial
 |drop n=>trivial
 |send n x=>trivial
 |amount n=>trivial
 |sum n=>trivial
 |cost=>trivial
 |look=>trivial
def Rw.chT{r:Rw}(h:r.ch):inV (.str r.hd) [.str "place",.str "way",.str "drop",.str "send"]=true:=by
 cases r with
 |place n x=>exact(by decide:inV (.str "place") [.str "place",.str "way",.str "drop",.str "send"]=true)
 |way n s g x hi c=>exact(by decide:inV (.str "way") [.str "place",.str "way",.str "drop",.str "send"]=true)
 |drop n=>exact(by decide:inV (.str "drop") [.str "place",.str "way",.str "drop",.str "send"]=true)
 |send n x=>exact(by decide:inV (.str "send") [.str "place",.str "way",.str "drop",.str "send"]=true)
 |amount n=>exact absurd h id
 |sum n=>exact absurd h id
 |cost=>exact absurd h id
 |look=>exact absurd h id
def Rw.chF{r:Rw}(h:¬r.ch):inV (.str r.hd) [.str "place",.str "way",.str "drop",.str "send"]=false/\r.hd≠"cheapest"/\r.hd≠"most":=by
 cases r with
 |place n x=>exact absurd True.intro h
 |way n s g x hi c=>exact absurd True.intro h
 |drop n=>exact absurd True.intro h
 |send n x=>exact absurd True.intro h
 |amount n=>exact(by decide:inV (.str "amount") [.str "place",.str "way",.str "drop",.str "send"]=false/\("amount":Str)≠"cheapest"/\("amount":Str)≠"most")
 |sum n=>exact(by decide:inV (.str "sum") [.str "place",.str "way",.str "drop",.str "send"]=false/\("sum":Str)≠"cheapest"/\("sum":Str)≠"most")
 |cost=>exact(by decide:inV (.str "cost") [.str "place",.str "way",.str "drop",.str "send"]=false/\("cost":Str)≠"cheapest"/\("cost":Str)≠"most")
 |look=>exact(by decide:inV (.str "look") [.str "place",.str "way",.str "drop",.str "send"]=false/\("look":Str)≠"cheapest"/\("look":Str)≠"most")
def DS.next_not{S:DS}(h:¬r.ch):S.next r=S:=by
 cases r with
 |place n x=>exact absurd True.intro h
 |way n s g x hi c=>exact absurd True.intro h
 |drop n=>exact absurd True.intro h
 |send n x=>exact absurd True.intro h
 |amount n=>rfl
 |sum n=>rfl
 |cost=>rfl
 |look=>rfl
def DS.tell_ok{S:DS}(h:r.ch):S.tell r="ok":=by
 cases r with
 |place n x=>rfl
 |way n s g x hi c=>rfl
 |drop n=>rfl
 |send n x=>rfl
 |amount n=>exact absurd h id
 |sum n=>exact absurd h id
 |cost=>exact absurd h id
 |look=>exact absurd h id
inductive IspSay(a:Ad)(vs:List V)(H:Hp)(Q:VK)(E:XK):Prop
 |mk(p dw dy da:Addr)(S:DS)(r:Rw)(h1:vs=[.ref p,.str (Str.join ⟨(List.toArray [32])⟩ (r.hd::r.cs.map Wd.txt))])(h2:DeskAt a H p dw dy da S)(h3:r.ok)(h4:SOk S)(h5:(∀n,n∈S.ks∨n∈S.ws->n.length<=8))(h6:(S.due r=none->∀H' db,Stp p dw dy da db H H'->DeskAt a H' p dw dy db (S.next r)->Q (.str (S.tell r)) H'))(h7:(∀x,S.due r=some x->XDueD a H E x)):IspSay a vs H Q E
abbrev spSay(a:Ad):Sp:=λvs H Q E=>IspSay a vs H Q E
def ok_Desk_sayX(T:TX K mg a):MtB P w K mg base (CX1 P w) a.Desk "say" 13 ["self","row"] (spSay a):=by
 refine T.m_Desk_say.okX sc_Desk_say (λvs H Q E h=>?_) (λf ad A aa s H vs Q E v h=>?_)
 ·let#[_,_,_,_,_,_,8,_]:=h;rfl
 ·let#[p,j,d,c,S,r,8,D,ok,J,ln,k,M]:=h
  refine#[_,(aB (aR (i:=2) sc_Desk_say.nd rfl (Or.inl rfl) (aZ (ok_read_rowX T) v pass1 (aA (pv 1) aD)))
   (aB (bG (eD (CX:=CX1 P w) (pv 0) v pass1 (aA (pv 2) aD)))
   (aB (bG (eD (CX:=CX0) (pv 0) v aL (aA (pv 2) aD)))
   (aB (aW (aK im (aN aU (pv 2) aF (λ_ _=>rfl)) (cH (aA aT (aA aT (aA aT (aA aT aD))))) (by with_unfolding_all rfl)) (aB (bG (eD (CX:=CX0) (pv 0) v aL (aA (pv 2) aD)))
   (aE (aM aT))) aJ)
   (aB (aW (aK bL (aN aU (pv 2) aF (λ_ _=>rfl)) aT (aS _)) (aE (aM (cD (CX:=CX0) (pv 0) v aL))) aJ)
   (aB (aW (aK bL (aN aU (pv 2) aF (λ_ _=>rfl)) aT (aS _)) (aE (aM (eD (CX:=CX0) (pv 0) v aL (aA (aN aU (pv 2) aF (λ_ _=>rfl)) aD)))) aJ)
   (aE (aM (eD (CX:=CX0) (pv 0) v aL (aA (pv 2) aD)))))))))),?_]
  try dsimp only[bF,Cx.nox,Cx.wish]
  let#[N,hp]:=D.ob;have Y:=ej j d c (m:="refuse_missing") (by decide+kernel);have R:=ej j d c (m:="refuse_too_many") (by decide+kernel);have ac:=ej j d c (m:="change") (by decide+kernel);have Z:=ej j d c (m:="told") (by decide+kernel);have lk:=J.lk;have lw:=J.lw;have la:=J.la;refine#[9,r.hd,r.kds,r.cs,8,Rw.rowOk ok,λL l H1 us nl y hl ab=>?_,λL=>(M (0,"") (if_pos L)).1 rfl];have due:S.due r=S.miss r:=if_neg (by rw[L];decide);rw[due]at k M;have W:Words a H1 l r:=#[us,hl,ab];have D1:=D.mono y;have U:=y _ _ hp;refine⟨_,rfl,p,a.Desk,N,_,4,["self","words"],spRefM a,rfl,U,Y,T.cl_Desk,by decide,ge T,_,rfl,p,j,d,c,S,l,r,rfl,D1,W,ok,λu H2 X=>?_,λx u=>#[λe=>((M x u).2.1 e).pre y,λe=>((M x u).2.2 e).pre y]⟩;have q:=y.trans X;have D2:=D.mono q;have W2:=W.mono X;have O:=q _ _ hp;refine#[9,p,a.Desk,N,_,3,["self","words"],spRefT a,8,O,R,T.cl_Desk,5,gc T,9,p,j,d,c,S,l,r,8,D2,W2,lk,lw,?_];have G:=X _ _ hl;refine#[9,l,_,7,SqL.of G,at0,zL4,λt nt=>?_];have F:=aI (o:=.tup [.str "place",.str "way",.str "drop",.str "send"]) nt;have b:=q.trans F;refine#[t,9,.inr (SqT.of aC),8,8,9,?_];generalize upd H2 t (.tup [.str "place",.str "way",.str "drop",.str "send"])=H3 at F b⊢;have B:=b _ _ hp;by_cases hc:r.ch
  ·refine bT (Rw.chT hc) ?_;refine⟨_,rfl,p,a.Desk,N,_,7,["self","words"],spChange a,rfl,B,ac,T.cl_Desk,by decide,ok_Desk_change T,_,rfl,p,j,d,c,S,l,r,rfl,D.mono b,W2.mono F,hc,good_of L,u,by lia,by lia,by lia,J.na,λH4 db kp D4=>?_⟩;rw[DS.tell_ok hc]at k;exact k u H4 db ((Stp.of b).trans kp) D4
  ·let#[c1,c2,c3]:=Rw.chF hc;refine aX c1 ?_;have I:=F _ _ G;refine#[9,l,_,7,SqL.of I,at0,8,9,aX (jI λz=>c2 (V.str.inj z)) ?_];refine#[9,l,_,7,SqL.of I,at0,8,9,aX (jI λz=>c3 (V.str.inj z)) ?_];refine#[9,p,a.Desk,N,_,12,["self","words"],spTold a,8,B,Z,T.cl_Desk,5,ok_Desk_told T,9,p,j,d,c,S,l,r,8,D.mono b,W2.mono F,hc,u,J,ln,λH4 s4=>?_];exact k u H4 c (Stp.of (b.trans s4)) (by rw[DS.next_not hc];exact D.mono (b.trans s4))
end
end G
namespace G
open PySem L2
section
abbrev cellOf(ns:List Int)(k:Nat):Int:=ns.getD k 0
abbrev spCell(K:W.Frag):Sp:=λvs H Q _=>∃(l:Addr)(ns:List Int)(k:Nat),vs=[.ref l,.int (k:Int)]/\SqL K H l (ns.map V.int)/\Q (.int (cellOf ns k)) H
def hZ(T:TX K mg a):FnB P w K mg base CX0 "_law_cell_at" 1 ["_law_script","_law_k"] (spCell K):=by
 refine T.d_law_cell_at.ok sc_law_cell_at (λr H Q E h=>?_) (λf t A d s H r Q E u h=>?_)
 ·let#[l,b,i,8,_]:=h;rfl
 ·let#[l,b,i,8,p,k]:=h
  refine#[_,(aB (aW (aK iL (pv 1) (bC eY (by rfl) T.z_len lQ (aA (pv 0) aD)) (aS _)) (aE (aM (aN aU (pv 0) (pv 1) (λ_ _=>rfl)))) aJ)
   (aE (aM aF))),?_]
  try dsimp only[bF,Cx.nox,Cx.wish]
  refine#[9,9,_,9,.inl p,7,9,?_];rw[jE];refine ite2 (λc=>?_) (λj=>?_)
  ·have q:(i:Int)<(b.length:Int):=kG c;have o:i<b.length:=by omega
   refine#[9,9,_,_,7,p,iw (v:=.int (b[i])) ?_,?_]
   ·rw[jM,jF o];rfl
   ·have e:cellOf b i=b[i]:=by unfold cellOf;rw[j3,jF o];rfl
    rw[e]at k;exact k
  ·have m:¬(i:Int)<(b.length:Int):=λz=>j (jL z);have e:cellOf b i=0:=by unfold cellOf;rw[j3,List.getElem?_eq_none (by omega)];rfl
   rw[e]at k;exact k
abbrev spWhole:Sp:=λvs H Q _=>∃i:Int,vs=[.int i]/\Q (.bl true) H
def jo(T:TX K mg a):FnB P w K mg base CX0 "_law_whole" 1 ["_law_found"] spWhole:=by
 refine T.d_law_whole.ok sc_law_whole (λd H Q E h=>?_) (λf e A b s H d Q E j h=>?_)
 ·let#[i,8,_]:=h;rfl
 ·let#[i,8,k]:=h;refine#[_,(aE (aM (pe_and (bC (fu (c:=.type "int")) (by rfl) T.z_isinstance jQ (aA (pv 0) (aA (gz (v:=.ty "int") (by rfl) T.z_int PyProof.Rows.boot_int rfl) aD))) (pe_one (pe_not (bC (fu (c:=.type "bool")) (by rfl) T.z_isinstance jQ (aA (pv 0) (aA (gz (v:=.ty "bool") (by rfl) T.z_bool PyProof.Rows.boot_bool rfl) aD)))))))),?_];try dsimp only[bF,Cx.nox,Cx.wish]
  refine#[9,_,_,_,9,(λu h=>h),TyOf.int i,T.k_int_int,9,?_];refine iteT ?_;refine#[9,_,_,_,9,(λu h=>h),TyOf.int i,T.k_int_bool,9,?_];exact k
end
end G
namespace G
open PySem L2
section
abbrev prR(x:Rat):Int×Int:=(x.num,(x.den:Int))
inductive IspPair(C:Addr)(vs:List V)(H:Hp)(Q:VK):Prop
 |mk(p:Addr)(x:Rat)(h1:vs=[.ref p])(h2:FrAt C H p x)(h3:∀t,H t=none->Q (.ref t) (upd H t (.tup [.int x.num,.int x.den]))):IspPair C vs H Q
abbrev spPair(C:Addr):Sp:=λvs H Q _=>IspPair C vs H Q
def eK(T:TX K mg a):FnB P w K mg base CX0 "_law_pair" 2 ["_law_found"] (spPair a.Fraction):=by
 refine T.d_law_pair.ok sc_law_pair (λe H Q E h=>?_) (λf i A b s H e Q E d h=>?_)
 ·let#[p,x,8,_]:=h;rfl
 ·let#[p,x,8,j,k]:=h
  refine#[_,(aB (aW (PW.pt (gL (fO (cG (bC (fu (c:=.ref a.Fraction)) (by rfl) T.z_isinstance jQ (aA (pv 0) (aA (cP (v:=.ref a.Fraction) (by rfl) T.mg_Fraction rfl) aD))))) (gL (fO (cG (aZ (jo T) d aL (aA (dJ T.fr (pv 0)) aD)))) (hF (fO (cG (aZ (jo T) d aL (aA (df T.fr (pv 0)) aD)))))))) (aE (aM cB)) aJ)
   (aB (aW (aK iL (df T.fr (pv 0)) aF (aS _)) (aE (aM cB)) aJ)
   (aE (aM (cH (aA (dJ T.fr (pv 0)) (aA (df T.fr (pv 0)) aD))))))),?_]
  try dsimp only[bF,Cx.nox,Cx.wish]
  refine#[9,_,_,_,9,(λu h=>h),j.ty T.fr,T.k_Fraction_Fraction,9,?_];walk_at"rd"
  have l:=den_pos x;refine aX (jI (show¬(x.den:Int)<1 by lia)) ?_;walk_at"rd"
  exact#[zL2,k]
end
end G
namespace G
open PySem L2
section
abbrev vR(c:Int×Int):Rat:=Rat.divInt c.1 c.2
def ei(h:i.natAbs<=2^x)(g:j.natAbs<=2^y)(s:x+y<=1000000):IntMulOk i j:=mulOk_bits (by
 have a:=bits_le (k:=i) (n:=x+1) (j8 h (Nat.pow_lt_pow_right (by decide) ()));have b:=bits_le (k:=j) (n:=y+1) (j8 g (Nat.pow_lt_pow_right (by decide) ()))
 have:(1000002:Nat)<=2^27:=by decide
 lia)
structure PN(n:Nat)(c:Int×Int):Prop where
 b1:c.1.natAbs<=2^n
 b2:1<=c.2
 b3:c.2.natAbs<=2^n
def PN.nz(h:PN n c):c.2≠0:=by have:=h.b2;lia
def sum_snocR(xs:List Rat)(x:Rat):(xs++[x]).sum=xs.sum+x:=by rw[List.sum_append,lI,List.sum_nil,Rat.add_zero]
def dM{x y:Int}(h:x.natAbs<=2^m)(g:y.natAbs<=2^n):(x*y).natAbs<=2^(m+n):=by rw[lB,Nat.pow_add];exact Nat.mul_le_mul h g
def natAbs_add_le'{x y:Int}(h:x.natAbs<=2^n)(g:y.natAbs<=2^n):(x+y).natAbs<=2^(n+1):=by
 have:=Int.natAbs_add_le x y
 rw[Nat.pow_succ]
 lia
def vR_add(hp:p.2≠0)(hq:q.2≠0):vR (p.1*q.2+q.1*p.2,p.2*q.2)=vR p+vR q:=by
 unfold vR;rw[Rat.divInt_add_divInt _ _ hp hq]
def vR_mul:vR (p.1*q.1,p.2*q.2)=vR p*vR q:=by
 unfold vR;rw[Rat.divInt_mul_divInt]
def vR_neg(c:Int×Int):-(vR c)=vR (0-c.1,c.2):=by
 unfold vR;rw[Int.zero_sub,Rat.neg_divInt]
abbrev DueIs(H:Hp)(v:V)(c:Int×Int):Prop:=∃p,v=.ref p/\H p=some (.tup [.int c.1,.int c.2])
def DueIs.mono(h:DueIs H v c)(s:Same H H'):DueIs H' v c:=by
 let#[p,e,f]:=h;exact#[p,e,s _ _ f]
abbrev PrIs(H:Hp)(v:V)(x:Rat):Prop:=DueIs H v (prR x)
def PrIs.mono(h:PrIs H v x)(s:Same H H'):PrIs H' v x:=DueIs.mono h s
def vR_pr(x:Rat):vR (prR x)=x:=Rat.num_divInt_den x
def smallR.pn(h:smallR x):PN 30 (prR x):=#[h.bd.1,by show(1:Int)<=x.den;have:=x.den_pos;lia,by show(x.den:Int).natAbs<=_;rw[kH];exact h.bd.2]
inductive IspLDiv(vs:List V)(H:Hp)(Q:VK):Prop
 |mk(i j:Int)(h1:vs=[.int i,.int j])(h2:0<j)(h3:∀H',Same H H'->Q (.int (gcd i j)) H'):IspLDiv vs H Q
abbrev spLDiv:Sp:=λvs H Q _=>IspLDiv vs H Q
def ok_law_divisor(T:TX K mg a):FnB P w K mg base CX0 "_law_divisor" 1 ["_law_one","_law_other"] spLDiv:=by
 refine T.d_law_divisor.ok sc_law_divisor (λy H Q E h=>?_) (λf u A l s H y Q E J h=>?_)
 ·let#[i,j,8,_]:=h;rfl
 ·let#[i,j,8,F,k]:=h
  refine#[_,(aB (ps_while kl (aK iK (pv 1) aF (aS _)) (aE (ps_par (i:=0) (j:=1) rfl sc_law_divisor.nd rfl rfl (by decide) rfl rfl (aA (pv 1) (aA (aQ bQ (pv 0) (pv 1)) aD)) rfl)))
   (aE (aM (bC ij (by rfl) T.z_abs PyProof.Rows.boot_abs (aA (pv 0) aD))))),?_]
  try dsimp only[bF,Cx.nox,Cx.wish]
  refine while_by (λσ b=>yE2 λ(n m:Int)=>σ=[some (.int n),some (.int m)]×' Same H b×' 0<=m×'(m=0->0<=n)×' gcd n m=gcd i j) (λσ _=>match σ with|[_,some (.int m)]=>m.toNat|_=>0) ?_ ?_ ?_
  ·exact#[i,j,8,Same.refl _,4,λz=>by lia,8]
  ·rintro σ b⟨n,m,rfl,o,r,p,d⟩;refine#[9,8,9,?_];by_cases z:m=0
   ·subst z;refine iO rfl ?_;refine#[9,9,?_];rw[gcd_zero n (p rfl)]at d;have e:(if n<0 then-n else n)=n:=if_neg (by have:=p rfl;lia);rw[e,d];exact k b o
   ·refine bT (by rw[neV z];rfl) ?_;let#[g1,L,B]:=gcd_turn d r z;refine#[9,9,9,7,(by show(0:Int)<m;lia),_,9,#[_,9,o,g1,λ_=>r,B],?_];show(n%m).toNat<m.toNat
    lia
  ·rintro σ b I G t⟨v,e,x,c,D,q⟩;exact#[v,e,x,c,D,t _ _ q]
inductive IspLowL(vs:List V)(H:Hp)(Q:VK):Prop
 |mk(i j:Int)(h1:vs=[.int i,.int j])(h2:0<j)(h3:Sm j)(h4:∀t H',H t=none->Same H H'->H' t=some (.tup [.int (Rat.divInt i j).num,.int ((Rat.divInt i j).den:Int)])->Q (.ref t) H'):IspLowL vs H Q
abbrev spLowL:Sp:=λvs H Q _=>IspLowL vs H Q
def fQ(T:TX K mg a):FnB P w K mg base CX0 "_law_lowest" 2 ["_law_top","_law_bottom"] spLowL:=by
 refine T.d_law_lowest.ok sc_law_lowest (λm H Q E h=>?_) (λf o A c s H m Q E q h=>?_)
 ·let#[i,j,8,_]:=h;rfl
 ·let#[i,j,8,b,p,k]:=h
  refine#[_,(aB (aR (i:=2) sc_law_lowest.nd rfl (Or.inl rfl) (aZ (ok_law_divisor T) q aL (aA (pv 0) (aA (pv 1) aD))))
   (aE (aM (cH (aA (aQ bZ (pv 0) (pv 2)) (aA (aQ bZ (pv 1) (pv 2)) aD)))))),?_]
  try dsimp only[bF,Cx.nox,Cx.wish]
  have u:0<gcd i j:=c7 i ();have e:Sm (gcd i j):=Sm.gcd_r i () p;refine#[9,9,i,j,8,b,λr l=>?_];refine#[9,9,7,#[4,e],9,9,7,#[4,e],zL2,λt d=>?_];refine k t _ (l.free d) (l.trans (aI d)) ?_;rw[aC];show some (HO.tup [.int (i.fdiv (gcd i j)),.int (j.fdiv (gcd i j))])=_;rw[shown_num i b,shown_den i b]
inductive IspTextL(vs:List V)(H:Hp)(Q:VK):Prop
 |mk(v:V)(x:Rat)(n:Nat)(h1:vs=[v])(h2:PrIs H v x)(h3:Bd n x)(h4:n<1900)(h5:Q (.str (bO x)) H):IspTextL vs H Q
abbrev spTextL:Sp:=λvs H Q _=>IspTextL vs H Q
def pow_600:(2:Nat)^1900<=10^600:=by decide+kernel
def txt_lenB(h:Tx i):(Str.ofString (toString i)).length<=4000:=by
 have a:∀m:Nat,m<10^600->(dg m).length<=600:=λm d=>by
  have c:=PyProof.Rows.toString_length_le (v:=(m:Int)) () (k:=600) (by decide) (by exact_mod_cast d);rw[<-dO m];exact c
 have b:i.natAbs<10^600:=j7 h pow_600;show(txt i).cps.size<=4000;rw[<-ki]
 cases i with
 |ofNat m=>rw[show Int.ofNat m=((m:Nat):Int) from rfl,dO];exact jK (a m b) (by decide)
 |negSucc m=>rw[txt_neg,jU];exact jK (Nat.succ_le_succ (a (m+1) b)) (by decide)
def fJ(T:TX K mg a):FnB P w K mg base CX0 "_law_text" 1 ["_law_pair_here"] spTextL:=by
 refine T.d_law_text.ok sc_law_text (λo H Q E h=>?_) (λf p A j s H o Q E u h=>?_)
 ·let#[_,_,_,8,_]:=h;rfl
 ·let#[_,x,n,8,#[t,8,d],b,l,k]:=h
  refine#[_,(aB (aW (aK bL (aN bA (pv 0) aF (λ_ _=>rfl)) aF (aS _)) (aE (aM (bW dI (by rfl) T.z_str k6 (aA (aN bA (pv 0) aF (λ_ _=>rfl)) aD)))) aJ)
   (aE (aM (aQ cW (aQ cW (bW dI (by rfl) T.z_str k6 (aA (aN bA (pv 0) aF (λ_ _=>rfl)) aD)) aT) (bW dI (by rfl) T.z_str k6 (aA (aN bA (pv 0) aF (λ_ _=>rfl)) aD)))))),?_]
  try dsimp only[bF,Cx.nox,Cx.wish]
  have d:H t=some (.tup [.int x.num,.int (x.den:Int)]):=d;have c:=SqT.of (K:=K) d;have i:=b.tx l;have m:=b.txd l;have r:=txt_lenB i;have q:=txt_lenB m;unfold bO at k;refine#[9,t,_,7,c,8,8,9,ifV (λe=>?_) (λe=>?_)]
  ·rw[if_pos e]at k;exact#[9,t,_,7,c,8,9,i.log,k]
  ·rw[if_neg e]at k;refine#[9,t,_,7,c,8,9,i.log,7,?_,9,t,_,7,c,8,9,m.log,7,?_,k]
   ·rw[j1];show(Str.ofString (toString x.num)).length+1<=_
    lia
   ·rw[kD,j1];show(Str.ofString (toString x.num)).length+1+(Str.ofString (toString (x.den:Int))).length<=_
    lia
inductive IspSumL(K:W.Frag)(vs:List V)(H:Hp)(Q:VK):Prop
 |mk(l:Addr)(ts:List V)(cs:List (Int×Int))(h1:vs=[.ref l])(h2:SqL K H l ts)(h3:RowAt DueIs H ts cs)(h4:cs.length<=50)(h5:(∀c∈cs,PN 60 c))(h6:∀v H',Same H H'->PrIs H' v (cs.map vR).sum->Q v H'):IspSumL K vs H Q
abbrev spSumL(K:W.Frag):Sp:=λvs H Q _=>IspSumL K vs H Q
def ok_law_sum(T:TX K mg a):FnB P w K mg base CX0 "_law_sum" 3 ["_law_pairs"] (spSumL K):=by
 refine T.d_law_sum.ok sc_law_sum (λM H Q E h=>?_) (λf G A y s H M Q E O h=>?_)
 ·let#[_,_,_,8,_]:=h;rfl
 ·let#[l,B,cs,8,z,o,N,pn,k]:=h
  refine#[_,(aB (aR (i:=1) sc_law_sum.nd rfl (Or.inl rfl) aF)
   (aB (aR (i:=2) sc_law_sum.nd rfl (Or.inl rfl) aF)
   (aB (cS kl rfl (cU (pv 0)) (bD (i:=3) sc_law_sum.nd rfl (Or.inl rfl)) (aB (aR (i:=1) sc_law_sum.nd rfl (Or.inl rfl) (aQ fP (aQ du (pv 1) (aN bA (pv 3) aF (λ_ _=>rfl))) (aQ du (aN bA (pv 3) aF (λ_ _=>rfl)) (pv 2))))
   (aE (aR (i:=2) sc_law_sum.nd rfl (Or.inl rfl) (aQ du (pv 2) (aN bA (pv 3) aF (λ_ _=>rfl)))))))
   (aE (aM (aZ (fQ T) O aL (aA (pv 1) (aA (pv 2) aD)))))))),?_]
  try dsimp only[bF,Cx.nox,Cx.wish]
  have J:B.length=cs.length:=o.1;refine#[9,l,8,#[_,z],c8 (K:=K) (a:=l) (xs:=B) (λi σ q=>i<=cs.length/\yE2 λ(c:Int×Int)(u:Option V)=>σ=[some (.ref l),some (.int c.1),some (.int c.2),u]×' q=H×' PN (i*61) c×' vR c=((cs.take i).map vR).sum) #[jZ _,(0,1),9,8,#[by show(0:Int).natAbs<=_;exact jZ _,by show(1:Int)<=1;decide,by show(1:Int).natAbs<=_;exact Nat.one_le_two_pow],by show Rat.divInt 0 1=_;rw[Rat.zero_divInt];rfl] ((by rintro i σ q _⟨_,_,_,_,e,_⟩;exact by rw[e];exact z)) ?_ ?_]
  ·rintro i x σ q L⟨_,c,u,rfl,rfl,b,m⟩;let#[d,v,p,8,R]:=o.get L;have hi:i<cs.length:=(jH.mp v).1;have j:=pn d (jP v);have r:=SqT.of (K:=K) R;refine#[9,9,p,_,7,r,8,7,ei b.b1 j.b3 (),9,p,_,7,r,8,9,7,ei j.b1 b.b3 (),7,?_];refine#[9,9,p,_,7,r,8,7,ei b.b3 j.b3 (),?_];refine#[hi,(c.1*d.2+d.1*c.2,c.2*d.2),9,8,#[?_,Int.mul_pos (by have:=b.b2;lia) (by have:=j.b2;lia),?_],?_]
   ·rw[show(i+1)*61=i*61+60+1 by lia];refine natAbs_add_le' (dM b.b1 j.b3) ?_;rw[Nat.add_comm (i*61) 60];exact dM j.b1 b.b3
   ·exact jK (dM b.b3 j.b3) (hG ())
   ·rw[vR_add b.nz j.nz,m,j4,v,j6,jY,kz,lD,sum_snocR]
  ·rintro σ q⟨_,c,u,rfl,rfl,b,m⟩;rw[J]at b m;rw[ke]at m;exact#[9,9,_,9,(by have:=b.b2;lia),Sm.of_le b.b3 (),λt F S I D=>k _ F I #[t,8,by rw[<-m];exact D]]
def cX(c:Int)(h:0<m):0<=c%m/\c%m<m:=#[Int.emod_nonneg _ (),Int.emod_lt_of_pos _ h]
def small_div(hj:0<j)(h1:i.natAbs<10^9)(h2:j.natAbs<10^9):smallR (Rat.divInt i j):=by
 refine#[?_,?_]
 ·rw[<-shown_num i hj];have a:=c7 i (show j≠0 by lia);rw[kQ _ ()];let#[d,hd]:=Int.eq_ofNat_of_zero_le (Int.le_of_lt a);rw[hd];exact j8 (Int.natAbs_ediv_le_natAbs _ _) h1
 ·have e:=shown_den i hj;have a:=c7 i (show j≠0 by lia);rw[kQ _ ()]at e
  have:=Int.natAbs_ediv_le_natAbs j (gcd i j)
  rw[e,kH]at this
  lia
inductive IspNumL(vs:List V)(H:Hp)(Q:VK):Prop
 |mk(c:Int)(h1:vs=[.int c])(h2:∀t H'(x:Rat),Same H H'->H' t=some (.tup [.int x.num,.int (x.den:Int)])->smallR x->Q (.ref t) H'):IspNumL vs H Q
abbrev spNumL:Sp:=λvs H Q _=>IspNumL vs H Q
def eE(T:TX K mg a):FnB P w K mg base CX0 "_law_number" 3 ["_law_cell"] spNumL:=by
 refine T.d_law_number.ok sc_law_number (λo H Q E h=>?_) (λf u A e s H o Q E x h=>?_)
 ·let#[_,8,_]:=h;rfl
 ·let#[c,8,k]:=h
  refine#[_,(aB (aR (i:=1) sc_law_number.nd rfl (Or.inl rfl) (aQ op_sub (aQ bQ (pv 0) aF) aF))
   (bH (aW (aK bL (aQ bQ (aQ dA (pv 0) aF) aF) aF (aS _)) (aE (aR (i:=1) sc_law_number.nd rfl (Or.inl rfl) (aQ op_sub (aQ bQ (aQ dA (pv 0) aF) aF) aF))) aJ)
   (aE (aM (aZ (fQ T) x aL (aA (pv 1) (aA (aQ fP aF (aQ bQ (aQ dA (pv 0) aF) aF)) aD))))))),?_]
  try dsimp only[bF,Cx.nox,Cx.wish]
  generalize b:tCut _ _=j
  revert j
  refine jv λj b=>?_;let#[D,J]:=cX c (show(0:Int)<13 by decide);let#[B,F]:=cX (c/117) (show(0:Int)<1999999999 by decide);let#[G,y]:=cX (c/39) (show(0:Int)<4 by decide);refine#[9,7,zI13,7,?_];subst b;refine dX (λm l=>yE1 λ(n:Int)=>n.natAbs<10^9×' m=[some (.int c),some (.int n)]×' l=H) ?_ ?_
  ·refine#[9,7,#[5,5],7,zI9,8,9,ifV (λ_=>?_) (λ_=>?_)]
   ·refine#[9,7,#[5,5],7,zI1999999999,7,?_];exact#[c/117%1999999999-999999999,4,8,8]
   ·exact#[c%13-6,4,8,8]
  rintro I d m l⟨n,q,rfl,rfl⟩;subst d;exact#[9,9,7,#[5,5],7,zI4,7,_,9,by show(0:Int)<1+c/39%4;lia,Sm.of_le (n:=3) (by show(1+c/39%4).natAbs<=_;lia) (by decide),λt r z v p=>k t r _ v p (small_div (by show(0:Int)<1+c/39%4;lia) q (by show(1+c/39%4).natAbs<_;lia))]
structure Nms(N:List Str):Prop where
 len:N.length=5
 ok:∀n∈N,dN n=true
inductive IspNamesL(vs:List V)(H:Hp)(Q:VK):Prop
 |mk(c:Int)(h1:vs=[.int c])(h2:0<=c)(h3:∀l H' N,H l=none->Same H H'->H' l=some (.lst (N.map V.str))->Nms N->Q (.ref l) H'):IspNamesL vs H Q
abbrev spNamesL:Sp:=λvs H Q _=>IspNamesL vs H Q
abbrev iy(i:Int):Str:=#[(List.toArray [97+(i%26).toNat])]
def let_at(i:Int):atI ("abcdefghijklmnopqrstuvwxyz":Str).cps.toList (i%26)=some (97+(i%26).toNat):=by
 let#[c,d]:=cX i (show(0:Int)<26 by decide);obtain⟨n,b⟩:∃n:Nat,i%26=n:=#[(i%26).toNat,4];have a:∀n:Nat,n<26->("abcdefghijklmnopqrstuvwxyz":Str).cps.toList[n]?=some (97+n):=by decide
 rw[b,Int.toNat_natCast];exact iw (a n ())
def let1_in(i:Int):∀c∈(iy i).cps.toList,inB "abcdefghijklmnopqrstuvwxyz" c=true:=by
 have a:∀n:Nat,n<26->inB "abcdefghijklmnopqrstuvwxyz" (97+n)=true:=by decide
 let#[d,e]:=cX i (show(0:Int)<26 by decide);intro c b;obtain rfl:c=97+(i%26).toNat:=by simpa[iy]using b
 exact a _ ()
def one_of{c:Str}(h:c.length=1):∃x:Nat,c=#[(List.toArray [x])]:=by
 let#[#[l]]:=c
 match l,h with
 |[x],_=>exact#[x,8]
def rep_len(c:Str)(n:Int)(h:c.length=1):(Txt.mul c n).length=n.toNat:=by
 let#[x,8]:=one_of h;rw[len_cps,mul_cps,List.length_replicate]
def mul_in(h1:c.length=1)(h:d∈(Txt.mul c n).cps.toList):d∈c.cps.toList:=by
 let#[x,8]:=one_of h1;rw[mul_cps]at h;rw[(List.mem_replicate.mp h).2];exact li.mpr rfl
def nameB_of(h1:1<=z.length)(h2:z.length<=8)(h:∀c∈z.cps.toList,inB "abcdefghijklmnopqrstuvwxyz" c=true):dN z=true:=by
 unfold dN madeB;rw[lG,lG,decide_eq_true_iff,decide_eq_true_iff,kR];refine#[4,h]
def ok_law_names(T:TX K mg a):FnB P w K mg base CX0 "_law_names" 1 ["_law_cell"] spNamesL:=by
 refine T.d_law_names.ok sc_law_names (λR H Q E h=>?_) (λf O A B s H R Q E Z h=>?_)
 ·let#[_,8,_]:=h;rfl
 ·let#[c,8,Y,k]:=h
  refine#[_,(aB (aR (i:=1) sc_law_names.nd rfl (Or.inr rfl) aT)
   (aB (aW (aK bL (aQ bQ (pv 0) aF) aF (aS _)) (aE (aM (fj (xs:=["_law_k"]) (rest:=["_law_cell","_law_letters"]) rfl (pi_range1 rfl T.z_range (aA aF aD))
   (λm L I D G=>(bD (i:=0) (show(["_law_k","_law_cell","_law_letters"]:List Str).Nodup by decide+kernel) rfl (Or.inl rfl))) (λm L I D G=>fE)
   (λm L I D G=>(aQ iU (aN ix_str (pv 2) (aQ bQ (aQ dA (pv 1) aF) aF) (λ_ _=>rfl)) (aQ fP (pv 0) aF)))
   (Clos.many (ys:=["_law_letters","_law_cell"]) rfl #[8,8,True.intro] rfl (by decide+kernel)) (Reads.many (ys:=["_law_cell","_law_letters"]) (js:=[0,1]) #[#[8,8,8],#[8,8,8],True.intro])))) aJ)
   (aB (aR (i:=2) sc_law_names.nd rfl (Or.inl rfl) (aQ fP aF (aQ bQ (aQ dA (pv 0) aF) aF)))
   (aB (aR (i:=3) sc_law_names.nd rfl (Or.inl rfl) (aQ bQ (aQ dA (pv 0) aF) (pv 2)))
   (aB (aR (i:=4) sc_law_names.nd rfl (Or.inl rfl) (aN ix_str (pv 1) (aQ bQ (aQ dA (pv 0) aF) aF) (λ_ _=>rfl)))
   (aB (aR (i:=5) sc_law_names.nd rfl (Or.inl rfl) (dj aD))
   (aB (cS kl rfl (pi_range1 rfl T.z_range (aA aF aD)) (bD (i:=6) sc_law_names.nd rfl (Or.inl rfl)) (aB (aR (i:=7) sc_law_names.nd rfl (Or.inl rfl) (aN ix_str (pv 1) (aQ bQ (aQ fP (aQ dA (pv 0) aF) (aQ dR aF (pv 6))) aF) (λ_ _=>rfl)))
   (aE (bG (dr kj kf kg bU (pv 5) (aA (aQ cW (aQ cW (aQ iU (pv 4) (pv 3)) (pv 7)) (aQ iU (pv 4) (aQ op_sub (aQ op_sub (pv 2) (pv 3)) aF))) aD))))))
   (aE (aM (pv 5)))))))))),?_]
  try dsimp only[bF,Cx.nox,Cx.wish]
  walk_at"rd"
  refine ifV (λ_=>?_) (λ_=>?_)
  ·refine⟨5,rfl,by decide,by decide,λl r=>?_⟩;refine compG_range (λi e=>i<=5×' Same H e×' yE1 λ(N:List Str)=>N.length=i×'(∀n∈N,dN n=true)×' e l=some (.lst (N.map V.str))) #[jZ _,aI r,[],8,(λn h=>absurd h jV),aC] ?_ ?_
   ·rintro i e hi⟨_,t,N,ln,u,j⟩;refine g1 #[#[[_],8,8],yes ?_];have p:i<5:=by simpa using hi
    walk_at"rd"
    refine#[by rw[j1];decide,let_at (c/3),?_];walk_at"rd"
    refine#[show(0+(i:Int)+1).natAbs<1000 by lia,?_];refine#[_,j,bB (by rw[jE];lia),gM (by simpa using hi) #[p,bY r t,N++[Txt.mul (iy (c/3)) (0+(i:Int)+1)],by rw[j5,ln];rfl,λn b=>?_,?_]]
    ·rcases lC.mp b with b|b
     ·exact u n b
     ·rw[li.mp b];refine nameB_of (by rw[rep_len _ _ rfl];lia) (by rw[rep_len _ _ rfl];lia) λd hd=>?_;exact let1_in (c/3) d (mul_in rfl hd)
    ·rw[aC,jY];rfl
   ·rintro e⟨_,t,N,ln,u,j⟩;exact k l e N r t j #[ln,u]
  ·let#[S,W]:=cX (c/3) (show(0:Int)<8 by decide);let#[p0,p1]:=cX (c/24) (show(0:Int)<1+c/3%8 by lia);walk_at"rd"
   refine#[show(0:Int)<1+c/3%8 by lia,?_];walk_at"rd"
   refine#[by rw[j1];decide,let_at (c/192),?_];refine#[zL0,λl r=>?_];let#[U,zq,J,M]:=uG (o:=.lst []) r;rw[zq];refine⟨5,rfl,by decide,by decide,for_range (n:=5) (λi σ e=>i<=5/\yE3 λ(y z:Option V)(N:List Str)=>σ=[some (.int c),some (.str "abcdefghijklmnopqrstuvwxyz"),some (.int (1+c/3%8)),some (.int (c/24%(1+c/3%8))),some (.str (iy (c/192))),some (.ref l),y,z]×' Same H e×' N.length=i×'(∀n∈N,dN n=true)×' e l=some (.lst (N.map V.str))) #[jZ _,_,_,[],8,J,8,(λn h=>absurd h jV),M] ?_ ?_⟩
   ·rintro i σ e hi⟨_,y,z,N,rfl,t,ln,u,j⟩;have p:i<5:=by simpa using hi
    walk_at"rd"
    refine#[#[Sm.of_le (n:=3) (by decide) (by decide),Sm.of_le (n:=3) (by show(0+(i:Int)).natAbs<=8;lia) (by decide)],?_];walk_at"rd"
    refine#[by rw[j1];decide,let_at (c/5000+5*(0+(i:Int))),?_];have q:=rep_len (iy (c/192)) (c/24%(1+c/3%8)) rfl;have v:=rep_len (iy (c/192)) (1+c/3%8-c/24%(1+c/3%8)-1) rfl;have x:(iy (c/5000+5*(0+(i:Int)))).length=1:=rfl
    have X:((Txt.mul (iy (c/192)) (c/24%(1+c/3%8))++iy (c/5000+5*(0+(i:Int))))++Txt.mul (iy (c/192)) (1+c/3%8-c/24%(1+c/3%8)-1)).length=(1+c/3%8).toNat:=by
     rw[kD,kD,q,v,x]
     lia
    refine#[9,.inl #[8,_,SqL.of j],9,9,iy (c/192),c/24%(1+c/3%8),8,8,8,(),9,_,iy (c/5000+5*(0+(i:Int))),8,8,?_,9,9,9,7,7,iy (c/192),1+c/3%8-c/24%(1+c/3%8)-1,8,8,8,(),7,?_,l,7,j,bB (by rw[jE];lia),p,_,_,N++[(Txt.mul (iy (c/192)) (c/24%(1+c/3%8))++iy (c/5000+5*(0+(i:Int))))++Txt.mul (iy (c/192)) (1+c/3%8-c/24%(1+c/3%8)-1)],8,bY r t,by rw[j5,ln];rfl,λn b=>?_,?_]
    ·rw[q,x,j1];lia
    ·rw[kD,q,v,x,j1];lia
    ·rcases lC.mp b with b|b
     ·exact u n b
     ·rw[li.mp b];refine nameB_of () () λd hd=>?_;rw[app_of,app_of]at hd;rcases lC.mp hd with hd|hd
      ·rcases lC.mp hd with hd|hd
       ·exact let1_in _ d (mul_in rfl hd)
       ·exact let1_in _ d hd
      ·exact let1_in _ d (mul_in rfl hd)
    ·rw[aC,jY];rfl
   ·rintro σ e⟨_,y,z,N,rfl,t,ln,u,j⟩;exact#[9,k l e N r t j #[ln,u]]
inductive IspFlow(vs:List V)(H:Hp)(Q:VK):Prop
 |mk(m d0 d1 d2:Addr)(n:Str)(kv:List (Key×V))(ks:List Str)(B:Str->Rat)(h1:vs=[.ref m,.str n])(h2:H m=some (.tup [.ref d0,.ref d1,.ref d2]))(h3:Rd H d2 (.dK kv))(h4:Tab PrIs H kv ks B)(h5:∀v H',Same H H'->PrIs H' v (aO ks B n)->Q v H'):IspFlow vs H Q
abbrev spFlow:Sp:=λvs H Q _=>IspFlow vs H Q
def fK(T:TX K mg a):FnB P w K mg base CX0 "_law_flow" 1 ["_law_model","_law_name"] spFlow:=by
 refine T.d_law_flow.ok sc_law_flow (λp H Q E h=>?_) (λf z A i s H p Q E D h=>?_)
 ·let#[_,_,_,_,_,_,_,_,8,_]:=h;rfl
 ·let#[m,F,G,l,n,c,x,B,8,y,hd,tb,k]:=h;refine#[_,(aE (aM (pe_dget2 (cA D) (aN bA (pv 0) aF (λ_ _=>rfl)) (pv 1) (cH (aA aF (aA aF aD))) #[8,8,8,8]))),?_];try dsimp only[bF,Cx.nox,Cx.wish]
  refine#[9,m,_,7,SqT.of y,8,l,8,.inl #[c,hd],9,zL2,λt u=>?_];let#[e,zq,b,j]:=uG (o:=.tup [.int 0,.int 1]) u;rw[zq];have d:Rd e l (.dK c):=hd.imp (λh=>b _ _ h) (by rintro⟨o,h⟩;exact#[o,b _ _ h]);refine#[cR c (Sum.inr n),.inl #[c,Sum.inr n,d,8,8],?_];unfold aO at k;by_cases hn:n∈x
  ·let#[v,r,q]:=tb.vals n hn;rw[r];rw[if_pos hn]at k;exact k v e b (q.mono b)
  ·rw[tb.none hn];rw[if_neg hn]at k;exact k _ e b #[t,8,j]
abbrev PaIs(H:Hp)(v:V):Wd->Prop
 |.nm z=>v=.str z
 |.fr x=>PrIs H v x
 |.no=>v=.non
def PaIs.mono(h:PaIs H v c)(s:Same H H'):PaIs H' v c:=by
 cases c with
 |nm z=>exact h
 |fr x=>exact PrIs.mono h s
 |no=>exact h
abbrev PartsAt(H:Hp)(l:Addr)(r:Rw):Prop:=∃us,H l=some (.lst (.str r.hd::us))/\RowAt PaIs H us r.cs
def PartsAt.mono(h:PartsAt H l r)(s:Same H H'):PartsAt H' l r:=by
 let#[us,e,k]:=h;exact#[us,s _ _ e,k.mono λ_ _ z=>z.mono s]
def jw(z:Str):∀(ps:List Str)(u:Array Nat),ps.foldl (λacc p=>acc++z.cps++p.cps) u=u++(ps.foldl (λacc p=>acc++z.cps++p.cps) (List.toArray []))
 |[],u=>by simp
 |p::r,u=>by
  rw[List.foldl_cons,List.foldl_cons,jw z r (u++z.cps++p.cps),jw z r ((List.toArray [])++z.cps++p.cps)];simp[Array.append_assoc]
def glued_join(z:Str):∀ps:List Str,Builtin.Str.glued z ps=Str.join z ps
 |[]=>rfl
 |[p]=>rfl
 |p::q::r=>by
  have b:=glued_join z (q::r);have e:Str.join z (p::q::r)=p++z++Str.join z (q::r):=rfl;rw[e,<-b];show(#[(q::r).foldl (λa p=>a++z.cps++p.cps) p.cps]:Str)=p++z++(#[r.foldl (λa p=>a++z.cps++p.cps) q.cps]:Str);rw[List.foldl_cons,jw z r]
  conv=>rhs;rw[jw z r]
  show(#[_]:Str)=(#[(p.cps++z.cps)++(q.cps++_)]:Str);rw[Array.append_assoc,Array.append_assoc]
def shown_len40(h:smallR x):(bO x).length<=30:=by
 let#[_,c]:=ig _ h.1;let#[_,d]:=ig _ h.2
 have a:(txt x.num).length<=10:=by
  show(txt x.num).cps.size<=_;rw[<-ki,gB]
  split
  ·rw[jU];lia
  ·lia
 have b:(txt (x.den:Int)).length<=10:=by
  show(txt (x.den:Int)).cps.size<=_;rw[<-ki,dO]
  lia
 unfold bO
 split
 ·exact jK a (by decide)
 ·rw[kD,kD]
  have:("/":Str).length=1:=rfl
  have i:(Str.ofString (toString x.num)).length<=10:=a;have e:(Str.ofString (toString (x.den:Int))).length<=10:=b
  lia
def Wd.len30{c:Wd}(h:c.ok kd):c.txt.length<=30:=by
 cases c with
 |nm z=>have:=(eX h.2).2.1;exact jK this (by decide)
 |fr x=>exact shown_len40 h.2
 |no=>exact(by decide:("-":Str).length<=30)
inductive IspRowL(vs:List V)(H:Hp)(Q:VK):Prop
 |mk(l:Addr)(r:Rw)(h1:vs=[.ref l])(h2:PartsAt H l r)(h3:r.ok)(h4:∀H',Same H H'->Q (.str (Str.join ⟨(List.toArray [32])⟩ (r.hd::r.cs.map Wd.txt))) H'):IspRowL vs H Q
abbrev spRowL(K:W.Frag):Sp:=λvs H Q _=>IspRowL vs H Q
def ok_law_row(T:TX K mg a):FnB P w K mg base CX0 "_law_row" 3 ["_law_parts_here"] (spRowL K):=by
 refine T.d_law_row.ok sc_law_row (λvs H Q E h=>?_) (λf aa A O s H vs Q E hr h=>?_)
 ·let#[_,_,8,_]:=h;rfl
 ·let#[l,r,8,#[D,S,W],ok,k]:=h
  refine#[_,(aB (aR (i:=1) sc_law_row.nd rfl (Or.inl rfl) (dj aD))
   (aB (cS kl rfl (cU (pv 0)) (bD (i:=2) sc_law_row.nd rfl (Or.inl rfl)) (aE (aW (aK op_isN (pv 2) cB (aS _)) (aE (bG (dr kj kf kg bU (pv 1) (aA aT aD)))) (aE (aW (cG (bC (fu (c:=.type "str")) (by rfl) T.z_isinstance jQ (aA (pv 2) (aA (gz (v:=.ty "str") (by rfl) T.z_str k6 rfl) aD)))) (aE (bG (dr kj kf kg bU (pv 1) (aA (pv 2) aD)))) (aE (bG (dr kj kf kg bU (pv 1) (aA (aZ (fJ T) hr aL (aA (pv 2) aD)) aD)))))))))
   (aE (aM (dr lK PySem.F.slot_str_join PySem.F.type_str_join mt_join aT (aA (pv 1) aD)))))),?_]
  try dsimp only[bF,Cx.nox,Cx.wish]
  have G:=Rw.rowOk ok;refine#[zL0,λq R=>?_];let#[H1,zq,N,X]:=uG (o:=.lst []) R;rw[zq];have lu:D.length=r.cs.length:=W.1;have lc:r.cs.length<=6:=by rw[G.len];exact(ie G.at_).2.2
  refine#[9,l,8,#[_,SqL.of (N _ _ S)],c8 (K:=K) (a:=l) (xs:=.str r.hd::D) (λi σ d=>i<=D.length+1/\yE1 λI=>σ=[some (.ref l),some (.ref q),I]×' Same H d×' d q=some (.lst (((r.hd::r.cs.map Wd.txt).take i).map V.str))) #[jZ _,9,N,X] ((by rintro i σ d _⟨_,_,_,B,_⟩;exact SqL.of (B _ _ S))) ?_ ?_]
  ·rintro i x σ d L⟨_,I,rfl,B,b⟩;have hi:i<D.length+1:=(jH.mp L).1
   have fin:∀y:Str,(r.hd::r.cs.map Wd.txt)[i]?=some y->i+1<=D.length+1/\yE1 λI=>[some (V.ref l),some (V.ref q),some x]=[some (V.ref l),some (V.ref q),I]×' Same H (upd d q (.lst (((r.hd::r.cs.map Wd.txt).take i).map V.str++[.str y])))×' upd d q (.lst (((r.hd::r.cs.map Wd.txt).take i).map V.str++[.str y])) q=some (.lst (((r.hd::r.cs.map Wd.txt).take (i+1)).map V.str)):=λy M=>
    #[hi,9,bY R B,by rw[aC,j4,M,j6,jY];rfl]
   have sm:(((r.hd::r.cs.map Wd.txt).take i).map V.str).length<sizeLine:=bB (by rw[jE,kc,jU,jE];lia);have ab:∀(y:Str),(r.hd::r.cs.map Wd.txt)[i]?=some y->x=.str y->x≠.non:=λy _ e z=>by rw[z]at e;cases e
   cases i with
   |zero=>
    obtain rfl:.str r.hd=x:=kh L;refine#[9,8,9,aX (jI (by intro z;cases z)) ?_];refine#[9,_,_,_,9,(λu h=>h),TyOf.str _,T.k_str_str,9,iteT ?_];exact#[9,.inl #[8,_,SqL.of b],9,q,7,b,sm,fin _ rfl]
   |succ j=>
    have L:D[j]?=some x:=L;let#[c,Y,m]:=W.get L;have m:=m.mono B;have M:(r.hd::r.cs.map Wd.txt)[j+1]?=some c.txt:=by show(r.cs.map Wd.txt)[j]?=_;rw[jM,Y];rfl
    cases c with
    |nm z=>
     obtain rfl:x=.str z:=m;refine#[9,8,9,aX (jI (by intro z;cases z)) ?_];refine#[9,_,_,_,9,(λu h=>h),TyOf.str _,T.k_str_str,9,iteT ?_];exact#[9,.inl #[8,_,SqL.of b],9,q,7,b,sm,fin _ M]
    |no=>
     obtain rfl:x=.non:=m;refine#[9,8,9,bT (jL rfl) ?_];exact#[9,.inl #[8,_,SqL.of b],q,7,b,sm,fin _ M]
    |fr y=>
     let#[kd,p]:=G.each (jP Y);let#[t,8,Z]:=id m;refine#[9,8,9,aX (jI (by intro z;cases z)) ?_];refine#[9,_,_,_,9,(λu h=>h),TyOf.tup Z,T.k_tuple_str,9,iteF ?_];exact#[9,.inl #[8,_,SqL.of b],9,_,y,30,8,m,smallR.bd p.2,5,q,7,b,sm,fin _ M]
  ·rintro σ d⟨_,I,rfl,B,b⟩
   have b:d q=some (.lst ((r.hd::r.cs.map Wd.txt).map V.str)):=by
    rw[jU,lu,ly (by rw[jU,jE];lia)]at b;exact b
   have U:∀y∈r.hd::r.cs.map Wd.txt,y.length<=30:=λy J=>by
    rcases jR.mp J with rfl|J
    ·exact jK (ie G.at_).2.1 (by decide)
    ·let#[c,m,8]:=j9.mp J;let#[kd,p]:=G.each m;exact Wd.len30 p
   have ll:(r.hd::r.cs.map Wd.txt).length<=7:=by rw[jU,jE];lia
   refine#[8,9," ",q,9,8,SqL.of b,λy J=>jK (U y J) (by decide),5,jK ll (by decide),?_,?_]
   ·refine jK (glued_len " " 30 _ U) ?_;have c1:(" ":Str).length=1:=rfl;rw[c1,j1]
    lia
   ·rw[show(" ":Str)=#[(List.toArray [32])]from rfl,glued_join];exact k d B
abbrev RfAt(a:Ad)(H:Hp)(x:Addr):Nat×Str->Prop
 |(0,_)=>XAt H x a.NoRow
 |(1,n)=>XAtD H x a.NoPlace [("place",.str n)]
 |(_,n)=>XAtD H x a.NoWay [("name",.str n)]
def RfAt.mono(h:RfAt a H x c)(s:Same H H'):RfAt a H' x c:=by
 match c,h with
 |(0,_),h=>exact XAt.mono h s
 |(1,_),h=>exact XAtD.mono h s
 |(c+2,_),h=>exact XAtD.mono h s
abbrev tupR:Nat×Str->List V
 |(0,_)=>[.str "row"]
 |(1,n)=>[.str "place",.str n]
 |(_,n)=>[.str "way",.str n]
inductive IspRfl(a:Ad)(vs:List V)(H:Hp)(Q:VK):Prop
 |mk(x:Addr)(c:Nat×Str)(h1:vs=[.ref x])(h2:RfAt a H x c)(h3:∀q H',Same H H'->H' q=some (.tup (tupR c))->Q (.ref q) H'):IspRfl a vs H Q
abbrev spRfl(a:Ad):Sp:=λvs H Q _=>IspRfl a vs H Q
def ok_law_refusal(T:TX K mg a):FnB P w K mg base CX0 "_law_refusal" 1 ["_law_e"] (spRfl a):=by
 refine T.d_law_refusal.ok sc_law_refusal (λvs H Q E h=>?_) (λf aa A Z s H vs Q E hr h=>?_)
 ·let#[x,c,8,_]:=h;rfl
 ·let#[x,c,8,m,k]:=h
  refine#[_,(aB (aR (i:=1) sc_law_refusal.nd rfl (Or.inl rfl) (dj aD))
   (aB (aW (cG (hV (bC (dZ (c:=.ref a.NoRow)) (by rfl) T.z_isinstance jQ (aA (pv 0) (aA (cP (v:=.ref a.NoRow) (by rfl) T.mg_NoRow rfl) aD))) (bC (eN (c:=.ref a.NoRow)) (by rfl) T.z_isinstance jQ (aA (pv 0) (aA (cP (v:=.ref a.NoRow) (by rfl) T.mg_NoRow rfl) aD))))) (aE (bG (dr kj kf kg bU (pv 1) (aA aT aD)))) aJ)
   (aB (aW (cG (hV (bC (dZ (c:=.ref a.NoPlace)) (by rfl) T.z_isinstance jQ (aA (pv 0) (aA (cP (v:=.ref a.NoPlace) (by rfl) T.mg_NoPlace rfl) aD))) (bC (eN (c:=.ref a.NoPlace)) (by rfl) T.z_isinstance jQ (aA (pv 0) (aA (cP (v:=.ref a.NoPlace) (by rfl) T.mg_NoPlace rfl) aD))))) (aE (aR (i:=1) sc_law_refusal.nd rfl (Or.inl rfl) (aQ op_cat (pv 1) (dj (aA aT (aA (pe_xfld (pv 0) rfl) aD)))))) aJ)
   (aB (aW (cG (hV (bC (dZ (c:=.ref a.NoWay)) (by rfl) T.z_isinstance jQ (aA (pv 0) (aA (cP (v:=.ref a.NoWay) (by rfl) T.mg_NoWay rfl) aD))) (bC (eN (c:=.ref a.NoWay)) (by rfl) T.z_isinstance jQ (aA (pv 0) (aA (cP (v:=.ref a.NoWay) (by rfl) T.mg_NoWay rfl) aD))))) (aE (aR (i:=1) sc_law_refusal.nd rfl (Or.inl rfl) (aQ op_cat (pv 1) (dj (aA aT (aA (pe_xfld (pv 0) rfl) aD)))))) aJ)
   (aB (aW (cG (hV (bC (dZ (c:=.ref a.TooMany)) (by rfl) T.z_isinstance jQ (aA (pv 0) (aA (cP (v:=.ref a.TooMany) (by rfl) T.mg_TooMany rfl) aD))) (bC (eN (c:=.ref a.TooMany)) (by rfl) T.z_isinstance jQ (aA (pv 0) (aA (cP (v:=.ref a.TooMany) (by rfl) T.mg_TooMany rfl) aD))))) (aE (bG (dr kj kf kg bU (pv 1) (aA aT aD)))) aJ)
   (aB (aW (PW.pt (gL (cG (hV (bC (dZ (c:=.ref a.NoText)) (by rfl) T.z_isinstance jQ (aA (pv 0) (aA (cP (v:=.ref a.NoText) (by rfl) T.mg_NoText rfl) aD))) (bC (eN (c:=.ref a.NoText)) (by rfl) T.z_isinstance jQ (aA (pv 0) (aA (cP (v:=.ref a.NoText) (by rfl) T.mg_NoText rfl) aD))))) (gL (cG (hV (bC (dZ (c:=.ref a.NoNumber)) (by rfl) T.z_isinstance jQ (aA (pv 0) (aA (cP (v:=.ref a.NoNumber) (by rfl) T.mg_NoNumber rfl) aD))) (bC (eN (c:=.ref a.NoNumber)) (by rfl) T.z_isinstance jQ (aA (pv 0) (aA (cP (v:=.ref a.NoNumber) (by rfl) T.mg_NoNumber rfl) aD))))) (gL (cG (hV (bC (dZ (c:=.ref a.Twice)) (by rfl) T.z_isinstance jQ (aA (pv 0) (aA (cP (v:=.ref a.Twice) (by rfl) T.mg_Twice rfl) aD))) (bC (eN (c:=.ref a.Twice)) (by rfl) T.z_isinstance jQ (aA (pv 0) (aA (cP (v:=.ref a.Twice) (by rfl) T.mg_Twice rfl) aD))))) (hF (fO (cG (hV (bC (dZ (c:=.type "ValueError")) (by rfl) T.z_isinstance jQ (aA (pv 0) (aA (gz (v:=.ty "ValueError") (by rfl) T.z_ValueError gO rfl) aD))) (bC (eN (c:=.type "ValueError")) (by rfl) T.z_isinstance jQ (aA (pv 0) (aA (gz (v:=.ty "ValueError") (by rfl) T.z_ValueError gO rfl) aD))))))))))) (aE (bG (dr kj kf kg bU (pv 1) (aA aT aD)))) aJ)
   (aE (aM (bW iP (by rfl) T.z_tuple PyProof.Rows.boot_tuple (aA (pv 1) aD)))))))))),?_]
  try dsimp only[bF,Cx.nox,Cx.wish]
  refine#[zL0,λl nl=>?_];have W:=aI (o:=.lst []) nl;have S:upd H l (.lst []) l=some (.lst []):=aC;have m:=m.mono W;generalize upd H l (.lst [])=G at W S m⊢
  match c,m with
  |(0,n),m=>
   have m:XAt G x a.NoRow:=m;have Y:x≠l:=λz=>by rw[z]at m;exact absurd (S.symm.trans m) (by intro z;cases z)
   refine .inr #[9,x,a.NoRow,.ref a.NoRow,true,8,(λu h=>h),m,T.exa_NoRow,T.k_NoRow_NoRow,9,iteT ?_];refine#[9,.inl #[8,_,SqL.of S],l,7,S,5,?_];have p:Same H (upd G l (.lst ([]++[.str "row"]))):=bY nl W;have L:upd G l (.lst ([]++[.str "row"])) l=some (.lst [.str "row"]):=aC;have j:XAt (upd G l (.lst ([]++[.str "row"]))) x a.NoRow:=by unfold XAt;rw[aG Y];exact m
   generalize upd G l (.lst ([]++[.str "row"]))=R at p L j⊢;refine .inr #[9,x,a.NoRow,.ref a.NoPlace,false,8,(λu h=>h),j,T.exa_NoRow,T.k_NoRow_NoPlace,9,iteF ?_];refine .inr #[9,x,a.NoRow,.ref a.NoWay,false,8,(λu h=>h),j,T.exa_NoRow,T.k_NoRow_NoWay,9,iteF ?_];refine .inr #[9,x,a.NoRow,.ref a.TooMany,false,8,(λu h=>h),j,T.exa_NoRow,T.k_NoRow_TooMany,9,iteF ?_];refine .inr #[9,x,a.NoRow,.ref a.NoText,false,8,(λu h=>h),j,T.exa_NoRow,T.k_NoRow_NoText,9,iteF ?_];refine .inr #[9,x,a.NoRow,.ref a.NoNumber,false,8,(λu h=>h),j,T.exa_NoRow,T.k_NoRow_NoNumber,9,iteF ?_];refine .inr #[9,x,a.NoRow,.ref a.Twice,false,8,(λu h=>h),j,T.exa_NoRow,T.k_NoRow_Twice,9,iteF ?_];refine .inr #[9,x,a.NoRow,.ty "ValueError",true,8,(λu h=>h),j,T.exa_NoRow,T.k_NoRow_ValueError,9,iteF ?_];exact#[9,l,9,.inl #[SqL.of L,λq U=>k q _ (p.trans (aI U)) aC]]
  |(1,n),m=>
   let#[e,B,hd]:=m;refine .inl #[9,x,a.NoPlace,.ref a.NoRow,false,9,(λu h=>h),#[e,B,hd],T.exa_NoPlace,T.k_NoPlace_NoRow,9,iteF ?_];refine .inl #[9,x,a.NoPlace,.ref a.NoPlace,true,9,(λu h=>h),#[e,B,hd],T.exa_NoPlace,T.k_NoPlace_NoPlace,9,iteT ?_];refine#[9,9,x,a.NoPlace,e,_,.str n,8,B,hd,T.exa_NoPlace,T.hd_NoPlace,T.na_NoPlace_place,8,zL2,λD M=>?_];have p:=aI (o:=.lst [.str "place",.str n]) M;have r:=p _ _ S;have y:=p _ _ B;have t:=p _ _ hd;have L:upd G D (.lst [.str "place",.str n]) D=some (.lst [.str "place",.str n]):=aC;generalize upd G D (.lst [.str "place",.str n])=R at p r y t L⊢;refine#[l,D,7,r,L,zL2,λI O=>?_];have J:=aI (o:=.lst ([]++[.str "place",.str n])) O;have b:=J _ _ y;have d:=J _ _ t;have X:upd R I (.lst ([]++[.str "place",.str n])) I=some (.lst [.str "place",.str n]):=aC;generalize upd R I (.lst ([]++[.str "place",.str n]))=H3 at J b d X⊢;have N:=W.trans (p.trans J);refine .inl #[9,x,a.NoPlace,.ref a.NoWay,false,9,(λu h=>h),#[e,b,d],T.exa_NoPlace,T.k_NoPlace_NoWay,9,iteF ?_];refine .inl #[9,x,a.NoPlace,.ref a.TooMany,false,9,(λu h=>h),#[e,b,d],T.exa_NoPlace,T.k_NoPlace_TooMany,9,iteF ?_];refine .inl #[9,x,a.NoPlace,.ref a.NoText,false,9,(λu h=>h),#[e,b,d],T.exa_NoPlace,T.k_NoPlace_NoText,9,iteF ?_];refine .inl #[9,x,a.NoPlace,.ref a.NoNumber,false,9,(λu h=>h),#[e,b,d],T.exa_NoPlace,T.k_NoPlace_NoNumber,9,iteF ?_];refine .inl #[9,x,a.NoPlace,.ref a.Twice,false,9,(λu h=>h),#[e,b,d],T.exa_NoPlace,T.k_NoPlace_Twice,9,iteF ?_];refine .inl #[9,x,a.NoPlace,.ty "ValueError",true,9,(λu h=>h),#[e,b,d],T.exa_NoPlace,T.k_NoPlace_ValueError,9,iteF ?_];exact#[9,I,9,.inl #[SqL.of X,λq U=>k q _ (N.trans (aI U)) aC]]
  |(c+2,n),m=>
   let#[e,B,hd]:=m;refine .inl #[9,x,a.NoWay,.ref a.NoRow,false,9,(λu h=>h),#[e,B,hd],T.exa_NoWay,T.k_NoWay_NoRow,9,iteF ?_];refine .inl #[9,x,a.NoWay,.ref a.NoPlace,false,9,(λu h=>h),#[e,B,hd],T.exa_NoWay,T.k_NoWay_NoPlace,9,iteF ?_];refine .inl #[9,x,a.NoWay,.ref a.NoWay,true,9,(λu h=>h),#[e,B,hd],T.exa_NoWay,T.k_NoWay_NoWay,9,iteT ?_];refine#[9,9,x,a.NoWay,e,_,.str n,8,B,hd,T.exa_NoWay,T.hd_NoWay,T.na_NoWay_name,8,zL2,λD M=>?_];have p:=aI (o:=.lst [.str "way",.str n]) M;have r:=p _ _ S;have y:=p _ _ B;have t:=p _ _ hd;have L:upd G D (.lst [.str "way",.str n]) D=some (.lst [.str "way",.str n]):=aC;generalize upd G D (.lst [.str "way",.str n])=R at p r y t L⊢;refine#[l,D,7,r,L,zL2,λI O=>?_];have J:=aI (o:=.lst ([]++[.str "way",.str n])) O;have b:=J _ _ y;have d:=J _ _ t;have X:upd R I (.lst ([]++[.str "way",.str n])) I=some (.lst [.str "way",.str n]):=aC;generalize upd R I (.lst ([]++[.str "way",.str n]))=H3 at J b d X⊢;have N:=W.trans (p.trans J);refine .inl #[9,x,a.NoWay,.ref a.TooMany,false,9,(λu h=>h),#[e,b,d],T.exa_NoWay,T.k_NoWay_TooMany,9,iteF ?_];refine .inl #[9,x,a.NoWay,.ref a.NoText,false,9,(λu h=>h),#[e,b,d],T.exa_NoWay,T.k_NoWay_NoText,9,iteF ?_];refine .inl #[9,x,a.NoWay,.ref a.NoNumber,false,9,(λu h=>h),#[e,b,d],T.exa_NoWay,T.k_NoWay_NoNumber,9,iteF ?_];refine .inl #[9,x,a.NoWay,.ref a.Twice,false,9,(λu h=>h),#[e,b,d],T.exa_NoWay,T.k_NoWay_Twice,9,iteF ?_];refine .inl #[9,x,a.NoWay,.ty "ValueError",true,9,(λu h=>h),#[e,b,d],T.exa_NoWay,T.k_NoWay_ValueError,9,iteF ?_];exact#[9,I,9,.inl #[SqL.of X,λq U=>k q _ (N.trans (aI U)) aC]]
inductive IspSaid(a:Ad)(vs:List V)(H:Hp)(Q:VK):Prop
 |mk(p dw dy da:Addr)(S:DS)(r:Rw)(h1:vs=[.ref p,.str (Str.join ⟨(List.toArray [32])⟩ (r.hd::r.cs.map Wd.txt))])(h2:DeskAt a H p dw dy da S)(h3:r.ok)(h4:SOk S)(h5:(∀n,n∈S.ks∨n∈S.ws->n.length<=8))(h6:(S.due r=none->∀H' db,Stp p dw dy da db H H'->DeskAt a H' p dw dy db (S.next r)->Q (.str (S.tell r)) H'))(h7:(∀x,S.due r=some x->∀q H',Same H H'->H' q=some (.tup (tupR x))->Q (.ref q) H')):IspSaid a vs H Q
abbrev spSaid(a:Ad):Sp:=λvs H Q _=>IspSaid a vs H Q
def due_le{S:DS}(h:S.due r=some x):x.1<=2:=by
 have a:∀{c:Prop}[Decidable c]{y:Nat×Str},y.1<=2->(if c then none else some y)=some x->x.1<=2:=λ{c}_{y}b e=>by
  by_cases hc:c
  ·rw[if_pos hc]at e;cases e
  ·rw[if_neg hc]at e;cases e;exact b
 unfold DS.due at h
 split at h
 ·cases h;show 0<=2;decide
 ·cases r with
  |place n x=>cases h
  |way n s g y hi c=>
   have h:(if s∈S.ks then if g∈S.ks then none else some (1,g) else some (1,s))=some x:=h;by_cases hs:s∈S.ks
   ·rw[if_pos hs]at h;exact a (y:=(1,g)) (show 1<=2 by decide) h
   ·rw[if_neg hs]at h;cases h;show 1<=2;decide
  |drop n=>exact a (y:=(2,n)) (jJ 2) h
  |send n x=>exact a (y:=(2,n)) (jJ 2) h
  |amount n=>exact a (y:=(2,n)) (jJ 2) h
  |sum n=>exact a (y:=(1,n)) (show 1<=2 by decide) h
  |cost=>cases h
  |look=>cases h
def ok_law_said(T:TX K mg a):FnB P w K mg base CX0 "_law_said" 14 ["_law_desk","_law_row_here"] (spSaid a):=by
 refine T.d_law_said.ok sc_law_said (λvs H Q E h=>?_) (λf aa A R s H vs Q E X h=>?_)
 ·let#[_,_,_,_,_,_,8,_]:=h;rfl
 ·let#[p,I,G,M,S,r,8,D,ok,so,ln,k,kx]:=h
  refine#[_,(aB (aR (i:=2) sc_law_said.nd rfl (Or.inl rfl) cB)
   (aB (aR (i:=3) sc_law_said.nd rfl (Or.inl rfl) cB)
   (bH (ps_try (pssx_one (psx_set (i:=3) sc_law_said.nd rfl (Or.inl rfl) (px_mtD (pv 0) X (aA (pv 1) aD)))) (ph_as (i:=4) (by rfl) T.mg_GainError #[T.ca1_GainError,T.ca2_GainError,T.ca3_GainError] sc_law_said.nd rfl rfl (λx=>(aE (aR (i:=2) sc_law_said.nd rfl (Or.inl rfl) (pv 4)))) ph_never))
   (aB (aW (aK fH (pv 2) cB (aS _)) (aE (aM (aZ (ok_law_refusal T) X aL (aA (pv 2) aD)))) aJ)
   (aB (aW (cG (bC (fu (c:=.type "str")) (by rfl) T.z_isinstance jQ (aA (pv 3) (aA (gz (v:=.ty "str") (by rfl) T.z_str k6 rfl) aD)))) (aE (aM (pv 3))) aJ)
   (aE (aM cB))))))),?_]
  try dsimp only[bF,Cx.nox,Cx.wish]
  generalize F:tCut _ _=W
  revert W
  refine jv λW F=>?_;let#[dx,hp]:=D.ob;have O:=ej I G M (m:="say") (by decide+kernel);generalize hz:Str.join #[(List.toArray [32])] (r.hd::r.cs.map Wd.txt)=z;subst F;refine dX (λU b=>(yE1 λo=>U=[some (.ref p),some (.str z),some .non,some (.str (S.tell r)),none]×' S.due r=none×' Stp p I G M o H b×' DeskAt a b p I G o (S.next r))∨(yE2 λx xa=>U=[some (.ref p),some (.str z),some (.ref xa),some .non,none]×' S.due r=some x×' Same H b×' RfAt a b xa x)) ?_ ?_
  ·refine#[9,p,a.Desk,dx,_,13,["self","row"],spSay a,8,hp,O,T.cl_Desk,5,ok_Desk_sayX T,9,p,I,G,M,S,r,by rw[<-hz];rfl,D,ok,so,ln,λe b o L D'=>.inl #[o,8,e,L,D'],λx e=>?_];have lx:=due_le e;let#[N,xn]:=x;refine#[λB b t=>?_,λB b j t d=>?_,λB b j t d=>?_]
   ·obtain rfl:N=0:=B;refine#[_,9,T.su_NoRow_GainError,iteT λy l=>?_];exact#[9,.inr #[_,y,8,e,t.trans (aI l),aC]]
   ·obtain rfl:N=1:=B;refine#[_,9,T.su_NoPlace_GainError,iteT λy l=>?_];exact#[9,.inr #[_,y,8,e,t.trans (aI l),j,aC,aI l _ _ d]]
   ·obtain rfl:N=2:=B;refine#[_,9,T.su_NoWay_GainError,iteT λy l=>?_];exact#[9,.inr #[_,y,8,e,t.trans (aI l),j,aC,aI l _ _ d]]
  rintro zU J U Z hM;subst J;rcases hM with⟨o,rfl,e,L,D1⟩|⟨x,xa,rfl,e,s1,hx⟩
  ·refine#[9,8,9,iO rfl ?_];refine#[9,_,_,_,9,(λu h=>h),TyOf.str _,T.k_str_str,9,iteT ?_];exact#[9,k e Z o L D1]
  ·refine#[9,8,9,bT rfl ?_];exact#[9,xa,x,8,hx,λq H2 s2 Y=>kx x e q H2 (s1.trans s2) Y]
abbrev HiP(H:Hp)(v:V):Option Rat->Prop
 |none=>v=.non
 |some y=>PrIs H v y
abbrev WyIs(H:Hp)(v:V)(d:WD):Prop:=∃t vg vh vc,v=.ref t/\H t=some (.tup [.str d.st,.str d.go,vg,vh,vc])/\PrIs H vg d.x/\HiP H vh d.hi/\PrIs H vc d.co
abbrev But(d:Addr)(H H':Hp):Prop:=∀b o,H b=some o->b≠d->H' b=some o
def But.of(s:Same H H'):But d H H':=λb o e _=>s b o e
def But.trans(s:But d H H')(t:But d H' H''):But d H H'':=λb o e n=>t b o (s b o e n) n
def PrIs.but(h:PrIs H v x)(hd:H d=some (.dK kv))(k:But d H H'):PrIs H' v x:=let⟨t,e,f⟩:=h;#[t,e,k _ _ f (bK f hd (by intro z;cases z))]
def HiP.mono(h:HiP H v o)(s:Same H H'):HiP H' v o:=by
 cases o with
 |none=>exact h
 |some y=>exact PrIs.mono h s
def HiP.but(h:HiP H v o)(hd:H d=some (.dK kv))(k:But d H H'):HiP H' v o:=by
 cases o with
 |none=>exact h
 |some y=>exact PrIs.but h hd k
def WyIs.mono(h:WyIs H v x)(s:Same H H'):WyIs H' v x:=by
 let#[t,vg,vh,vc,e,f,g1,g2,g3]:=h;exact#[t,vg,vh,vc,e,s _ _ f,g1.mono s,g2.mono s,g3.mono s]
def WyIs.but(h:WyIs H v x)(hd:H d=some (.dK kv))(k:But d H H'):WyIs H' v x:=let⟨t,vg,vh,vc,e,f,g1,g2,g3⟩:=h;#[t,vg,vh,vc,e,k _ _ f (bK f hd (by intro z;cases z)),g1.but hd k,g2.but hd k,g3.but hd k]
structure MdAt(H:Hp)(m d0 d1 d2:Addr)(S:DS)(ms:List Str)(B:Str->Rat):Prop where
 hm:H m=some (.tup [.ref d0,.ref d1,.ref d2])
 t0:∃kv,H d0=some (.dK kv)/\Tab PrIs H kv S.ks S.f
 t1:∃kv,H d1=some (.dK kv)/\Tab WyIs H kv S.ws S.g
 t2:∃kv,H d2=some (.dK kv)/\Tab PrIs H kv ms B
 n01:d0≠d1
 n02:d0≠d2
 n12:d1≠d2
def MdAt.mono(h:MdAt H m d0 d1 d2 S ms B)(s:Same H H'):MdAt H' m d0 d1 d2 S ms B:=by
 let#[l,o,i]:=h.t0;let#[b,e,d]:=h.t1;let#[c,a,j]:=h.t2;exact#[s _ _ h.hm,#[l,s _ _ o,i.mono λ_ _ z=>PrIs.mono z s],#[b,s _ _ e,d.mono λ_ _ z=>z.mono s],#[c,s _ _ a,j.mono λ_ _ z=>PrIs.mono z s],h.n01,h.n02,h.n12]
structure MdG(H:Hp)(m d0 d1 d2:Addr)(S:DS)(ms:List Str)(B:Str->Rat):Prop where
 hm:H m=some (.tup [.ref d0,.ref d1,.ref d2])
 t1:∃kv,H d1=some (.dK kv)/\Tab WyIs H kv S.ws S.g
 t2:∃kv,H d2=some (.dK kv)/\Tab PrIs H kv ms B
 n12:d1≠d2
def MdAt.g(h:MdAt H m d0 d1 d2 S ms B):MdG H m d0 d1 d2 S ms B:=#[h.hm,h.t1,h.t2,h.n12]
structure MOk(S:DS)(ms:List Str)(B:Str->Rat):Prop where
 so:SOk S
 am:∀n,aO ms B n=aO S.as S.A n
 nm:ms.Nodup
abbrev pt1(A:Str->Rat)(s:Str)(d:WD):List (Int×Int):=if d.go=s then[((A d.nm).num*d.x.num,((A d.nm).den:Int)*(d.x.den:Int))]else[]
abbrev pt2(A:Str->Rat)(s:Str)(d:WD):List (Int×Int):=if d.st=s then[(0-(A d.nm).num,((A d.nm).den:Int))]else[]
abbrev eS(A:Str->Rat)(s:Str)(ds:List WD):List (Int×Int):=ds.flatMap λd=>pt1 A s d++pt2 A s d
def goneP_snoc(A:Str->Rat)(s:Str)(ds:List WD)(d:WD):eS A s (ds++[d])=eS A s ds++(pt1 A s d++pt2 A s d):=by unfold eS;rw[List.flatMap_append];simp
def gone_sum(A:Str->Rat)(s:Str)(ds:List WD)(h:∀d∈ds,d.kd=.gro/\d.st≠d.go):((eS A s ds).map vR).sum=c9 A ds s:=by
 have b:∀i,i<=ds.length->((eS A s (ds.take i)).map vR).sum=c9 A (ds.take i) s:=λi=>by
  induction i with
  |zero=>intro _;rfl
  |succ i a=>
   intro hi;have e:ds[i]?=some ds[i]:=jF ();let#[j,c]:=h _ (jP e);generalize ds[i]=d at e j c;have a:=a ();rw[j4,e,j6,goneP_snoc,sumF_snoc,jY,List.sum_append,a];unfold sumStep pt1 pt2;have g:ft d.kd d.x=d.x:=by rw[j];rfl
   rw[g];by_cases e1:d.go=s
   ·subst e1;rw[if_pos rfl,if_neg c,dL,kE,kz,lD,lI,List.sum_nil,Rat.add_zero]
    have:=vR_mul (p:=prR (A d.nm)) (q:=prR d.x)
    rw[vR_pr,vR_pr]at this;exact kI _ this
   ·rw[if_neg e1,eZ (k7 e1),List.nil_append];by_cases e2:d.st=s
    ·subst e2;rw[if_pos rfl,dL,kz,lD,lI,List.sum_nil,Rat.add_zero]
     have:=vR_neg (prR (A d.nm))
     rw[vR_pr]at this;rw[Rat.sub_eq_add_neg,this];rfl
    ·rw[if_neg e2,eZ (k7 e2),lD,List.sum_nil,Rat.add_zero]
 have:=b ds.length (jJ _)
 rw[ke]at this;exact this
def MOk.gone(h:MOk S ms B)(s:Str):((eS (aO ms B) s S.ds).map vR).sum=c9 (aO S.as S.A) S.ds s:=by
 rw[funext h.am]
 exact gone_sum _ s _ λd hd=>by
  let#[m,e]:=h.so.mem hd;have g:=h.so.gk _ m;rw[e]at g;exact#[g.2.1,g.2.2.2.2]
def pn_mul(hx:smallR x)(hy:smallR y):PN 60 (x.num*y.num,(x.den:Int)*(y.den:Int)):=by
 refine#[dM hx.pn.b1 hy.pn.b1,?_,dM hx.pn.b3 hy.pn.b3];have a:=hx.pn.b2;have b:=hy.pn.b2
 have:=Int.mul_pos (show(0:Int)<x.den by exact a) (show(0:Int)<y.den by exact b)
 show 1<=(x.den:Int)*y.den
 lia
def pn_neg(hx:smallR x):PN 60 (0-x.num,(x.den:Int)):=by
 have h:=hx.pn;refine#[?_,h.b2,jK h.b3 (hG (by decide))]
 have:(0-x.num).natAbs=x.num.natAbs:=by lia
 show(0-x.num).natAbs<=_;rw[this];exact jK h.b1 (hG (by decide))
def goneP_len(A:Str->Rat)(s:Str)(ds:List WD):(eS A s ds).length<=2*ds.length:=by
 induction ds with
 |nil=>exact jJ _
 |cons d r ih=>
  have e:eS A s (d::r)=(pt1 A s d++pt2 A s d)++eS A s r:=rfl;rw[e,j5,j5,jU];have a:(pt1 A s d).length<=1:=by unfold pt1;split<;>simp
  have b:(pt2 A s d).length<=1:=by unfold pt2;split<;>simp
  lia
def goneP_pn(h:∀d∈ds,smallR (A d.nm)/\smallR d.x):∀c∈eS A s ds,PN 60 c:=λc a=>by
 unfold eS at a;let#[d,hd,a]:=List.mem_flatMap.mp a;let#[b,e]:=h d hd;rcases lC.mp a with a|a
 ·unfold pt1 at a
  split at a
  ·rw[li.mp a];exact pn_mul b e
  ·cases a
 ·unfold pt2 at a
  split at a
  ·rw[li.mp a];exact pn_neg b
  ·cases a
def MOk.sm(h:MOk S ms B):∀d∈S.ds,smallR (aO ms B d.nm)/\smallR d.x:=λd hd=>by
 let#[m,e]:=h.so.mem hd;have s:=h.so.sg _ m;rw[e]at s;exact#[by rw[h.am];exact h.so.amt _,s.1]
inductive IspGone(vs:List V)(H:Hp)(Q:VK):Prop
 |mk(m d0 d1 d2:Addr)(s:Str)(S:DS)(ms:List Str)(B:Str->Rat)(h1:vs=[.ref m,.str s])(h2:MdG H m d0 d1 d2 S ms B)(h3:MOk S ms B)(h4:∀v H',Same H H'->PrIs H' v (c9 (aO S.as S.A) S.ds s)->Q v H'):IspGone vs H Q
abbrev spGone:Sp:=λvs H Q _=>IspGone vs H Q
def ok_law_gone(T:TX K mg a):FnB P w K mg base CX0 "_law_gone" 5 ["_law_model","_law_place"] spGone:=by
 refine T.d_law_gone.ok sc_law_gone (λvs H Q E h=>?_) (λf ay A aw s H vs Q E hr h=>?_)
 ·let#[_,_,_,_,_,_,_,_,8,_]:=h;rfl
 ·let#[m,d0,G,d2,l,S,c,B,8,M,mo,k]:=h
  refine#[_,(aB (aR (i:=2) sc_law_gone.nd rfl (Or.inl rfl) (dj aD))
   (aB (il (cS kl rfl (f9 (aN bA (pv 0) aF (λ_ _=>rfl))) (gx (n:=2) rfl (bJ (bD (i:=3) sc_law_gone.nd rfl (Or.inl rfl)) (bJ (bD (i:=4) sc_law_gone.nd rfl (Or.inl rfl)) dH))) (aB (aR (i:=5) sc_law_gone.nd rfl (Or.inl rfl) (aZ (fK T) hr aL (aA (pv 0) (aA (pv 3) aD))))
   (bH (aW (aK bL (aN bA (pv 4) aF (λ_ _=>rfl)) (pv 1) (aS _)) (aE (bG (dr kj kf kg bU (pv 2) (aA (cH (aA (aQ du (aN bA (pv 5) aF (λ_ _=>rfl)) (aN bA (aN bA (pv 4) aF (λ_ _=>rfl)) aF (λ_ _=>rfl))) (aA (aQ du (aN bA (pv 5) aF (λ_ _=>rfl)) (aN bA (aN bA (pv 4) aF (λ_ _=>rfl)) aF (λ_ _=>rfl))) aD))) aD)))) aJ)
   (aE (aW (aK bL (aN bA (pv 4) aF (λ_ _=>rfl)) (pv 1) (aS _)) (aE (bG (dr kj kf kg bU (pv 2) (aA (cH (aA (aQ op_sub aF (aN bA (pv 5) aF (λ_ _=>rfl))) (aA (aN bA (pv 5) aF (λ_ _=>rfl)) aD))) aD)))) aJ))))))
   (aE (aM (aZ (ok_law_sum T) hr aL (aA (pv 2) aD)))))),?_]
  try dsimp only[bF,Cx.nox,Cx.wish]
  rw[<-mo.gone]at k;let#[j,Y,t1]:=M.t1;let#[ap,h2,t2]:=M.t2;refine#[zL0,λq nq=>?_];let#[H0,zq,s0,ah]:=uG (o:=.lst []) nq;rw[zq];have ak:=s0 _ _ Y;have R:q≠G:=λz=>by rw[z,Y]at nq;cases nq
  have ax:q≠d2:=λz=>by rw[z,h2]at nq;cases nq
  refine#[G,.dK j,ak,(by intro o z e;cases e),9,m,_,7,SqT.of (s0 _ _ M.hm),8,G,j,8,ak,λo=>?_];have lw:=mo.so.lw
  have an:∀i:Nat,(eS (aO c B) l ((S.ws.take i).map S.g)).length<=46:=λi=>by
   have:=goneP_len (aO c B) l ((S.ws.take i).map S.g)
   rw[jE,kc]at this
   lia
  refine gf (a:=G) (o:=o) (kvs:=j) (λi σ N=>i<=S.ws.length/\yE4 λz3 z4 z5 X=>σ=[some (.ref m),some (.str l),some (.ref q),z3,z4,z5]×' N G=some (.frz o (.dK j))×' But G H N×' N q=some (.lst X)×' RowAt DueIs N X (eS (aO c B) l ((S.ws.take i).map S.g)))
   #[jZ _,_,_,_,[],8,aC,(λb ob e ne=>by rw[aG ne];exact s0 _ _ e),by rw[aG R];exact ah,RowAt.nil] ((by rintro i σ N _⟨_,_,_,_,_,_,h,_⟩;exact h)) ?_ ?_
  ·rintro i kv t σ N au nt⟨_,z3,z4,z5,X,rfl,hf,k2,ad,u⟩;let#[n,en,e1,ev,y,vg,vh,vc,eq,aj,hg,hh,hc]:=t1.at_ mo.so.nw au;have hi:i<S.ws.length:=(jH.mp en).1;have av:kV kv.1=.str n:=by rw[e1];rfl
   let#[tg,8,aq]:=hg.but Y k2;have L:=k2 _ _ aj (bK aj Y (by intro z;cases z));rw[av,eq];let#[H3,zq,s3,ht]:=uG (o:=.tup [.str n,.ref y]) nt;rw[zq];refine#[t,[.str n,.ref y],8,SqT.of ht,8,.str n,[.ref y],8,#[.ref y,[],8,#[8,?_]]];have k3:But G H H3:=k2.trans (.of s3);refine#[9,9,m,d0,G,d2,n,ap,c,B,8,k3 _ _ M.hm (bK M.hm Y (by intro z;cases z)),.inl (k3 _ _ h2 M.n12.symm),t2.mono (λv x z=>PrIs.but z Y k3),λvf H4 s4 ar=>?_];have k4:=k3.trans (.of s4);have d:=s3.trans s4;let#[tf,8,D]:=ar;have D:H4 tf=some (.tup [.int (aO c B n).num,.int ((aO c B n).den:Int)]):=D;have am:S.g n∈S.ds:=j9.mpr #[n,jP en,8];have ac:(S.g n).nm=n:=(mo.so.gk n (jP en)).1;let#[sm1,sm2]:=mo.sm _ am;rw[ac]at sm1;have aa:=SqT.of (K:=K) (d _ _ L);have W:H4 tg=some (.tup [.int (S.g n).x.num,.int ((S.g n).x.den:Int)]):=d _ _ aq;have ae:=d _ _ ad;have lt:X.length<=46:=by rw[u.1];exact an i
   refine dX (λσ' H'=>yE1 λts'=>σ'=[some (.ref m),some (.str l),some (.ref q),some (.str n),some (.ref y),some (.ref tf)]×' H' G=some (.frz o (.dK j))×' But G H H'×' H' q=some (.lst ts')×' RowAt DueIs H' ts' (eS (aO c B) l ((S.ws.take i).map S.g)++pt1 (aO c B) l (S.g n))×' H' y=some (.tup [.str (S.g n).st,.str (S.g n).go,.ref tg,vh,vc])×' H' tf=some (.tup [.int (aO c B n).num,.int ((aO c B n).den:Int)])) ?_ ?_
   ·refine#[9,y,_,7,aa,8,9,8,9,?_];unfold pt1;by_cases eg:(S.g n).go=l
    ·rw[if_pos eg,ac];refine bT (jL (kI V.str eg)) ?_;refine#[9,.inl #[8,_,SqL.of ae],9,tf,_,7,SqT.of D,8,9,y,_,7,aa,8,tg,_,7,SqT.of W,8,7,ei sm1.pn.b1 sm2.pn.b1 (by decide),9,tf,_,7,SqT.of D,8,9,y,_,7,aa,8,tg,_,7,SqT.of W,8,7,ei sm1.pn.b3 sm2.pn.b3 (by decide),zL2,λJ ab=>?_];let#[H5,zq,O,I]:=uG (o:=.tup [.int ((aO c B n).num*(S.g n).x.num),.int (((aO c B n).den:Int)*((S.g n).x.den:Int))]) ab;rw[zq];have U:=d.trans O;have r:=O _ _ ae;refine#[q,7,r,bB (),?_];have up:∀{b:Addr}{xs:List V},H5 b=some (.tup xs)->upd H5 q (.lst (X++[.ref J])) b=some (.tup xs):=λh=>by rw[aG (bK h r (by intro z;cases z))];exact h
     refine#[9,by rw[aG R.symm];exact U _ _ hf,λb ob e ne=>?_,aC,?_,up (U _ _ L),up (O _ _ D)]
     ·rw[aG (aP e nq)];exact U _ _ (k2 b ob e ne)
     ·exact(u.mono (by rintro v x⟨p,e,f⟩;exact#[p,e,up (U _ _ f)])).snoc #[J,8,up I]
    ·rw[if_neg eg,kE];refine aX (jI λz=>eg (V.str.inj z)) ?_;exact#[X,8,d _ _ hf,k4,ae,u.mono λv x z=>z.mono d,d _ _ L,D]
   rintro zU as σ' H5⟨af,rfl,ao,k5,r,ag,al,Z⟩
   have l5:af.length<=47:=by
    rw[ag.1,j5];have Y:=an i;have h2:(pt1 (aO c B) l (S.g n)).length<=1:=by unfold pt1;split<;>simp
    lia
   have ek:eS (aO c B) l ((S.ws.take (i+1)).map S.g)=(eS (aO c B) l ((S.ws.take i).map S.g)++pt1 (aO c B) l (S.g n))++pt2 (aO c B) l (S.g n):=by
    rw[j4,en,j6,jY,kz,lD,goneP_snoc,List.append_assoc]
   subst as;refine#[9,y,_,7,SqT.of al,8,9,8,9,?_];by_cases eg:(S.g n).st=l
   ·refine bT (jL (kI V.str eg)) ?_;refine#[9,.inl #[8,_,SqL.of r],9,tf,_,7,SqT.of Z,8,7,9,tf,_,7,SqT.of Z,8,zL2,λJ ab=>?_];let#[H6,zq,O,I]:=uG (o:=.tup [.int (0-(aO c B n).num),.int ((aO c B n).den:Int)]) ab;rw[zq];have ai:=O _ _ r;refine#[q,7,ai,bB (),?_];have up:∀{b:Addr}{xs:List V},H6 b=some (.tup xs)->upd H6 q (.lst (af++[.ref J])) b=some (.tup xs):=λh=>by rw[aG (bK h ai (by intro z;cases z))];exact h
    refine#[hi,_,_,_,9,by rw[aG R.symm];exact O _ _ ao,λb ob e ne=>?_,aC,?_]
    ·rw[aG (aP e nq)];exact O _ _ (k5 b ob e ne)
    ·rw[ek];unfold pt2;rw[if_pos eg,ac];exact(ag.mono (by rintro v x⟨p,e,f⟩;exact#[p,e,up (O _ _ f)])).snoc #[J,8,up I]
   ·refine aX (jI λz=>eg (V.str.inj z)) ?_;refine#[hi,_,_,_,af,8,ao,k5,r,?_];rw[ek];unfold pt2;rw[if_neg eg,kE];exact ag
  ·rintro σ N⟨_,z3,z4,z5,X,rfl,hf,k2,ad,u⟩;have e:(S.ws.take j.length).map S.g=S.ds:=by rw[t1.len,ke];rfl
   rw[e]at u
   have sf:Same H (upd N G (.dK j)):=λb ob eb=>by
    by_cases hb:b=G
    ·subst hb;rw[aC,<-Y,eb]
    ·rw[aG hb];exact k2 _ _ eb hb
   refine#[o,hf,?_];have ld:S.ds.length<=23:=by unfold DS.ds;rw[jE];exact lw
   refine#[9,q,X,9,SqL.of (by rw[aG R];exact ad),u.mono (by rintro v x⟨p,e,f⟩;exact#[p,e,by rw[aG λz=>by rw[z,hf]at f;cases f];exact f]),jK (goneP_len _ _ _) (),goneP_pn mo.sm,λv H4 s4 hv=>k v H4 (sf.trans s4) hv]
abbrev paidP(A:Str->Rat)(ds:List WD):List (Int×Int):=ds.map λd=>((A d.nm).num*d.co.num,((A d.nm).den:Int)*(d.co.den:Int))
def sum_erase{f:Str->Rat}:∀{ws:List Str},n∈ws->(ws.map f).sum=f n+((ws.erase n).map f).sum
 |[],h=>absurd h jV
 |m::r,h=>by
  by_cases e:m=n
  ·subst e;rw[List.erase_cons_head];rfl
  ·have a:n∈r:=(jR.mp h).resolve_left λz=>e z.symm;rw[List.erase_cons_tail (by simpa using e),kz,kz,lI,lI,sum_erase a];grind
def sum_sub{f:Str->Rat}:∀{as ws:List Str},as.Nodup->ws.Nodup->(∀n∈as,n∈ws)->(∀n∈ws,¬n∈as->f n=0)->(ws.map f).sum=(as.map f).sum
 |[],ws,_,_,_,h=>by
  have d:∀l:List Str,(∀n∈l,f n=0)->(l.map f).sum=0:=λl=>by
   induction l with
   |nil=>intro _;rfl
   |cons a r ih=>
    intro h;rw[kz,lI,h a jX,ih λn b=>h n (jW _ b)];exact Rat.add_zero 0
  exact d ws λn b=>h n b jV
 |a::r,ws,na,nw,hs,h=>by
  let#[i,m]:=lL.mp na;have o:=hs a jX;rw[sum_erase o,kz,lI,sum_sub (as:=r) (ws:=ws.erase a) m (nw.erase a) (λn b=>?_) λn b j=>?_]
  ·rw[List.mem_erase_of_ne (show n≠a fromλe=>i (by rw[<-e];exact b))];exact hs n (jW _ b)
  ·have c:=(nw.mem_erase_iff).mp b;exact h n c.2 λz=>(jR.mp z).elim c.1 j
def MOk.paid(h:MOk S ms B):((paidP (aO ms B) S.ds).map vR).sum=(S.as.map λn=>(S.g n).co*S.A n).sum:=by
 have e:(paidP (aO ms B) S.ds).map vR=S.ws.map λn=>(S.g n).co*aO S.as S.A n:=by
  unfold paidP DS.ds;rw[kU,kU];refine List.map_congr_left λn a=>?_;show vR ((aO ms B (S.g n).nm).num*(S.g n).co.num,((aO ms B (S.g n).nm).den:Int)*((S.g n).co.den:Int))=_
  have:=vR_mul (p:=prR (aO ms B (S.g n).nm)) (q:=prR (S.g n).co)
  rw[vR_pr,vR_pr]at this;rw[show vR ((aO ms B (S.g n).nm).num*(S.g n).co.num,((aO ms B (S.g n).nm).den:Int)*((S.g n).co.den:Int))=aO ms B (S.g n).nm*(S.g n).co from this,(h.so.gk n a).1,h.am,Rat.mul_comm]
 rw[e,sum_sub (as:=S.as) h.so.na h.so.nw h.so.sub λn _ a=>by rw[show aO S.as S.A n=0 from if_neg a,Rat.mul_zero]];exact kI _ (List.map_congr_left λn a=>by rw[show aO S.as S.A n=S.A n from if_pos a])
def MOk.smc(h:MOk S ms B):∀d∈S.ds,smallR (aO ms B d.nm)/\smallR d.co:=λd hd=>by
 let#[m,e]:=h.so.mem hd;have s:=h.so.sg _ m;rw[e]at s;exact#[by rw[h.am];exact h.so.amt _,s.2.1]
inductive IspPaid(vs:List V)(H:Hp)(Q:VK):Prop
 |mk(m d0 d1 d2:Addr)(S:DS)(ms:List Str)(B:Str->Rat)(h1:vs=[.ref m])(h2:MdAt H m d0 d1 d2 S ms B)(h3:MOk S ms B)(h4:∀v H',Same H H'->PrIs H' v (S.as.map λn=>(S.g n).co*S.A n).sum->Q v H'):IspPaid vs H Q
abbrev spPaid:Sp:=λvs H Q _=>IspPaid vs H Q
def ok_law_paid(T:TX K mg a):FnB P w K mg base CX0 "_law_paid" 5 ["_law_model"] spPaid:=by
 refine T.d_law_paid.ok sc_law_paid (λvs H Q E h=>?_) (λf aq A ap s H vs Q E hr h=>?_)
 ·let#[_,_,_,_,_,_,_,8,_]:=h;rfl
 ·let#[m,d0,u,d2,S,l,B,8,M,L,k]:=h
  refine#[_,(aB (aR (i:=1) sc_law_paid.nd rfl (Or.inl rfl) (dj aD))
   (aB (il (cS kl rfl (f9 (aN bA (pv 0) aF (λ_ _=>rfl))) (gx (n:=2) rfl (bJ (bD (i:=2) sc_law_paid.nd rfl (Or.inl rfl)) (bJ (bD (i:=3) sc_law_paid.nd rfl (Or.inl rfl)) dH))) (aB (aR (i:=4) sc_law_paid.nd rfl (Or.inl rfl) (aZ (fK T) hr aL (aA (pv 0) (aA (pv 2) aD))))
   (aE (bG (dr kj kf kg bU (pv 1) (aA (cH (aA (aQ du (aN bA (pv 4) aF (λ_ _=>rfl)) (aN bA (aN bA (pv 3) aF (λ_ _=>rfl)) aF (λ_ _=>rfl))) (aA (aQ du (aN bA (pv 4) aF (λ_ _=>rfl)) (aN bA (aN bA (pv 3) aF (λ_ _=>rfl)) aF (λ_ _=>rfl))) aD))) aD)))))))
   (aE (aM (aZ (ok_law_sum T) hr aL (aA (pv 1) aD)))))),?_]
  try dsimp only[bF,Cx.nox,Cx.wish]
  rw[<-L.paid]at k;let#[j,R,t1]:=M.t1;let#[aj,h2,t2]:=M.t2;refine#[zL0,λq nq=>?_];let#[H0,zq,s0,ad]:=uG (o:=.lst []) nq;rw[zq];have ag:=s0 _ _ R;have U:q≠u:=λz=>by rw[z,R]at nq;cases nq
  refine#[u,.dK j,ag,(by intro o z e;cases e),9,m,_,7,SqT.of (s0 _ _ M.hm),8,u,j,8,ag,λo=>?_];have lw:=L.so.lw
  refine gf (a:=u) (o:=o) (kvs:=j) (λi σ y=>i<=S.ws.length/\yE4 λz3 z4 z5 O=>σ=[some (.ref m),some (.ref q),z3,z4,z5]×' y u=some (.frz o (.dK j))×' But u H y×' y q=some (.lst O)×' RowAt DueIs y O (paidP (aO l B) ((S.ws.take i).map S.g)))
   #[jZ _,_,_,_,[],8,aC,(λb ob e ne=>by rw[aG ne];exact s0 _ _ e),by rw[aG U];exact ad,RowAt.nil] ((by rintro i σ y _⟨_,_,_,_,_,_,h,_⟩;exact h)) ?_ ?_
  ·rintro i kv t σ y an nt⟨_,z3,z4,z5,O,rfl,hf,Y,N,r⟩;let#[n,en,e1,ev,G,vg,vh,vc,eq,af,hg,hh,hc]:=t1.at_ L.so.nw an;have hi:i<S.ws.length:=(jH.mp en).1;have ao:kV kv.1=.str n:=by rw[e1];rfl
   let#[tg,8,ak]:=hc.but R Y;have ai:=Y _ _ af (bK af R (by intro z;cases z));rw[ao,eq];let#[H3,zq,s3,ht]:=uG (o:=.tup [.str n,.ref G]) nt;rw[zq];refine#[t,[.str n,.ref G],8,SqT.of ht,8,.str n,[.ref G],8,#[.ref G,[],8,#[8,?_]]];have k3:But u H H3:=Y.trans (.of s3);refine#[9,9,m,d0,u,d2,n,aj,l,B,8,k3 _ _ M.hm (bK M.hm R (by intro z;cases z)),.inl (k3 _ _ h2 M.n12.symm),t2.mono (λv x z=>PrIs.but z R k3),λvf X s4 al=>?_];have k4:=k3.trans (.of s4);have D:=s3.trans s4;let#[tf,8,I]:=al;have I:X tf=some (.tup [.int (aO l B n).num,.int ((aO l B n).den:Int)]):=I;have ah:S.g n∈S.ds:=j9.mpr #[n,jP en,8];have ac:(S.g n).nm=n:=(L.so.gk n (jP en)).1;let#[sm1,sm2]:=L.smc _ ah;rw[ac]at sm1;have aa:=SqT.of (K:=K) (D _ _ ai);have J:X tg=some (.tup [.int (S.g n).co.num,.int ((S.g n).co.den:Int)]):=D _ _ ak;have ae:=D _ _ N;have lt:O.length<=46:=by rw[r.1];unfold paidP;rw[jE,jE,kc];lia
   refine#[9,.inl #[8,_,SqL.of ae],9,tf,_,7,SqT.of I,8,9,G,_,7,aa,8,tg,_,7,SqT.of J,8,7,ei sm1.pn.b1 sm2.pn.b1 (by decide),9,tf,_,7,SqT.of I,8,9,G,_,7,aa,8,tg,_,7,SqT.of J,8,7,ei sm1.pn.b3 sm2.pn.b3 (by decide),zL2,λtp am=>?_];let#[H5,zq,s5,ab]:=uG (o:=.tup [.int ((aO l B n).num*(S.g n).co.num),.int (((aO l B n).den:Int)*((S.g n).co.den:Int))]) am;rw[zq];have W:=D.trans s5;have Z:=s5 _ _ ae;refine#[q,7,Z,bB (),?_];have up:∀{b:Addr}{xs:List V},H5 b=some (.tup xs)->upd H5 q (.lst (O++[.ref tp])) b=some (.tup xs):=λh=>by rw[aG (bK h Z (by intro z;cases z))];exact h
   refine#[hi,_,_,_,9,by rw[aG U.symm];exact W _ _ hf,λb ob e ne=>?_,aC,?_]
   ·rw[aG (aP e nq)];exact W _ _ (Y b ob e ne)
   ·rw[j4,en,j6,jY];unfold paidP;rw[jY,kz,lD,kz,lD,ac];exact(r.mono (by rintro v x⟨p,e,f⟩;exact#[p,e,up (W _ _ f)])).snoc #[tp,8,up ab]
  ·rintro σ y⟨_,z3,z4,z5,O,rfl,hf,Y,N,r⟩;have e:(S.ws.take j.length).map S.g=S.ds:=by rw[t1.len,ke];rfl
   rw[e]at r
   have sf:Same H (upd y u (.dK j)):=λb ob eb=>by
    by_cases hb:b=u
    ·subst hb;rw[aC,<-R,eb]
    ·rw[aG hb];exact Y _ _ eb hb
   refine#[o,hf,?_];have ld:S.ds.length<=23:=by unfold DS.ds;rw[jE];exact lw
   refine#[9,q,O,9,SqL.of (by rw[aG U];exact N),r.mono (by rintro v x⟨p,e,f⟩;exact#[p,e,by rw[aG λz=>by rw[z,hf]at f;cases f];exact f]),by unfold paidP;rw[jE];lia,(λc hc=>?_),λv X s4 hv=>k v X (sf.trans s4) hv];unfold paidP at hc;let#[d,hd,8]:=j9.mp hc;exact pn_mul (L.smc d hd).1 (L.smc d hd).2
inductive IspUpto(vs:List V)(H:Hp)(Q:VK):Prop
 |mk(v u:V)(x y:Rat)(n m:Nat)(h1:vs=[v,u])(h2:PrIs H v x)(h3:PrIs H u y)(h4:Bd n x)(h5:Bd m y)(h6:n+m<=9000)(h7:Q (.bl (decide (x<=y))) H):IspUpto vs H Q
abbrev spUpto:Sp:=λvs H Q _=>IspUpto vs H Q
def ok_law_upto(T:TX K mg a):FnB P w K mg base CX0 "_law_upto" 1 ["_law_one","_law_other"] spUpto:=by
 refine T.d_law_upto.ok sc_law_upto (λq H Q E h=>?_) (λf z A j s H q Q E B h=>?_)
 ·let#[_,_,_,_,_,_,8,_]:=h;rfl
 ·let#[v,u,x,y,n,m,8,#[d,8,c],#[i,8,b],l,o,t,k]:=h;refine#[_,(aE (aM (gy op_le (aQ du (aN bA (pv 0) aF (λ_ _=>rfl)) (aN bA (pv 1) aF (λ_ _=>rfl))) (aQ du (aN bA (pv 1) aF (λ_ _=>rfl)) (aN bA (pv 0) aF (λ_ _=>rfl))) (aS _)))),?_];try dsimp only[bF,Cx.nox,Cx.wish]
  have c:H d=some (.tup [.int x.num,.int (x.den:Int)]):=c;have b:H i=some (.tup [.int y.num,.int (y.den:Int)]):=b;have p:(x.den:Int).natAbs<=2^n:=by rw[kH];exact l.2
  have r:(y.den:Int).natAbs<=2^m:=by rw[kH];exact o.2
  refine#[9,d,_,7,SqT.of c,8,9,i,_,7,SqT.of b,8,7,ei l.1 r (),9,i,_,7,SqT.of b,8,9,d,_,7,SqT.of c,8,7,ei o.1 p (),7,?_]
  have e:decide (x.num*(y.den:Int)<=y.num*(x.den:Int))=decide (x<=y):=by
   rw[decide_eq_decide];exact(Rat.le_iff x y).symm
  rw[e];exact k
def MOk.flts(h:MOk S ms B):S.faults=bP (aO ms B) S.ds++cK (c9 (aO S.as S.A) S.ds) S.ps:=by
 unfold DS.faults jz
 have b:cT S.ds S.as=[]:=by
  unfold cT;rw[h.so.ds1];exact List.filter_eq_nil_iff.mpr λn a z=>kG z (h.so.sub n a)
 rw[b,lD,List.nil_append,funext h.am]
def num_neg(x:Rat):x.num<0↔x<0:=by
 have h:x<0↔x.num<0:=by rw[<-Rat.not_le,<-Rat.num_nonneg];lia
 exact h.symm
def thawed(h1:H d=some (.dK kv))(k:But d H H2):Same H (upd H2 d (.dK kv)):=λb c a=>by
 by_cases hb:b=d
 ·subst hb;rw[aC,<-h1,a]
 ·rw[aG hb];exact k _ _ a hb
inductive IspFlts(vs:List V)(H:Hp)(Q:VK):Prop
 |mk(m d0 d1 d2:Addr)(S:DS)(ms:List Str)(B:Str->Rat)(h1:vs=[.ref m])(h2:MdAt H m d0 d1 d2 S ms B)(h3:MOk S ms B)(h4:(∀n,n∈S.ks∨n∈S.ws->n.length<=8))(h5:∀H',Same H H'->Q (.str (lookT S.faults)) H'):IspFlts vs H Q
abbrev spFlts(K:W.Frag):Sp:=λvs H Q _=>IspFlts vs H Q
def ok_law_faults(T:TX K mg a):FnB P w K mg base CX0 "_law_faults" 6 ["_law_model"] (spFlts K):=by
 refine T.d_law_faults.ok sc_law_faults (λvs H Q E h=>?_) (λf a5 A a3 s H vs Q E hr h=>?_)
 ·let#[_,_,_,_,_,_,_,8,_]:=h;rfl
 ·let#[m,U,N,d2,S,c,B,8,M,J,ln,k]:=h
  refine#[_,(aB (aR (i:=1) sc_law_faults.nd rfl (Or.inl rfl) (dj aD))
   (bH (il (cS kl rfl (f9 (aN bA (pv 0) aF (λ_ _=>rfl))) (gx (n:=2) rfl (bJ (bD (i:=2) sc_law_faults.nd rfl (Or.inl rfl)) (bJ (bD (i:=3) sc_law_faults.nd rfl (Or.inl rfl)) dH))) (aB (aR (i:=4) sc_law_faults.nd rfl (Or.inl rfl) (aZ (fK T) hr aL (aA (pv 0) (aA (pv 2) aD))))
   (aE (aW (PW.pt (gL (aK iL (aN bA (pv 4) aF (λ_ _=>rfl)) aF (aS _)) (hF (PW.pt (d9 (aK fH (aN bA (pv 3) aF (λ_ _=>rfl)) cB (aS _)) (dP (fO (cG (aZ (ok_law_upto T) hr aL (aA (pv 4) (aA (aN bA (pv 3) aF (λ_ _=>rfl)) aD))))))))))) (aE (bG (dr kj kf kg bU (pv 1) (aA (aQ cW aT (pv 2)) aD)))) aJ)))))
   (bH (il (cS kl rfl (f9 (aN bA (pv 0) aF (λ_ _=>rfl))) (gx (n:=2) rfl (bJ (bD (i:=5) sc_law_faults.nd rfl (Or.inl rfl)) (bJ (bD (i:=6) sc_law_faults.nd rfl (Or.inl rfl)) dH))) (aE (aW (fO (cG (aZ (ok_law_upto T) hr aL (aA (pv 6) (aA (aZ (ok_law_gone T) hr aL (aA (pv 0) (aA (pv 5) aD))) aD))))) (aE (bG (dr kj kf kg bU (pv 1) (aA (aQ cW aT (pv 5)) aD)))) aJ))))
   (aB (aW (aK (op_eqN hr.units0) (pv 1) (dj aD) (aS _)) (aE (aM aT)) aJ)
   (aE (aM (dr lK PySem.F.slot_str_join PySem.F.type_str_join mt_join aT (aA (pv 1) aD)))))))),?_]
  try dsimp only[bF,Cx.nox,Cx.wish]
  generalize an:tCut _ _=k9
  revert k9
  refine jv λk9 an=>?_;let#[W,h0,t0]:=M.t0;let#[L,h1,t1]:=M.t1;let#[aj,h2,t2]:=M.t2;rw[J.flts]at k;refine#[zL0,λq nq=>?_];let#[H0,zq,s0,am]:=uG (o:=.lst []) nq;rw[zq];have ao:=s0 _ _ h1;have ag:q≠N:=λz=>by rw[z,h1]at nq;cases nq
  have ab:q≠U:=λz=>by rw[z,h0]at nq;cases nq
  have lw:=J.so.lw;have lk:=J.so.lk;subst an;refine dX (λσ' H'=>∃G D u,σ'=[some (.ref m),some (.ref q),G,D,u,none,none]/\Same H H'/\H' q=some (.lst (((bP (aO c B) S.ds).map fR).map V.str))) ?_ ?_
  ·refine#[N,.dK L,ao,(by intro o z e;cases e),9,m,_,7,SqT.of (s0 _ _ M.hm),8,N,L,8,ao,λo=>?_]
   refine gf (a:=N) (o:=o) (kvs:=L) (λi σ p=>i<=S.ws.length/\∃G D u,σ=[some (.ref m),some (.ref q),G,D,u,none,none]/\p N=some (.frz o (.dK L))/\But N H p/\p q=some (.lst (((bP (aO c B) ((S.ws.take i).map S.g)).map fR).map V.str)))
    #[jZ _,_,_,9,aC,(λb ob e ne=>by rw[aG ne];exact s0 _ _ e),by rw[aG ag];exact am] (λi σ p _⟨_,_,_,_,_,h,_⟩=>h) ?_ ?_
   ·rintro i kv t σ p af nt⟨_,G,D,u,rfl,hf,k2,d⟩;let#[n,en,e1,ev,j,vg,vh,vc,eq,aa,hg,hh,hc]:=t1.at_ J.so.nw af;have hi:i<S.ws.length:=(jH.mp en).1;have ai:kV kv.1=.str n:=by rw[e1];rfl
    have Y:=hh.but h1 k2;have av:=k2 _ _ aa (bK aa h1 (by intro z;cases z));rw[ai,eq];let#[H3,zq,O,ht]:=uG (o:=.tup [.str n,.ref j]) nt;rw[zq];refine#[t,[.str n,.ref j],8,SqT.of ht,8,.str n,[.ref j],8,#[.ref j,[],8,#[8,?_]]];have R:But N H H3:=k2.trans (.of O);refine#[9,9,m,U,N,d2,n,aj,c,B,8,R _ _ M.hm (bK M.hm h1 (by intro z;cases z)),.inl (R _ _ h2 M.n12.symm),t2.mono (λv x z=>PrIs.but z h1 R),λvf Z s4 ak=>?_];have k4:=R.trans (.of s4);have I:=O.trans s4;have a0:=ak;let#[tf,8,ah]:=ak;have ah:Z tf=some (.tup [.int (aO c B n).num,.int ((aO c B n).den:Int)]):=ah;have ap:S.g n∈S.ds:=j9.mpr #[n,jP en,8];have ac:=jP en;have al:(S.g n).nm=n:=(J.so.gk n ac).1;let#[sm1,sm2]:=J.smc _ ap;rw[al]at sm1;have a2:=ln n (.inr ac);have ad:=SqT.of (K:=K) (I _ _ av);have r:=I _ _ d
    have lb:(((bP (aO c B) ((S.ws.take i).map S.g)).map fR).map V.str).length<=23:=by
     rw[jE,jE]
     have:=d6 (aO c B) ((S.ws.take i).map S.g)
     rw[jE,kc]at this
     lia
    have fin:∀(X:List V),X=(if fG (S.g n).hi (aO c B n)=true then[V.str ("bound "++n)]else[])->i+1<=S.ws.length/\∃G D u,[some (V.ref m),some (V.ref q),some (V.str n),some (V.ref j),some (V.ref tf),none,none]=[some (V.ref m),some (V.ref q),G,D,u,none,none]/\upd Z q (.lst (((bP (aO c B) ((S.ws.take i).map S.g)).map fR).map V.str++X)) N=some (.frz o (.dK L))/\But N H (upd Z q (.lst (((bP (aO c B) ((S.ws.take i).map S.g)).map fR).map V.str++X)))/\upd Z q (.lst (((bP (aO c B) ((S.ws.take i).map S.g)).map fR).map V.str++X)) q=some (.lst (((bP (aO c B) ((S.ws.take (i+1)).map S.g)).map fR).map V.str)):=λX ey=>by
     refine#[hi,_,_,9,by rw[aG ag.symm];exact I _ _ hf,λb ob e ne=>by rw[aG (aP e nq)];exact k4 _ _ e ne,?_];rw[aC,j4,en,j6,jY,kz,lD,gD,al,jY,jY,ey]
     split<;>rfl
    have l:fG (S.g n).hi (aO c B n)=false->_:=λeo=>fin [] (by rw[if_neg (by rw[eo];decide)]);rw[kE,upd_id r]at l;refine#[9,tf,_,7,SqT.of ah,8,7,9,?_];by_cases hx:aO c B n<0
    ·have eo:fG (S.g n).hi (aO c B n)=true:=by unfold fG;rw[jL hx];rfl
     refine bT (jL ((num_neg _).mpr hx)) (iteT ?_);exact#[9,.inl #[8,_,SqL.of r],9,7,by rw[j1];have c6:("bound ":Str).length=6:=rfl;omega,q,7,r,bB (by omega),fin _ (by rw[if_pos eo])]
    ·have o1:fG (S.g n).hi (aO c B n)=(match(S.g n).hi with|none=>false|some h=>decide (h<aO c B n)):=by unfold fG;rw[jI hx];rfl
     refine aX (jI λz=>hx ((num_neg _).mp z)) ?_
     cases e:(S.g n).hi with
     |none=>
      rw[e]at Y o1;obtain rfl:vh=.non:=Y;exact#[9,j,_,7,ad,8,8,9,iO rfl (iteF (l (by rw[e,o1])))]
     |some y=>
      rw[e]at Y o1;have sy:=(J.so.sg n ac).2.2 y e;have hy:PrIs Z vh y:=PrIs.mono Y I;let#[th,8,a4]:=id hy;refine#[9,j,_,7,ad,8,8,9,bT rfl ?_];refine#[9,9,j,_,7,ad,8,_,_,_,_,30,30,8,a0,hy,sm1.bd,sy.bd,5,?_];refine#[9,?_];by_cases hy2:aO c B n<=y
      ·refine aX (by rw[jL hy2];rfl) (l ?_);rw[e,o1];exact jI (Rat.not_lt.mpr hy2)
      ·have eo:fG (S.g n).hi (aO c B n)=true:=by rw[e,o1];exact jL (Rat.not_le.mp hy2)
       refine bT (by rw[jI hy2];rfl) ?_;exact#[9,.inl #[8,_,SqL.of r],9,7,by rw[j1];have c6:("bound ":Str).length=6:=rfl;omega,q,7,r,bB (by omega),fin _ (by rw[if_pos eo])]
   ·rintro σ p⟨_,G,D,u,rfl,hf,k2,d⟩;rw[t1.len,ke]at d;exact#[o,hf,_,_,9,thawed h1 k2,by rw[aG ag];exact d]
  rintro zU ae σ' H1⟨G,D,u,rfl,s1,az⟩;have ar:=s1 _ _ h0
  have lb:(bP (aO c B) S.ds).length<=23:=by
   have:=d6 (aO c B) S.ds
   have h2:S.ds.length=S.ws.length:=by unfold DS.ds;rw[jE]
   lia
  subst ae;refine dX (λσ' H'=>∃G D u z5 z6,σ'=[some (.ref m),some (.ref q),G,D,u,z5,z6]/\Same H H'/\H' q=some (.lst (((bP (aO c B) S.ds++cK (c9 (aO S.as S.A) S.ds) S.ps).map fR).map V.str))) ?_ ?_
  ·refine#[U,.dK W,ar,(by intro o z e;cases e),9,m,_,7,SqT.of (s1 _ _ M.hm),8,U,W,8,ar,λo=>?_]
   refine gf (a:=U) (o:=o) (kvs:=W) (λi σ p=>i<=S.ks.length/\∃G D u z5 z6,σ=[some (.ref m),some (.ref q),G,D,u,z5,z6]/\p U=some (.frz o (.dK W))/\But U H p/\p q=some (.lst (((bP (aO c B) S.ds++cK (c9 (aO S.as S.A) S.ds) (S.ps.take i)).map fR).map V.str)))
    #[jZ _,_,_,_,_,9,aC,(λb ob e ne=>by rw[aG ne];exact s1 _ _ e),by rw[aG ab,List.take_zero,show cK (c9 (aO S.as S.A) S.ds) []=[]from rfl,kE];exact az] (λi σ p _⟨_,_,_,_,_,_,_,h,_⟩=>h) ?_ ?_
   ·rintro i kv t σ p af nt⟨_,G,D,u,z5,z6,rfl,hf,k2,d⟩;let#[n,en,e1,ev,j,eq,aa]:=t0.at_ J.so.nk af;have hi:i<S.ks.length:=(jH.mp en).1;have au:=jP en;have ai:kV kv.1=.str n:=by rw[e1];rfl
    rw[ai,eq];let#[H3,zq,O,ht]:=uG (o:=.tup [.str n,.ref j]) nt;rw[zq];refine#[t,[.str n,.ref j],8,SqT.of ht,8,.str n,[.ref j],8,#[.ref j,[],8,#[8,?_]]];have R:But U H H3:=k2.trans (.of O);have ay:PrIs H3 (.ref j) (S.f n):=PrIs.but #[j,8,aa] h0 R;have G3:MdG H3 m U N d2 S c B:=#[R _ _ M.hm (bK M.hm h0 (by intro z;cases z)),#[L,R _ _ h1 M.n01.symm,t1.mono λv x z=>z.but h0 R],#[aj,R _ _ h2 M.n02.symm,t2.mono λv x z=>PrIs.but z h0 R],M.n12];refine#[9,9,9,m,U,N,d2,n,S,c,B,8,G3,J,λvg Z s4 ax=>?_];have k4:=R.trans (.of s4);have I:=O.trans s4;have r:=I _ _ d;have a2:=ln n (.inl au)
    have lp:(cK (c9 (aO S.as S.A) S.ds) (S.ps.take i)).length<=11:=by
     have:=hI (c9 (aO S.as S.A) S.ds) (S.ps.take i)
     rw[kc]at this;omega
    have ep:S.ps[i]?=some (n,S.f n):=by unfold DS.ps;rw[jM,en];rfl
    have fin:∀(X:List V),X=(if c9 (aO S.as S.A) S.ds n<S.f n then[V.str ("place "++n)]else[])->i+1<=S.ks.length/\∃z2' z3' z4' z5' z6',[some (V.ref m),some (V.ref q),G,D,u,some (V.str n),some (V.ref j)]=[some (V.ref m),some (V.ref q),z2',z3',z4',z5',z6']/\upd Z q (.lst (((bP (aO c B) S.ds++cK (c9 (aO S.as S.A) S.ds) (S.ps.take i)).map fR).map V.str++X)) U=some (.frz o (.dK W))/\But U H (upd Z q (.lst (((bP (aO c B) S.ds++cK (c9 (aO S.as S.A) S.ds) (S.ps.take i)).map fR).map V.str++X)))/\upd Z q (.lst (((bP (aO c B) S.ds++cK (c9 (aO S.as S.A) S.ds) (S.ps.take i)).map fR).map V.str++X)) q=some (.lst (((bP (aO c B) S.ds++cK (c9 (aO S.as S.A) S.ds) (S.ps.take (i+1))).map fR).map V.str)):=λX ey=>by
     refine#[hi,_,_,_,_,9,by rw[aG ab.symm];exact I _ _ hf,λb ob e ne=>by rw[aG (aP e nq)];exact k4 _ _ e ne,?_];rw[aC,j4,ep,j6,gw,<-List.append_assoc,ey];by_cases hb:c9 (aO S.as S.A) S.ds n<S.f n
     ·rw[if_pos hb,if_pos (show c9 (aO S.as S.A) S.ds (n,S.f n).1<(n,S.f n).2 from hb)];simp only[jY];rfl
     ·rw[if_neg hb,if_neg (show¬c9 (aO S.as S.A) S.ds (n,S.f n).1<(n,S.f n).2 from hb),kE,kE]
    have l:¬c9 (aO S.as S.A) S.ds n<S.f n->_:=λeo=>fin [] (by rw[if_neg eo]);rw[kE,upd_id r]at l;refine#[_,_,_,_,30,1403,8,PrIs.mono ay s4,ax,(J.so.sf n au).bd,J.so.sumBd n,5,9,?_];by_cases hy2:S.f n<=c9 (aO S.as S.A) S.ds n
    ·exact aX (by rw[jL hy2];rfl) (l (Rat.not_lt.mpr hy2))
    ·refine bT (by rw[jI hy2];rfl) ?_;exact#[9,.inl #[8,_,SqL.of r],9,7,by rw[j1];have c6:("place ":Str).length=6:=rfl;omega,q,7,r,bB (by rw[jE,jE,j5];omega),fin _ (by rw[if_pos (Rat.not_le.mp hy2)])]
   ·rintro σ p⟨_,G,D,u,z5,z6,rfl,hf,k2,d⟩;rw[t0.len,show S.ks.length=S.ps.length by unfold DS.ps;rw[jE],ke]at d;exact#[o,hf,_,_,_,_,9,thawed h0 k2,by rw[aG ab];exact d]
  rintro zU ae σ' p⟨G,D,u,z5,z6,rfl,s2,d⟩;have ff:=J.so.fts ln;subst ae;rw[J.flts]at ff;generalize bP (aO c B) S.ds++cK (c9 (aO S.as S.A) S.ds) S.ps=fs at k d ff;let#[lf,hf]:=ff;refine#[9,5,λl0 a1=>?_];let#[H3,zq,O,aq]:=uG (o:=.lst []) a1;rw[zq];have aw:=O _ _ d;refine#[q,l0,9,8,SqL.of aw,SqL.of aq,9,?_];unfold lookT at k;by_cases e0:fs=[]
  ·rw[if_pos e0]at k;exact bT (by rw[e0];rfl) (k H3 (s2.trans O))
  ·rw[if_neg e0]at k
   refine aX (by
    cases fs with
    |nil=>exact absurd rfl e0
    |cons _ _=>rfl) ?_
   have hj:∀y∈fs.map fR,y.length<=14:=λy hy=>by
    let#[e,he,8]:=j9.mp hy;let#[b1,b2]:=hf e he;have c1:(" ":Str).length=1:=rfl;unfold fR;rw[kD,kD];omega
   have c2:(", ":Str).length=2:=rfl;refine#[8,9,", ",q,fs.map fR,8,8,SqL.of aw,λy hy=>jK (hj y hy) (by decide),5,by rw[jE];omega,?_,k H3 (s2.trans O)];refine jK (glued_len ", " 14 _ hj) ?_;rw[jE,c2,j1];omega
def ifNV{A B:Prop}(h1:k≠m->A)(h2:k=m->B):if(!decide (V.int k=V.int m))=true then A else B:=by
 by_cases e:k=m
 ·rw[jL (kI V.int e)];exact h2 e
 ·rw[jI λz=>e (V.int.inj z)];exact h1 e
def PN.sm2(h:PN n c)(hn:n<9000:=by decide):Sm c.2:=Sm.of_le h.b3 hn
abbrev words12:List Str:=["place","place","way","way","way","drop","send","send","amount","sum","cost","look"]
def word_at(c:Int):∃z∈words12,atI (words12.map V.str) (c%12)=some (.str z):=by
 let#[d,i]:=cX c (show(0:Int)<12 by decide);obtain⟨n,b⟩:∃n:Nat,c%12=n:=#[(c%12).toNat,4];have a:∀n:Nat,n<12->∃z∈words12,words12[n]?=some z:=λn h=>#[words12[n]'h,lv _,jF h];let#[z,m,e]:=a n ();exact#[z,m,by rw[b];exact iw (by rw[jM,e];rfl)]
def Nms.at_(h:Nms N)(i:Int):∃n∈N,dN n=true/\atI (N.map V.str) (i%5)=some (.str n):=by
 let#[c,d]:=cX i (show(0:Int)<5 by decide);obtain⟨n,a⟩:∃n:Nat,i%5=n:=#[(i%5).toNat,4];have b:n<N.length:=by rw[h.len];lia
 exact#[N[n],lv _,h.ok _ (lv _),by rw[a];exact iw (by rw[jM,jF b];rfl)]
def PaIs.hi(h:HiP H v o):PaIs H v (hiW o):=by
 cases o with
 |none=>exact h
 |some y=>exact h
def small_neg(h:smallR x):smallR (-x):=#[by rw[Rat.neg_num,Int.natAbs_neg];exact h.1,by rw[Rat.neg_den];exact h.2]
inductive IspParts(vs:List V)(H:Hp)(Q:VK):Prop
 |mk(c:Int)(l:Addr)(N:List Str)(b:Bool)(h1:vs=[.int c,.ref l,.bl b])(h2:H l=some (.lst (N.map V.str)))(h3:Nms N)(h4:∀q H' r,Same H H'->PartsAt H' q r->r.ok->(∀z∈r.cs,∀n,z=.nm n->n∈N)->Q (.ref q) H'):IspParts vs H Q
abbrev spParts(K:W.Frag):Sp:=λvs H Q _=>IspParts vs H Q
def ok_law_parts(T:TX K mg a):FnB P w K mg base CX0 "_law_parts" 4 ["_law_cell","_law_names_here","_law_free"] (spParts K):=by
 refine T.d_law_parts.ok sc_law_parts (λvs H Q E h=>?_) (λf a4 A ax s H vs Q E hr h=>?_)
 ·let#[_,_,_,_,8,_]:=h;rfl
 ·let#[c,l,N,b,8,hl,ae,k]:=h;refine'#[_,aB ?s0 ?r0,?kk]
  case s0=>exact(aR (i:=3) sc_law_parts.nd rfl (Or.inl rfl) (aQ bQ (aQ du (aQ bQ (pv 0) (aQ iV aF aF)) aF) aF))
  case' r0=>refine' aB ?s1 ?r1
  case s1=>exact(aR (i:=4) sc_law_parts.nd rfl (Or.inl rfl) (aQ bQ (aQ du (aQ bQ (pv 0) (aQ iV aF aF)) aF) aF))
  case' r1=>refine' bH ?s2 ?r2
  case s2=>exact(aW (cG (pv 2)) (aB (aR (i:=3) sc_law_parts.nd rfl (Or.inl rfl) (aQ bQ (aQ dA (aQ bQ (pv 0) (aQ iV aF aF)) aF) (aQ iV aF aF)))
   (aE (aR (i:=4) sc_law_parts.nd rfl (Or.inl rfl) (aQ bZ (aQ bQ (pv 0) (aQ iV aF aF)) (aQ du aF (aQ iV aF aF)))))) aJ)
  case' r2=>refine' bH ?s3 ?r3
  case' s3=>
   generalize hL:Expr.List _ _=L;refine'(aR (i:=5) sc_law_parts.nd rfl (Or.inl rfl) (aN aU (pe_eqE hL ?y3) (aQ bQ (pv 0) aF) (λ_ _=>rfl)))
  case y3=>
   refine' pe_txl ["place","place","way","way","way","drop","send","send","amount","sum","cost","look"] ?_;decide+kernel
  case' r3=>refine' aB ?s4 ?r4
  case s4=>exact(aW (aK bL (pv 5) aT (aS _)) (aB (aR (i:=6) sc_law_parts.nd rfl (Or.inl rfl) cB)
   (bH (aW (aK iK (aQ bQ (pv 4) aF) aF (aS _)) (aE (aR (i:=6) sc_law_parts.nd rfl (Or.inl rfl) (aZ (eE T) hr aL (aA (aQ fP (aQ du (aQ dA (pv 4) aF) aF) (aQ du aF (aQ bQ (pv 4) aF))) aD)))) aJ)
   (aB (aR (i:=7) sc_law_parts.nd rfl (Or.inl rfl) (aZ (eE T) hr aL (aA (aQ dA (pv 3) aF) aD)))
   (bH (aW (aK iK (aQ bQ (pv 3) aF) aF (aS _)) (aE (aR (i:=7) sc_law_parts.nd rfl (Or.inl rfl) (aZ (fQ T) hr aL (aA (aQ fP aF (aQ bQ (bC ij (by rfl) T.z_abs PyProof.Rows.boot_abs (aA (aN bA (pv 7) aF (λ_ _=>rfl)) aD)) aF)) (aA (aN bA (pv 7) aF (λ_ _=>rfl)) aD))))) aJ)
   (bH (aW (PW.pt (d9 (aK fH (pv 6) cB (aS _)) (dP (aK iK (aQ bQ (pv 4) aF) aF (aS _))))) (aE (aR (i:=6) sc_law_parts.nd rfl (Or.inl rfl) (cH (aA (bC ij (by rfl) T.z_abs PyProof.Rows.boot_abs (aA (aN bA (pv 6) aF (λ_ _=>rfl)) aD)) (aA (aN bA (pv 6) aF (λ_ _=>rfl)) aD))))) aJ)
   (aE (aM (dj (aA (pv 5) (aA (aN aU (pv 1) (aQ bQ (pv 3) aF) (λ_ _=>rfl)) (aA (aN aU (pv 1) (aQ bQ (aQ dA (pv 3) aF) aF) (λ_ _=>rfl)) (aA (aN aU (pv 1) (aQ bQ (aQ dA (pv 3) aF) aF) (λ_ _=>rfl)) (aA (pv 7) (aA (pv 6) (aA (aZ (eE T) hr aL (aA (pv 4) aD)) aD))))))))))))))) aJ)
  case' r4=>refine' aB ?s5 ?r5
  case s5=>exact(aW (PW.pt (gL (aK bL (pv 5) aT (aS _)) (hF (aK bL (pv 5) aT (aS _))))) (aE (aM (dj (aA (pv 5) (aA (aN aU (pv 1) (aQ bQ (pv 3) aF) (λ_ _=>rfl)) (aA (aZ (eE T) hr aL (aA (pv 4) aD)) aD)))))) aJ)
  case' r5=>refine' aB ?s6 ?r6
  case s6=>exact(aW (PW.pt (gL (aK bL (pv 5) aT (aS _)) (hF (aK bL (pv 5) aT (aS _))))) (aE (aM (dj (aA (pv 5) aD)))) aJ)
  case r6=>exact aE (aM (dj (aA (pv 5) (aA (aN aU (pv 1) (aQ bQ (pv 3) aF) (λ_ _=>rfl)) aD))))
  try dsimp only[bF,Cx.nox,Cx.wish]
  generalize O:tCut _ _=k9
  revert k9
  refine jv λk9 O=>?_;let#[a0,a1]:=cX c (show(0:Int)<10^12 by decide);let#[b0,b1]:=cX c (show(0:Int)<10^60 by decide);have az:(10:Int)^12=1000000000000:=by decide
  have a2:(c%10^12).natAbs<=2^100:=by lia
  refine#[9,7,#[5,5,5],7,by show(0:Int)<10^12;decide,7,ei (x:=100) (y:=100) a2 (by decide) (by decide),7,zI2147483647,?_];refine#[9,7,#[5,5,5],7,by show(0:Int)<10^12;decide,7,ei (x:=100) (y:=100) a2 (by decide) (by decide),7,zI998244353,?_];let#[g0,g1]:=cX (c%10^12*48271) (show(0:Int)<2147483647 by decide);let#[o0,o1]:=cX (c%10^12*16807) (show(0:Int)<998244353 by decide);subst O;refine dX (λD B=>yE2 λ(G I:Int)=>D=[some (.int c),some (.ref l),some (.bl b),some (.int G),some (.int I),none,none,none]×' B=H×' G.natAbs<=2^1000×' I.natAbs<=2^1000) ?_ ?_
  ·cases b with
   |false=>
    refine#[9,false,8,iteF #[7,jK (m:=2147483647) () (by decide),jK (m:=998244353) () (by decide)]]
   |true=>
    let#[q0,q1]:=cX (c%10^60/12) (show(0:Int)<10^20 by decide);have a3:(10:Int)^60=1000000000000000000000000000000000000000000000000000000000000:=by decide
    have ay:(10:Int)^20=100000000000000000000:=by decide
    refine#[9,true,8,iteT ?_];refine#[9,7,#[5,5,5],7,by show(0:Int)<10^60;decide,7,#[5,5],7,#[5,5,5],7,by show(0:Int)<10^20;decide,?_];refine#[9,7,#[5,5,5],7,by show(0:Int)<10^60;decide,7,#[5,5,5],7,ei (x:=4) (y:=100) (by decide) (by decide) (by decide),7,#[5,5],?_];have dv:((c%10^60).fdiv (12*10^20))=c%10^60/(12*10^20):=kQ _ (by decide);refine#[c%10^60/12%10^20,(c%10^60).fdiv (12*10^20),8,8,jK (m:=10^20) () (by decide+kernel),jK (m:=10^60) (by rw[dv];lia) (by decide+kernel)]
  rintro zU d D H1⟨G,I,rfl,rfl,bm,bo⟩;subst d;refine dX (λD B=>∃z∈words12,D=[some (.int c),some (.ref l),some (.bl b),some (.int G),some (.int I),some (.str z),none,none]/\Same H1 B) ?_ ?_
  ·let#[z,p,ez]:=word_at c;refine#[zL12,λt nt=>?_];exact#[9,7,zI12,t,_,7,SqL.of aC,ez,z,p,8,aI nt]
  rintro zU d D H2⟨z,p,rfl,s2⟩;have ah:=s2 _ _ hl;let#[v,m0,F,J]:=ae.at_ G;have i5:(0:Int)<5:=by decide
  have a5:∀j:Int,(G/j).natAbs<=2^1000:=λj=>jK (Int.natAbs_ediv_le_natAbs _ _) bm;have ao:∀j:Int,(I/j).natAbs<=2^1000:=λj=>jK (Int.natAbs_ediv_le_natAbs _ _) bo;subst d;by_cases ew:z="way"
  ·subst ew;refine#[9,8,9,bT rfl ?_];refine dX (λD B=>yE2 λvh oh=>D=[some (.int c),some (.ref l),some (.bl b),some (.int G),some (.int I),some (.str "way"),some vh,none]×' Same H2 B×' HiP B vh oh×'∀y,oh=some y->smallR y) ?_ ?_
   ·refine#[9,7,zI3,8,9,ifNV (λ_=>?_) (λ_=>?_)]
    ·let#[r0,r1]:=cX I (show(0:Int)<2 by decide);refine#[9,7,#[5,5],7,ei (x:=1000) (y:=100) (ao 3) (by decide) (by decide),9,7,zI2,7,ei (x:=100) (y:=100) (by decide) (jK (m:=2) () (by decide)) (by decide),7,9,λt H3 x s3 ht sm=>?_];exact#[_,some x,8,s3,#[t,8,ht],λy e=>by cases e;exact sm]
    ·exact#[.non,none,8,λ_ _ e=>e,8,λy e=>by cases e]
   rintro zU d D H3⟨vh,oh,rfl,s3,ap,ak⟩;subst d;generalize O:tCut _ _=k9
   revert k9
   refine jv λk9 O=>?_;refine#[9,7,#[5,5],9,λad H4 S s4 af Z=>?_];subst O;refine dX (λD B=>yE2 λtg x=>D=[some (.int c),some (.ref l),some (.bl b),some (.int G),some (.int I),some (.str "way"),some vh,some (.ref tg)]×' Same H4 B×' B tg=some (.tup [.int x.num,.int (x.den:Int)])×' smallR x) ?_ ?_
   ·refine#[9,7,zI7,8,9,ifNV (λ_=>?_) (λ_=>#[ad,S,8,λ_ _ e=>e,af,Z])];have sq:=SqT.of (K:=K) af;refine#[9,ad,_,7,sq,8,9,7,zI99999999,7,9,ad,_,7,sq,8,?_];let#[p0,p1]:=cX (if S.num<0 then-S.num else S.num) (show(0:Int)<99999999 by decide);generalize(if S.num<0 then-S.num else S.num)%99999999=A at p0 p1⊢;have dp:(0:Int)<S.den:=by have:=S.den_pos;lia
    refine#[_,9,dp,(smallR.pn Z).sm2,λt H5 nt s5 ht=>#[t,9,s5,ht,small_div dp () (by rw[kH];exact Z.2)]]
   rintro zU d D H5⟨tg,x,rfl,s5,av,aw⟩;have ac:=ap.mono (s4.trans s5);subst d;refine dX (λD B=>yE2 λR M=>D=[some (.int c),some (.ref l),some (.bl b),some (.int G),some (.int I),some (.str "way"),some R,some (.ref tg)]×' Same H5 B×' HiP B R M×'∀y,M=some y->smallR y) ?_ ?_
   ·cases oh with
    |none=>
     obtain rfl:vh=.non:=ac;exact#[9,8,9,iO rfl (iteF #[.non,none,8,λ_ _ e=>e,8,λy e=>by cases e])]
    |some y=>
     let#[th,8,aa]:=id ac;have sy:=ak y rfl;have aa:H5 th=some (.tup [.int y.num,.int (y.den:Int)]):=aa;have sq:=SqT.of (K:=K) aa;refine#[9,8,9,bT rfl ?_];refine#[9,7,zI5,8,9,ifNV (λ_=>?_) (λ_=>#[_,some y,8,λ_ _ e=>e,ac,ak])];refine#[9,th,_,7,sq,8,9,9,th,_,7,sq,8,zL2,λt nt=>?_]
     have ea:yE1 λy'=>smallR y'×'(if y.num<0 then-y.num else y.num)=y'.num×' y.den=y'.den:=by
      by_cases e:y.num<0
      ·exact#[-y,small_neg sy,by rw[if_pos e,Rat.neg_num],by rw[Rat.neg_den]]
      ·exact#[y,sy,by rw[if_neg e],8]
     let#[y',aq,e1,e2]:=ea;exact#[_,some y',8,aI nt,#[t,8,by rw[aC];show some (HO.tup [.int (if y.num<0 then-y.num else y.num),.int (y.den:Int)])=_;rw[e1,e2];rfl],λu e=>by cases e;exact aq]
   rintro zU d D H6⟨R,M,rfl,s6,ar,au⟩;have ag:=s3.trans (s4.trans (s5.trans s6));have ab:=SqL.of (K:=K) (ag _ _ ah);let#[n1,m1,as,aj]:=ae.at_ (G/5);let#[X,m2,an,al]:=ae.at_ (G/25);subst d;refine#[9,9,9,7,i5,l,_,7,ab,J,9,9,7,#[5,5],7,i5,l,_,7,ab,aj,9,9,7,#[5,5],7,i5,l,_,7,ab,al,9,9,9,9,λtc H7 xc s7 hc sc=>?_];refine#[zL7,λq W=>?_];have Y:=aI (o:=.lst [.str "way",.str v,.str n1,.str X,.ref tg,R,.ref tc]) W;refine k q _ (.way v n1 X x M xc) (s2.trans (ag.trans (s7.trans Y))) #[_,aC,?_] #[F,as,an,aw,sc,au] ?_
   ·exact((((((RowAt.nil.snoc (x:=Wd.nm v) rfl).snoc (x:=Wd.nm n1) rfl).snoc (x:=Wd.nm X) rfl).snoc (x:=Wd.fr x) #[tg,8,Y _ _ (s7 _ _ (s6 _ _ av))]).snoc (PaIs.hi (HiP.mono ar (s7.trans Y)))).snoc (x:=Wd.fr xc) #[tc,8,Y _ _ hc])
   ·intro z p n e;subst e;simp only[Rw.cs,jR,jV,lN]at p;rcases p with e|e|e|e|e|e
    ·cases e;exact m0
    ·cases e;exact m1
    ·cases e;exact m2
    ·cases e
    ·cases M<;>cases e
    ·cases e
  ·refine#[9,8,9,aX (jI λe=>ew (V.str.inj e)) ?_];have ai:=SqL.of (K:=K) ah;by_cases e1:z="place"∨z="send"
   ·have am:∀(r:Rat->Rw),(∀x,(r x).hd=z)->(∀x,(r x).cs=[.nm v,.fr x])->(∀x,smallR x->(r x).ok)->tRet (tLst (iB (i9 5) (iB (tOp (rIxL K) (i9 1) (tOp (rI (λx j=>0<j) λi j=>V.int (i%j)) (i9 3) (tC (V.int 5)))) (iB (tCall spNumL [] E0 (iB (i9 4) tNil)) tNil)))) {nx:=λx B=>Q V.non B,rt:=Q} [some (.int c),some (.ref l),some (.bl b),some (.int G),some (.int I),some (.str z),none,none] H2:=λr h1 U h3=>by
     refine#[9,9,9,7,i5,l,_,7,ai,J,9,9,λtc H7 xc s7 hc sc=>?_];refine#[zL3,λq W=>?_];have Y:=aI (o:=.lst [.str z,.str v,.ref tc]) W;refine k q _ (r xc) (s2.trans (s7.trans Y)) #[[.str v,.ref tc],by rw[h1];exact aC,?_] (h3 xc sc) ?_
     ·rw[U];exact(RowAt.nil.snoc (x:=Wd.nm v) rfl).snoc (x:=Wd.fr xc) #[tc,8,Y _ _ hc]
     ·intro z p n e;rw[U]at p;subst e;simp only[jR,jV,lN]at p;rcases p with e|e
      ·cases e;exact m0
      ·cases e
    by_cases ep:z="place"
    ·refine#[9,8,9,bT (jL (kI V.str ep)) (iteT ?_)];exact am (λx=>.place v x) (λx=>ep.symm) (λx=>rfl) λx h=>#[F,h]
    ·have es:=e1.resolve_left ep;refine#[9,8,9,aX (jI λe=>ep (V.str.inj e)) #[9,8,9,bT (jL (kI V.str es)) ?_]];exact am (λx=>.send v x) (λx=>es.symm) (λx=>rfl) λx h=>#[F,h]
   ·have n1:z≠"place":=λe=>e1 (.inl e);have X:z≠"send":=λe=>e1 (.inr e);refine#[9,8,9,aX (jI λe=>n1 (V.str.inj e)) #[9,8,9,aX (jI λe=>X (V.str.inj e)) ?_]]
    have one:∀(r:Rw),r.hd=z->r.cs=[]->r.ok->tRet (tLst (iB (i9 5) tNil)) {nx:=λx B=>Q V.non B,rt:=Q} [some (.int c),some (.ref l),some (.bl b),some (.int G),some (.int I),some (.str z),none,none] H2:=λr h1 U h3=>by
     refine#[9,zL1,λq W=>?_];refine k q _ r (s2.trans (aI W)) #[[],by rw[h1];exact aC,by rw[U];exact RowAt.nil] h3 ?_;intro z p;rw[U]at p
     cases p
    by_cases ec:z="cost"
    ·exact#[9,8,9,bT (jL (kI V.str ec)) (iteT (one .cost ec.symm rfl trivial))]
    by_cases ek:z="look"
    ·exact#[9,8,9,aX (jI λe=>ec (V.str.inj e)) #[9,8,9,bT (jL (kI V.str ek)) (one .look ek.symm rfl trivial)]]
    refine#[9,8,9,aX (jI λe=>ec (V.str.inj e)) #[9,8,9,aX (jI λe=>ek (V.str.inj e)) ?_]];refine#[9,9,9,7,i5,l,_,7,ai,J,zL2,λq W=>?_]
    have two:∀(r:Rw),r.hd=z->r.cs=[.nm v]->r.ok->Q (.ref q) (upd H2 q (.lst [.str z,.str v])):=λr h1 U h3=>by
     refine k q _ r (s2.trans (aI W)) #[[.str v],by rw[h1];exact aC,by rw[U];exact RowAt.nil.snoc (x:=Wd.nm v) rfl] h3 ?_;intro z p n e;rw[U]at p;subst e
     cases li.mp p;exact m0
    simp only[words12,jR,jV,lN]at p;rcases p with e|e|e|e|e|e|e|e|e|e|e|e
    ·exact absurd e n1
    ·exact absurd e n1
    ·exact absurd e ew
    ·exact absurd e ew
    ·exact absurd e ew
    ·exact two (.drop v) e.symm rfl F
    ·exact absurd e X
    ·exact absurd e X
    ·exact two (.amount v) e.symm rfl F
    ·exact two (.sum v) e.symm rfl F
    ·exact absurd e ec
    ·exact absurd e ek
abbrev KpM(d0 d1 d2:Addr)(H H':Hp):Prop:=∀b o,H b=some o->b≠d0->b≠d1->b≠d2->H' b=some o
def PartsAt.way(h:PartsAt H l (.way n s g x hh c)):∃tx vh tc,H l=some (.lst [.str "way",.str n,.str s,.str g,.ref tx,vh,.ref tc])/\H tx=some (.tup [.int x.num,.int (x.den:Int)])/\HiP H vh hh/\H tc=some (.tup [.int c.num,.int (c.den:Int)]):=by
 let#[o,e,k]:=h
 obtain⟨i,b,d,j,a,m,rfl⟩:∃i b d j a m,o=[i,b,d,j,a,m]:=by
  match o,k.1 with
  |[i,b,d,j,a,m],_=>exact#[_,_,_,_,_,9]
 obtain rfl:i=.str n:=k.2 0 _ _ rfl rfl;obtain rfl:b=.str s:=k.2 1 _ _ rfl rfl;obtain rfl:d=.str g:=k.2 2 _ _ rfl rfl;let#[q,8,f]:=k.2 3 _ _ rfl rfl;have p:PaIs H a (hiW hh):=k.2 4 _ _ rfl rfl;let#[c,8,r]:=k.2 5 _ _ rfl rfl;refine#[q,a,c,e,f,?_,r]
 cases hh with
 |none=>exact p
 |some y=>exact p
def PartsAt.two(e0:r.cs=[.nm n,.fr x])(h:PartsAt H l r):∃q,H l=some (.lst [.str r.hd,.str n,.ref q])/\H q=some (.tup [.int x.num,.int (x.den:Int)]):=by
 let#[c,e,k]:=h;rw[e0]at k
 obtain⟨a,b,rfl⟩:∃a b,c=[a,b]:=by
  match c,k.1 with
  |[a,b],_=>exact#[_,9]
 obtain rfl:a=.str n:=k.2 0 _ _ rfl rfl;let#[q,8,f]:=k.2 1 _ _ rfl rfl;exact#[q,e,f]
def PartsAt.one(e0:r.cs=[.nm n])(h:PartsAt H l r):H l=some (.lst [.str r.hd,.str n]):=by
 let#[b,e,k]:=h;rw[e0]at k
 obtain⟨a,rfl⟩:∃a,b=[a]:=by
  match b,k.1 with
  |[a],_=>exact#[9]
 obtain rfl:a=.str n:=k.2 0 _ _ rfl rfl;exact e
def PartsAt.nil0(e0:r.cs=[])(h:PartsAt H l r):H l=some (.lst [.str r.hd]):=by
 let#[a,e,k]:=h;rw[e0]at k;obtain rfl:a=[]:=List.eq_nil_of_length_eq_zero k.1;exact e
def MdAt.p0(M:MdAt H m d0 d1 d2 S ms B)(hd:H d0=some (.dK kv))(t:Tab PrIs (upd H d0 (.dK kv')) kv' ks' f'):MdAt (upd H d0 (.dK kv')) m d0 d1 d2 {S with ks:=ks',f:=f'} ms B:=by
 let#[d,j,i]:=M.t1;let#[h,c,l]:=M.t2;have a:But d0 H (upd H d0 (.dK kv')):=λb o e ne=>by rw[aG ne];exact e
 exact#[a _ _ M.hm (bK M.hm hd (by intro z;cases z)),#[_,aC,t],#[d,a _ _ j M.n01.symm,i.mono λv y z=>WyIs.but z hd a],#[h,a _ _ c M.n02.symm,l.mono λv y z=>PrIs.but z hd a],M.n01,M.n02,M.n12]
def MdAt.p1(M:MdAt H m d0 d1 d2 S ms B)(hd:H d1=some (.dK kv))(t:Tab WyIs (upd H d1 (.dK kv')) kv' ws' g'):MdAt (upd H d1 (.dK kv')) m d0 d1 d2 {S with ws:=ws',g:=g'} ms B:=by
 let#[j,l,h]:=M.t0;let#[d,c,i]:=M.t2;have a:But d1 H (upd H d1 (.dK kv')):=λb o e ne=>by rw[aG ne];exact e
 exact#[a _ _ M.hm (bK M.hm hd (by intro z;cases z)),#[j,a _ _ l M.n01,h.mono λv y z=>PrIs.but z hd a],#[_,aC,t],#[d,a _ _ c M.n12.symm,i.mono λv y z=>PrIs.but z hd a],M.n01,M.n02,M.n12]
def MdAt.p2(M:MdAt H m d0 d1 d2 S ms B)(hd:H d2=some (.dK kv))(t:Tab PrIs (upd H d2 (.dK kv')) kv' ms' B'):MdAt (upd H d2 (.dK kv')) m d0 d1 d2 S ms' B':=by
 let#[j,l,i]:=M.t0;let#[c,h,d]:=M.t1;have a:But d2 H (upd H d2 (.dK kv')):=λb o e ne=>by rw[aG ne];exact e
 exact#[a _ _ M.hm (bK M.hm hd (by intro z;cases z)),#[j,a _ _ l M.n02,i.mono λv y z=>PrIs.but z hd a],#[c,a _ _ h M.n12,d.mono λv y z=>WyIs.but z hd a],#[_,aC,t],M.n01,M.n02,M.n12]
inductive IspWRow(vs:List V)(H:Hp)(Q:VK):Prop
 |mk(m d0 d1 d2 l:Addr)(S:DS)(ms:List Str)(B:Str->Rat)(n s g:Str)(x c:Rat)(hh:Option Rat)(h1:vs=[.ref m,.ref l])(h2:MdAt H m d0 d1 d2 S ms B)(h3:PartsAt H l (.way n s g x hh c))(h4:S.ws.length<=50)(h5:(S.due (.way n s g x hh c)=none->∀H',KpM d0 d1 d2 H H'->MdAt H' m d0 d1 d2 (S.next (.way n s g x hh c)) ms B->Q (.str "ok") H'))(h6:(∀y,S.due (.way n s g x hh c)=some y->∀q H',Same H H'->H' q=some (.tup (tupR y))->Q (.ref q) H')):IspWRow vs H Q
abbrev spWRow(a:Ad):Sp:=λvs H Q _=>IspWRow vs H Q
def ok_law_way_row(T:TX K mg a):FnB P w K mg base CX0 "_law_way_row" 2 ["_law_model","_law_parts_here"] (spWRow a):=by
 refine T.d_law_way_row.ok sc_law_way_row (λvs H Q E h=>?_) (λf af A ae s H vs Q E hr h=>?_)
 ·let#[_,_,_,_,_,_,_,_,_,_,_,_,_,_,8,_]:=h;rfl
 ·let#[m,d0,d1,d2,l,S,ms,B,n,j,d,x,c,G,8,M,hp,lw,k,kx]:=h;refine'#[_,bH ?s0 ?r0,?kk]
  case s0=>exact(aW (PW.pt (gL (aK bL (aN aU (pv 1) aF (λ_ _=>rfl)) (aN aU (pv 1) aF (λ_ _=>rfl)) (aS _)) (gL (aK op_le (aN bA (aN aU (pv 1) aF (λ_ _=>rfl)) aF (λ_ _=>rfl)) aF (aS _)) (hF (PW.pt (d9 (aK fH (aN aU (pv 1) aF (λ_ _=>rfl)) cB (aS _)) (dP (aK iL (aN bA (aN aU (pv 1) aF (λ_ _=>rfl)) aF (λ_ _=>rfl)) aF (aS _))))))))) (aE (aM (cH (aA aT aD)))) aJ)
  case' r0=>refine' bH ?s1 ?r1
  case s1=>exact(cS kl rfl (cU (hJ sl_list (pv 1) (gv aF) (gv aF))) (bD (i:=2) sc_law_way_row.nd rfl (Or.inl rfl)) (aE (aW (eC (cZ (cA hr) (pv 2) (aN bA (pv 0) aF (λ_ _=>rfl)))) (aE (aM (cH (aA aT (aA (pv 2) aD))))) aJ)))
  case' r1=>refine' aB ?s2 ?r2
  case s2=>exact(dm (cA hr) (aN bA (pv 0) aF (λ_ _=>rfl)) (aN aU (pv 1) aF (λ_ _=>rfl)) (bW iP (by rfl) T.z_tuple PyProof.Rows.boot_tuple (aA (hJ sl_list (pv 1) (gv aF) po_none) aD)) rfl)
  case r2=>exact aE (aM aT)
  try dsimp only[bF,Cx.nox,Cx.wish]
  generalize aa:tCut _ _=k9
  revert k9
  refine jv λk9 aa=>?_;let#[tx,r,D,hL,hx,L,hc]:=PartsAt.way hp;have U:=SqL.of (K:=K) hL;have hm:=SqT.of (K:=K) M.hm;let#[ag,h0,t0]:=M.t0;let#[ac,h1,t1]:=M.t1
  have bad:¬(Rw.way n j d x G c).good->S.due (.way n j d x G c)=some (0,("":Str)):=λe=>by
   unfold DS.due;rw[if_pos]
   cases h:fv (Rw.way n j d x G c).hd (Rw.way n j d x G c).kds (Rw.way n j d x G c).cs with
   |true=>rfl
   |false=>exact absurd (badRow_way.mp h) e
  have row:¬(Rw.way n j d x G c).good->tRet (tTup (iB (tC (V.str "row")) tNil)) {nx:=λx X=>Q V.non X,rt:=Q} [some (.ref m),some (.ref l),none] H:=λe=>
   #[zL1,λq nq=>kx _ (bad e) q _ (aI nq) aC]
  subst aa;refine dX (λσ' X=>σ'=[some (.ref m),some (.ref l),none]/\X=H/\(Rw.way n j d x G c).good) ?_ ?_
  ·refine#[9,l,_,7,U,8,9,l,_,7,U,8,8,9,?_];by_cases e1:j=d
   ·exact bT (jL (kI V.str e1)) (iteT (row λg=>g.1 e1))
   refine aX (jI λz=>e1 (V.str.inj z)) ?_;refine#[9,l,_,7,U,8,tx,_,7,SqT.of hx,8,7,9,?_];by_cases e2:x.num<=0
   ·exact bT (jL e2) (iteT (row λg=>by have:=g.2.1;omega))
   refine aX (jI e2) ?_
   cases G with
   |none=>
    obtain rfl:r=.non:=L;exact#[9,l,_,7,U,8,8,9,iO rfl (iteF #[8,8,e1,by omega,λy e=>by cases e])]
   |some y=>
    let#[th,8,R]:=L;have R:H th=some (.tup [.int y.num,.int (y.den:Int)]):=R;refine#[9,l,_,7,U,8,8,9,bT rfl ?_];refine#[9,l,_,7,U,8,th,_,7,SqT.of R,8,7,9,?_];by_cases e3:y.num<0
    ·exact bT (jL e3) (row λg=>by have:=g.2.2 y rfl;omega)
    ·exact aX (jI e3) #[8,8,e1,by omega,λu e=>by cases e;omega]
  rintro zU N σ' H0⟨rfl,rfl,gd⟩
  have due:S.due (.way n j d x G c)=(if j∈S.ks then if d∈S.ks then none else some (1,d) else some (1,j)):=by
   unfold DS.due;rw[if_neg]
   ·rfl
   ·rw[badRow_way.mpr gd];decide
  subst N;refine dX (λσ' X=>∃Z,σ'=[some (.ref m),some (.ref l),Z]/\Same H0 X/\j∈S.ks/\d∈S.ks) ?_ ?_
  ·refine#[9,9,9,l,9,U,λq nq=>?_];have ec:cutV [.str "way",.str n,.str j,.str d,.ref tx,r,.ref D] (some 2) (some 4)=[.str j,.str d]:=rfl;rw[ec];let#[H1,zq,F,hq]:=uG (o:=.lst [.str j,.str d]) nq;rw[zq]
   have miss:∀z,¬z∈S.ks->S.due (.way n j d x G c)=some (1,z)->tRet (tTup (iB (tC (V.str "place")) (iB (i9 2) tNil))) {nx:=λx X=>Q V.non X,rt:=Q} [some (.ref m),some (.ref l),some (.str z)] H1:=λz _ e=>
    #[9,zL2,λq2 ab=>kx _ e q2 _ (F.trans (aI ab)) aC]
   refine#[q,8,#[_,SqL.of hq],c8 (K:=K) (a:=q) (xs:=[.str j,.str d]) (λi σ O=>i<=2/\∃Z,σ=[some (.ref m),some (.ref l),Z]/\O=H1/\(1<=i->j∈S.ks)/\(2<=i->d∈S.ks)) #[5,none,8,8,λh=>absurd h (by decide),λh=>absurd h (by decide)] (λi σ O _⟨_,_,_,e,_⟩=>by rw[e];exact SqL.of hq) ?_ ?_]
   ·rintro i y σ O hy⟨_,Z,rfl,rfl,i1,i2⟩
    match i,hy with
    |0,hy=>
     obtain rfl:.str j=y:=kh hy;refine#[9,9,m,_,7,SqT.of (F _ _ M.hm),8,d0,9,DGet.k (k:=Sum.inr j) (F _ _ h0),9,?_];by_cases I:j∈S.ks
     ·let#[v,ev,_]:=t0.vals j I;rw[ev];exact iteF #[5,9,8,λ_=>I,λh=>absurd h (by decide)]
     ·rw[t0.none I];exact iteT (miss j I (by rw[due,if_neg I]))
    |1,hy=>
     have I:=i1 (jJ _);obtain rfl:.str d=y:=kh hy;refine#[9,9,m,_,7,SqT.of (F _ _ M.hm),8,d0,9,DGet.k (k:=Sum.inr d) (F _ _ h0),9,?_];by_cases Y:d∈S.ks
     ·let#[v,ev,_]:=t0.vals d Y;rw[ev];exact iteF #[5,9,8,λ_=>I,λ_=>Y]
     ·rw[t0.none Y];exact iteT (miss d Y (by rw[due,if_pos I,if_neg Y]))
   ·rintro σ O⟨_,Z,rfl,rfl,i1,i2⟩;exact#[Z,8,F,i1 (Nat.le_succ 1),i2 (jJ 2)]
  rintro zU N σ' H1⟨Z,rfl,F,I,Y⟩;subst N;rw[due,if_pos I,if_pos Y]at k;have ad:=F _ _ hL;refine#[9,9,l,9,SqL.of ad,λq nq=>?_];have ec:cutV [.str "way",.str n,.str j,.str d,.ref tx,r,.ref D] (some 2) none=[.str j,.str d,.ref tx,r,.ref D]:=rfl;rw[ec];let#[O,zq,s2,hq]:=uG (o:=.lst [.str j,.str d,.ref tx,r,.ref D]) nq;rw[zq];refine#[q,9,.inl #[SqL.of hq,λt nt=>?_]];let#[H3,zq,s3,ht]:=uG (o:=.tup [.str j,.str d,.ref tx,r,.ref D]) nt;rw[zq];have p:=F.trans (s2.trans s3);have J:=p _ _ h1;have l1:=t1.len;refine#[9,m,_,7,SqT.of (p _ _ M.hm),8,9,l,_,7,SqL.of (p _ _ hL),8,d1,9,DPut.k (k:=Sum.inr n) J (bB (by omega)),?_];have M3:=M.mono p;have W:WyIs H3 (.ref t) #[n,j,d,.gro,x,G,c]:=#[t,.ref tx,r,.ref D,8,ht,#[tx,8,p _ _ hx],L.mono p,#[D,8,p _ _ hc]];have kb:But d1 H3 (upd H3 d1 (.dK (bX ac (Sum.inr n) (.ref t)))):=λb o e ne=>by rw[aG ne];exact e
  exact k rfl _ (λb o e n0 n1 n2=>kb _ _ (p _ _ e) n1) (M3.p1 J (Tab.put ((t1.mono λv y z=>WyIs.mono z p).mono λv y z=>WyIs.but z J kb) (WyIs.but W J kb)))
def badRow_not{r:Rw}(h:∀n s g x h c,r≠.way n s g x h c):fv r.hd r.kds r.cs=false:=by
 have a:∀x:Rat,(Wd.fr x).bad "fraction"=false:=λx=>by
  show(decide (("fraction":Str)="gain"/\x.num<=0)||decide (("fraction":Str)="high"/\x.num<0))=false;rw[jI (λh=>absurd h.1 (by decide)),jI (λh=>absurd h.1 (by decide))];rfl
 cases r with
 |way n s g x hi c=>exact absurd rfl (h n s g x hi c)
 |place n x=>
  show((false||((Wd.fr x).bad "fraction"||false))||false)=false;rw[a];rfl
 |send n x=>
  show((false||((Wd.fr x).bad "fraction"||false))||false)=false;rw[a];rfl
 |drop n=>rfl
 |amount n=>rfl
 |sum n=>rfl
 |cost=>rfl
 |look=>rfl
def amt_off(ks:List Str)(A:Str->Rat)(n m:Str):aO (ia ks n) A m=if m=n then 0 else aO ks A m:=by
 unfold aO;by_cases e:m=n
 ·rw[if_neg (λh=>(mem_offK.mp h).2 e),if_pos e]
 ·rw[if_neg e];by_cases h:m∈ks
  ·rw[if_pos h,if_pos (mem_offK.mpr #[h,e])]
  ·rw[if_neg h,if_neg (λz=>h (mem_offK.mp z).1)]
def amt_add(ks:List Str)(A:Str->Rat)(n:Str)(x:Rat)(m:Str):aO (eO ks n) (upf A n x) m=if m=n then x else aO ks A m:=by
 unfold aO;by_cases e:m=n
 ·subst e;rw[if_pos (mem_addK.mpr (.inr rfl)),if_pos rfl,dL]
 ·rw[if_neg e,eZ e];by_cases h:m∈ks
  ·rw[if_pos h,if_pos (mem_addK.mpr (.inl h))]
  ·rw[if_neg h,if_neg λz=>(mem_addK.mp z).elim h e]
def amt_some0(ks:List Str)(A:Str->Rat)(m:Str):aO (fz A ks) A m=aO ks A m:=by
 unfold aO fz;by_cases h:m∈ks
 ·by_cases e:A m=0
  ·rw[if_neg (λz:m∈ks.filter _=>absurd e (kG (kL.mp z).2)),if_pos h,e]
  ·rw[if_pos (kL.mpr #[h,jL e]),if_pos h]
 ·rw[if_neg λz=>h (kL.mp z).1,if_neg h]
def SOk.costBd(so:SOk S):Bd 1403 (S.as.map λn=>(S.g n).co*S.A n).sum:=by
 have b:∀n∈S.as,Bd 60 ((S.g n).co*S.A n):=λn a=>(((so.sg n (so.sub n a)).2.1).bd.mul (so.sA n a).bd).mono (by decide);have la:=so.la;exact(bd_sum (bdS_map b)).mono ()
inductive IspAns(vs:List V)(H:Hp)(Q:VK):Prop
 |mk(m d0 d1 d2 l:Addr)(S:DS)(ms:List Str)(B:Str->Rat)(r:Rw)(h1:vs=[.ref m,.ref l])(h2:MdAt H m d0 d1 d2 S ms B)(h3:MOk S ms B)(h4:ms.length<=50)(h5:PartsAt H l r)(h6:r.ok)(h7:(∀n,n∈S.ks∨n∈S.ws->n.length<=8))(h8:(S.due r=none->∀H' ms' B',KpM d0 d1 d2 H H'->MdAt H' m d0 d1 d2 (S.next r) ms' B'->(∀n,aO ms' B' n=aO (S.next r).as (S.next r).A n)->ms'.Nodup->(∀z∈ms',z∈ms∨z∈S.ws)->Q (.str (S.tell r)) H'))(h9:(∀y,S.due r=some y->∀q H',Same H H'->H' q=some (.tup (tupR y))->Q (.ref q) H')):IspAns vs H Q
abbrev spAns(a:Ad):Sp:=λvs H Q _=>IspAns vs H Q
def ok_law_answer(T:TX K mg a):FnB P w K mg base CX0 "_law_answer" 7 ["_law_model","_law_parts_here"] (spAns a):=by
 refine T.d_law_answer.ok sc_law_answer (λvs H Q E h=>?_) (λf aj A ai s H vs Q E hr h=>?_)
 ·let#[_,_,_,_,_,_,_,_,_,8,_]:=h;rfl
 ·let#[m,U,L,N,l,S,O,B,r,8,M,p,lm,hp,ok,ln,k,kx]:=h;refine'#[_,aB ?s0 ?r0,?kk]
  case s0=>exact(aR (i:=2) sc_law_answer.nd rfl (Or.inl rfl) (aN aU (pv 1) aF (λ_ _=>rfl)))
  case' r0=>refine' aB ?s1 ?r1
  case s1=>exact(aW (aK bL (pv 2) aT (aS _)) (aE (aM (aZ (ok_law_way_row T) hr aL (aA (pv 0) (aA (pv 1) aD))))) aJ)
  case' r1=>refine' aB ?s2 ?r2
  case s2=>exact(aW (aK bL (pv 2) aT (aS _)) (aB (dm (cA hr) (aN bA (pv 0) aF (λ_ _=>rfl)) (aN aU (pv 1) aF (λ_ _=>rfl)) (aN aU (pv 1) aF (λ_ _=>rfl)) rfl)
   (aE (aM aT))) aJ)
  case' r2=>refine' aB ?s3 ?r3
  case s3=>exact(aW (PW.pt (d9 (aK im (pv 2) (dj (aA aT (aA aT (aA aT aD)))) (by with_unfolding_all rfl)) (dP (eC (cZ (cA hr) (aN aU (pv 1) aF (λ_ _=>rfl)) (aN bA (pv 0) aF (λ_ _=>rfl))))))) (aE (aM (cH (aA aT (aA (aN aU (pv 1) aF (λ_ _=>rfl)) aD))))) aJ)
  case' r3=>refine' aB ?s4 ?r4
  case s4=>exact(aW (PW.pt (d9 (aK bL (pv 2) aT (aS _)) (dP (eC (cZ (cA hr) (aN aU (pv 1) aF (λ_ _=>rfl)) (aN bA (pv 0) aF (λ_ _=>rfl))))))) (aE (aM (cH (aA aT (aA (aN aU (pv 1) aF (λ_ _=>rfl)) aD))))) aJ)
  case' r4=>refine' aB ?s5 ?r5
  case s5=>exact(aW (aK bL (pv 2) aT (aS _)) (aB (bG (pe_dpop1 (aN bA (pv 0) aF (λ_ _=>rfl)) (aN aU (pv 1) aF (λ_ _=>rfl)) #[8,8,8,8]))
   (aB (bG (dr kF PySem.F.slot_dict_pop PySem.F.type_dict_pop mt_dpop (aN bA (pv 0) aF (λ_ _=>rfl)) (aA (aN aU (pv 1) aF (λ_ _=>rfl)) (aA cB aD))))
   (aE (aM aT)))) aJ)
  case' r5=>refine' aB ?s6 ?r6
  case s6=>exact(aW (aK bL (pv 2) aT (aS _)) (aB (dm (cA hr) (aN bA (pv 0) aF (λ_ _=>rfl)) (aN aU (pv 1) aF (λ_ _=>rfl)) (aN aU (pv 1) aF (λ_ _=>rfl)) rfl)
   (aE (aM aT))) aJ)
  case' r6=>refine' aB ?s7 ?r7
  case s7=>exact(aW (aK bL (pv 2) aT (aS _)) (aE (aM (aZ (fJ T) hr aL (aA (aZ (fK T) hr aL (aA (pv 0) (aA (aN aU (pv 1) aF (λ_ _=>rfl)) aD))) aD)))) aJ)
  case' r7=>refine' aB ?s8 ?r8
  case s8=>exact(aW (aK bL (pv 2) aT (aS _)) (aE (aM (aZ (fJ T) hr aL (aA (aZ (ok_law_gone T) hr aL (aA (pv 0) (aA (aN aU (pv 1) aF (λ_ _=>rfl)) aD))) aD)))) aJ)
  case' r8=>refine' aB ?s9 ?r9
  case s9=>exact(aW (aK bL (pv 2) aT (aS _)) (aE (aM (aZ (fJ T) hr aL (aA (aZ (ok_law_paid T) hr aL (aA (pv 0) aD)) aD)))) aJ)
  case r9=>exact aE (aM (aZ (ok_law_faults T) hr aL (aA (pv 0) aD)))
  try dsimp only[bF,Cx.nox,Cx.wish]
  have hm:=SqT.of (K:=K) M.hm;let#[ah,h0,t0]:=M.t0;let#[ae,h1,t1]:=M.t1;let#[Z,h2,t2]:=M.t2;have l0:=t0.len;have l1:=t1.len;have l2:=t2.len;have lk:=p.so.lk;have lw:=p.so.lw
  have D:∀r:Rw,(∀n s g x h c,r≠.way n s g x h c)->S.due r=S.miss r:=λr h=>by
   unfold DS.due;rw[if_neg];rw[badRow_not h];exact j2
  cases r with
  |way n st go x hh c=>
   let#[tx,vh,tc,I,_]:=PartsAt.way hp;refine#[9,l,_,7,SqL.of I,8,?_];refine#[9,8,9,bT (by decide) ?_];exact#[9,9,m,U,L,N,l,S,O,B,n,st,go,x,c,hh,8,M,hp,by omega,λe H' kp M'=>k e H' O B kp M' p.am p.nm λz h=>.inl h,kx]
  |place n x=>
   obtain⟨q,I,hq⟩:∃q,H l=some (.lst [.str "place",.str n,.ref q])/\_:=PartsAt.two rfl hp;have X:=SqL.of (K:=K) I;refine#[9,l,_,7,X,8,?_];refine#[9,8,9,aX (by decide) ?_];refine#[9,8,9,bT (by decide) ?_];refine#[9,l,_,7,X,8,9,m,_,7,hm,8,9,l,_,7,X,8,U,9,DPut.k (k:=Sum.inr n) h0 (bB (by omega)),?_];have Y:But U H (upd H U (.dK (bX ah (Sum.inr n) (.ref q)))):=λb o e ne=>by rw[aG ne];exact e
   exact k (D _ λ_ _ _ _ _ _ z=>by cases z) _ O B (λb o e n0 n1 n2=>Y _ _ e n0) (M.p0 h0 (Tab.put (t0.mono λv y z=>PrIs.but z h0 Y) (PrIs.but #[q,8,hq] h0 Y))) p.am p.nm λz h=>.inl h
  |drop n=>
   have I:H l=some (.lst [.str "drop",.str n]):=PartsAt.one rfl hp;have X:=SqL.of (K:=K) I;have u:=D (.drop n) λ_ _ _ _ _ _ z=>by cases z
   refine#[9,l,_,7,X,8,?_];refine#[9,8,9,aX (by decide) ?_];refine#[9,8,9,aX (by decide) ?_];refine#[9,zL3,λt nt=>?_];let#[W,zq,d,R]:=uG (o:=.lst [.str "drop",.str "send",.str "amount"]) nt;rw[zq];have j:=SqL.of (K:=K) (d _ _ I);have G:=SqT.of (K:=K) (d _ _ M.hm);have M1:=M.mono d;have ab:KpM U L N H W:=λb o e _ _ _=>d _ _ e;refine#[t,9,.inl (SqL.of R),8,5,9,bT (by decide) ?_];refine#[9,l,_,7,j,8,9,m,_,7,G,8,L,9,DGet.k (k:=Sum.inr n) (d _ _ h1),9,?_];by_cases J:n∈S.ws
   case neg=>
    rw[t1.none J];exact iteT #[9,l,_,7,j,8,zL2,λq nq=>kx _ (u.trans (if_neg J)) q _ (d.trans (aI nq)) aC]
   have u:=u.trans (if_pos J);let#[v,ev,_]:=t1.vals n J;rw[ev];refine iteF ?_;refine#[9,8,9,aX (by decide) (iteF ?_)];refine#[9,8,9,bT (by decide) ?_];have ac:=d _ _ h1;refine#[9,m,_,7,G,8,L,8,.inl #[ae,.inl ac],9,l,_,7,j,8,ae,Sum.inr n,v,ac,8,ev,?_];have Y:But L W (upd W L (.dK (cO ae (Sum.inr n)))):=λb o e ne=>by rw[aG ne];exact e
   have M2:=M1.p1 ac (Tab.off (n:=n) (t1.mono λv y z=>WyIs.but (z.mono d) ac Y));have ag:=SqL.of (K:=K) (Y _ _ (d _ _ I) (bK (d _ _ I) ac (by intro z;cases z)));have aa:=Y _ _ (d _ _ h2) M.n12.symm;generalize upd W L (.dK (cO ae (Sum.inr n)))=H2 at Y M2 ag aa⊢;have cv:∀{H3:Hp}{ms':List Str},MdAt H3 m U L N {S with ws:=ia S.ws n} ms' B->MdAt H3 m U L N (S.next (.drop n)) ms' B:=λM=>#[M.hm,M.t0,M.t1,M.t2,M.n01,M.n02,M.n12];refine#[9,m,_,7,SqT.of M2.hm,8,.inr (.inr (.inl #[8,.inl #[Z,aa]])),9,l,_,7,ag,8,N,Z,Sum.inr n,.non,8,8,aa,λv e=>?_,λe=>?_]
   ·have af:But N H2 (upd H2 N (.dK (cO Z (Sum.inr n)))):=λb o e ne=>by rw[aG ne];exact e
    have tb:Tab PrIs H2 Z O B:=by
     let#[ak,e',t']:=M2.t2;rw[aa]at e'
     cases e';exact t'
    refine k u _ (ia O n) B (λb o e n0 n1 n2=>af _ _ (Y _ _ (d _ _ e) n1) n2) (cv (M2.p2 aa (Tab.off (n:=n) (tb.mono λv y z=>PrIs.but z aa af)))) (λz=>?_) (List.Pairwise.filter _ p.nm) λz h=>.inl (mem_offK.mp h).1;show aO (ia O n) B z=aO (ia S.as n) S.A z;rw[amt_off,amt_off,p.am]
   ·have nn:¬n∈O:=λJ=>by
     let#[v,ev,_]:=t2.vals n J;rw[ev]at e
     cases e
    refine k u _ O B (λb o e n0 n1 n2=>Y _ _ (d _ _ e) n1) (cv M2) (λz=>?_) p.nm λz h=>.inl h;show aO O B z=aO (ia S.as n) S.A z;rw[<-offK_not nn,amt_off,amt_off,p.am]
  |send n x=>
   obtain⟨q,I,hq⟩:∃q,H l=some (.lst [.str "send",.str n,.ref q])/\_:=PartsAt.two rfl hp;have X:=SqL.of (K:=K) I;have u:=D (.send n x) λ_ _ _ _ _ _ z=>by cases z
   refine#[9,l,_,7,X,8,?_];refine#[9,8,9,aX (by decide) ?_];refine#[9,8,9,aX (by decide) ?_];refine#[9,zL3,λt nt=>?_];let#[W,zq,d,R]:=uG (o:=.lst [.str "drop",.str "send",.str "amount"]) nt;rw[zq];have j:=SqL.of (K:=K) (d _ _ I);have G:=SqT.of (K:=K) (d _ _ M.hm);have M1:=M.mono d;have ab:KpM U L N H W:=λb o e _ _ _=>d _ _ e;refine#[t,9,.inl (SqL.of R),8,5,9,bT (by decide) ?_];refine#[9,l,_,7,j,8,9,m,_,7,G,8,L,9,DGet.k (k:=Sum.inr n) (d _ _ h1),9,?_];by_cases J:n∈S.ws
   case neg=>
    rw[t1.none J];exact iteT #[9,l,_,7,j,8,zL2,λq nq=>kx _ (u.trans (if_neg J)) q _ (d.trans (aI nq)) aC]
   have u:=u.trans (if_pos J);let#[v,ev,_]:=t1.vals n J;rw[ev];refine iteF ?_;refine#[9,8,9,aX (by decide) (iteF ?_)];refine#[9,8,9,aX (by decide) ?_];refine#[9,8,9,bT (by decide) ?_];have ad:=d _ _ h2;refine#[9,l,_,7,j,8,9,m,_,7,G,8,9,l,_,7,j,8,N,9,DPut.k (k:=Sum.inr n) ad (bB (by omega)),?_];have Y:But N W (upd W N (.dK (bX Z (Sum.inr n) (.ref q)))):=λb o e ne=>by rw[aG ne];exact e
   have M2:=M1.p2 ad (Tab.put (t2.mono λv y z=>PrIs.but (PrIs.mono z d) ad Y) (PrIs.but #[q,8,d _ _ hq] ad Y));refine k u _ (eO O n) (upf B n x) (λb o e n0 n1 n2=>Y _ _ (d _ _ e) n2) #[M2.hm,M2.t0,M2.t1,M2.t2,M2.n01,M2.n02,M2.n12] (λz=>?_) (fm p.nm) λz h=>(mem_addK.mp h).imp id λe=>by rw[e];exact J
   show aO (eO O n) (upf B n x) z=aO (fz (upf S.A n x) (eO S.as n)) (upf S.A n x) z;rw[amt_some0,amt_add,amt_add,p.am]
  |amount n=>
   have I:H l=some (.lst [.str "amount",.str n]):=PartsAt.one rfl hp;have X:=SqL.of (K:=K) I;have u:=D (.amount n) λ_ _ _ _ _ _ z=>by cases z
   refine#[9,l,_,7,X,8,?_];refine#[9,8,9,aX (by decide) ?_];refine#[9,8,9,aX (by decide) ?_];refine#[9,zL3,λt nt=>?_];let#[W,zq,d,R]:=uG (o:=.lst [.str "drop",.str "send",.str "amount"]) nt;rw[zq];have j:=SqL.of (K:=K) (d _ _ I);have G:=SqT.of (K:=K) (d _ _ M.hm);have M1:=M.mono d;have ab:KpM U L N H W:=λb o e _ _ _=>d _ _ e;refine#[t,9,.inl (SqL.of R),8,5,9,bT (by decide) ?_];refine#[9,l,_,7,j,8,9,m,_,7,G,8,L,9,DGet.k (k:=Sum.inr n) (d _ _ h1),9,?_];by_cases J:n∈S.ws
   case neg=>
    rw[t1.none J];exact iteT #[9,l,_,7,j,8,zL2,λq nq=>kx _ (u.trans (if_neg J)) q _ (d.trans (aI nq)) aC]
   have u:=u.trans (if_pos J);let#[v,ev,_]:=t1.vals n J;rw[ev];refine iteF ?_;refine#[9,8,9,aX (by decide) (iteF ?_)];refine#[9,8,9,aX (by decide) ?_];refine#[9,8,9,aX (by decide) ?_];refine#[9,8,9,bT (by decide) ?_];exact#[9,9,l,_,7,j,8,m,U,L,N,n,Z,O,B,8,d _ _ M.hm,.inl (d _ _ h2),t2.mono λv y z=>PrIs.mono z d,λv H2 s2 hv=>#[v,aO S.as S.A n,30,8,by rw[<-p.am];exact hv,(p.so.amt n).bd,5,k u H2 O B (λb o e _ _ _=>s2 _ _ (d _ _ e)) (M1.mono s2) p.am p.nm λz h=>.inl h]]
  |sum n=>
   have I:H l=some (.lst [.str "sum",.str n]):=PartsAt.one rfl hp;have X:=SqL.of (K:=K) I;have u:=D (.sum n) λ_ _ _ _ _ _ z=>by cases z
   refine#[9,l,_,7,X,8,?_];refine#[9,8,9,aX (by decide) ?_];refine#[9,8,9,aX (by decide) ?_];refine#[9,zL3,λt nt=>?_];let#[W,zq,d,R]:=uG (o:=.lst [.str "drop",.str "send",.str "amount"]) nt;rw[zq];have j:=SqL.of (K:=K) (d _ _ I);have G:=SqT.of (K:=K) (d _ _ M.hm);have M1:=M.mono d;have ab:KpM U L N H W:=λb o e _ _ _=>d _ _ e;refine#[t,9,.inl (SqL.of R),8,5,9,aX (by decide) (iteF ?_)];refine#[9,8,9,bT (by decide) ?_];refine#[9,l,_,7,j,8,9,m,_,7,G,8,U,9,DGet.k (k:=Sum.inr n) (d _ _ h0),9,?_];by_cases J:n∈S.ks
   case neg=>
    rw[t0.none J];exact iteT #[9,l,_,7,j,8,zL2,λq nq=>kx _ (u.trans (if_neg J)) q _ (d.trans (aI nq)) aC]
   have u:=u.trans (if_pos J);let#[v,ev,_]:=t0.vals n J;rw[ev];refine iteF ?_;refine#[9,8,9,aX (by decide) ?_];refine#[9,8,9,aX (by decide) ?_];refine#[9,8,9,aX (by decide) ?_];refine#[9,8,9,bT (by decide) ?_];exact#[9,9,l,_,7,j,8,m,U,L,N,n,S,O,B,8,M1.g,p,λv H2 s2 hv=>#[v,_,1403,8,hv,p.so.sumBd n,5,k u H2 O B (λb o e _ _ _=>s2 _ _ (d _ _ e)) (M1.mono s2) p.am p.nm λz h=>.inl h]]
  |cost=>
   have I:H l=some (.lst [.str "cost"]):=PartsAt.nil0 rfl hp;have X:=SqL.of (K:=K) I;have u:=D (.cost) λ_ _ _ _ _ _ z=>by cases z
   refine#[9,l,_,7,X,8,?_];refine#[9,8,9,aX (by decide) ?_];refine#[9,8,9,aX (by decide) ?_];refine#[9,zL3,λt nt=>?_];let#[W,zq,d,R]:=uG (o:=.lst [.str "drop",.str "send",.str "amount"]) nt;rw[zq];have j:=SqL.of (K:=K) (d _ _ I);have G:=SqT.of (K:=K) (d _ _ M.hm);have M1:=M.mono d;have ab:KpM U L N H W:=λb o e _ _ _=>d _ _ e;refine#[t,9,.inl (SqL.of R),8,5,9,aX (by decide) (iteF ?_)];refine#[9,8,9,aX (by decide) (iteF ?_)];refine#[9,8,9,aX (by decide) ?_];refine#[9,8,9,aX (by decide) ?_];refine#[9,8,9,aX (by decide) ?_];refine#[9,8,9,aX (by decide) ?_];refine#[9,8,9,bT (by decide) ?_];exact#[9,m,U,L,N,S,O,B,8,M1,p,λv H2 s2 hv=>#[v,_,1403,8,hv,p.so.costBd,5,k u H2 O B (λb o e _ _ _=>s2 _ _ (d _ _ e)) (M1.mono s2) p.am p.nm λz h=>.inl h]]
  |look=>
   have I:H l=some (.lst [.str "look"]):=PartsAt.nil0 rfl hp;have X:=SqL.of (K:=K) I;have u:=D (.look) λ_ _ _ _ _ _ z=>by cases z
   refine#[9,l,_,7,X,8,?_];refine#[9,8,9,aX (by decide) ?_];refine#[9,8,9,aX (by decide) ?_];refine#[9,zL3,λt nt=>?_];let#[W,zq,d,R]:=uG (o:=.lst [.str "drop",.str "send",.str "amount"]) nt;rw[zq];have j:=SqL.of (K:=K) (d _ _ I);have G:=SqT.of (K:=K) (d _ _ M.hm);have M1:=M.mono d;have ab:KpM U L N H W:=λb o e _ _ _=>d _ _ e;refine#[t,9,.inl (SqL.of R),8,5,9,aX (by decide) (iteF ?_)];refine#[9,8,9,aX (by decide) (iteF ?_)];refine#[9,8,9,aX (by decide) ?_];refine#[9,8,9,aX (by decide) ?_];refine#[9,8,9,aX (by decide) ?_];refine#[9,8,9,aX (by decide) ?_];refine#[9,8,9,aX (by decide) ?_];exact#[9,m,U,L,N,S,O,B,8,M1,p,ln,λH2 s2=>k u H2 O B (λb o e _ _ _=>s2 _ _ (d _ _ e)) (M1.mono s2) p.am p.nm λz h=>.inl h]
abbrev ItP(H:Hp)(v:V)(c:Str×Rat):Prop:=∃t u,v=.ref t/\H t=some (.tup [.str c.1,u])/\PrIs H u c.2
abbrev ItW(H:Hp)(v:V)(d:WD):Prop:=∃t u,v=.ref t/\H t=some (.tup [.str d.nm,u])/\WyIs H u d
def ItP.mono(h:ItP H v c)(s:Same H H'):ItP H' v c:=by
 let#[t,u,e,f,g]:=h;exact#[t,u,e,s _ _ f,g.mono s]
def ItW.mono(h:ItW H v c)(s:Same H H'):ItW H' v c:=by
 let#[t,u,e,f,g]:=h;exact#[t,u,e,s _ _ f,g.mono s]
structure ToldAt(a:Ad)(H:Hp)(t:Addr)(S:DS)(ms:List Str)(B:Str->Rat):Prop where
 x:∃q r u l0 l1 l2,H t=some (.tup [.ref q,.ref r,.ref u])/\H u=some (.tup [.ref l0,.ref l1,.ref l2])/\NetAt a H q S.ps S.ds/\(∃kv,H r=some (.dK kv)/\Tab (FrIs a) H kv S.as S.A)/\(∃ts,H l0=some (.lst ts)/\RowAt ItP H ts S.ps)/\(∃ts,H l1=some (.lst ts)/\RowAt ItW H ts S.ds)/\(∃ts,H l2=some (.lst ts)/\RowAt ItP H ts (ms.map λn=>(n,B n)))
def ToldAt.mono(h:ToldAt a H t S ms B)(s:Same H H'):ToldAt a H' t S ms B:=by
 let#[q,r,u,o,v,e,D,b,c,#[A,w,tb],#[i,F,p],#[d,y,m],#[j,l,E]]:=h.x;exact#[q,r,u,o,v,e,s _ _ D,s _ _ b,c.mono s,#[A,s _ _ w,tb.mono λ_ _ z=>FrIs.mono z s],#[i,s _ _ F,p.mono λ_ _ z=>z.mono s],#[d,s _ _ y,m.mono λ_ _ z=>z.mono s],#[j,s _ _ l,E.mono λ_ _ z=>z.mono s]]
def PrIs.tups(h:PrIs H v x)(k:∀b xs,H b=some (.tup xs)->H' b=some (.tup xs)):PrIs H' v x:=by
 let#[t,e,f]:=h;exact#[t,e,k _ _ f]
def HiP.tups(h:HiP H v o)(k:∀b xs,H b=some (.tup xs)->H' b=some (.tup xs)):HiP H' v o:=by
 cases o with
 |none=>exact h
 |some y=>exact PrIs.tups h k
def WyIs.tups(h:WyIs H v d)(k:∀b xs,H b=some (.tup xs)->H' b=some (.tup xs)):WyIs H' v d:=by
 let#[t',vg,vh,vc,e',f',g1,g2,g3]:=h;exact#[t',vg,vh,vc,e',k _ _ f',g1.tups k,g2.tups k,g3.tups k]
def ItP.tups(h:ItP H v c)(k:∀b xs,H b=some (.tup xs)->H' b=some (.tup xs)):ItP H' v c:=by
 let#[t,u,e,f,g]:=h;exact#[t,u,e,k _ _ f,g.tups k]
def ItW.tups(h:ItW H v c)(k:∀b xs,H b=some (.tup xs)->H' b=some (.tup xs)):ItW H' v c:=by
 let#[t,u,e,f,t',vg,vh,vc,e',f',g1,g2,g3]:=h;exact#[t,u,e,k _ _ f,t',vg,vh,vc,e',k _ _ f',g1.tups k,g2.tups k,g3.tups k]
def itemsP(nd:ks.Nodup)(t:Tab PrIs H kv ks f)(s:∀v x,PrIs H v x->PrIs H' v x)(lt:tp.length=kv.length)(ht:∀(j:Nat)(t:V)(e:Key×V),tp[j]?=some t->kv[j]?=some e->∃q,t=.ref q/\H' q=some (.tup [kV e.1,e.2])):RowAt ItP H' tp (ks.map λn=>(n,f n)):=by
 refine#[by rw[lt,t.len,jE],λi v x m b=>?_];rw[jM]at b;let#[n,c,8]:=kq.mp b;have hi:i<kv.length:=by rw[t.len];exact(jH.mp c).1
 have h:kv[i]?=some kv[i]:=jF hi;let#[o,a,l,_,r]:=t.at_ nd h;rw[c]at a
 cases a;let#[q,8,d]:=ht i v _ m h;rw[l]at d;exact#[q,9,d,s _ _ r]
def itemsW(so:SOk S)(gn:∀n∈S.ws,(S.g n).nm=n)(t:Tab WyIs H kv S.ws S.g)(s:∀v x,WyIs H v x->WyIs H' v x)(lt:tp.length=kv.length)(ht:∀(j:Nat)(t:V)(e:Key×V),tp[j]?=some t->kv[j]?=some e->∃q,t=.ref q/\H' q=some (.tup [kV e.1,e.2])):RowAt ItW H' tp S.ds:=by
 refine#[by unfold DS.ds;rw[lt,t.len,jE],λi v x m b=>?_];unfold DS.ds at b;rw[jM]at b;let#[n,c,8]:=kq.mp b;have hi:i<kv.length:=by rw[t.len];exact(jH.mp c).1
 have h:kv[i]?=some kv[i]:=jF hi;let#[o,a,l,_,r]:=t.at_ so.nw h;rw[c]at a
 cases a;let#[q,8,d]:=ht i v _ m h;rw[l]at d;exact#[q,9,by rw[gn n (jP c)];exact d,s _ _ r]
abbrev cutH(X:List Addr)(H:Hp):Hp:=λb=>if b∈X then none else H b
def cutH.sub(h:cutH X H b=some o):H b=some o/\¬b∈X:=by
 unfold cutH at h;by_cases e:b∈X
 ·rw[if_pos e]at h;cases h
 ·rw[if_neg e]at h;exact#[h,e]
def cutH.at_(h:H b=some o)(n:¬b∈X):cutH X H b=some o:=by
 unfold cutH;rw[if_neg n];exact h
inductive IspLTold(a:Ad)(vs:List V)(H:Hp)(Q:VK):Prop
 |mk(p dw dy da m d0 d1 d2:Addr)(S:DS)(ms:List Str)(B:Str->Rat)(h1:vs=[.ref p,.ref m])(h2:DeskAt a H p dw dy da S)(h3:SOk S)(h4:MdAt H m d0 d1 d2 S ms B)(h5:ms.Nodup)(h6:∀t H',Same H H'->ToldAt a (cutH [p,dw,dy,da,d0,d1,d2] H') t S ms B->Q (.ref t) H'):IspLTold a vs H Q
abbrev spLTold(a:Ad):Sp:=λvs H Q _=>IspLTold a vs H Q
def hX(T:TX K mg a):FnB P w K mg base CX0 "_law_told" 7 ["_law_desk","_law_model"] (spLTold a):=by
 refine T.d_law_told.ok sc_law_told (λvs H Q E h=>?_) (λf a2 A a1 s H vs Q E hr h=>?_)
 ·let#[_,_,_,_,_,_,_,_,_,_,_,8,_]:=h;rfl
 ·let#[p,dw,dy,da,m,d0,d1,d2,S,ms,B,8,D,so,M,nm,k]:=h;refine#[_,(aE (aM (cH (aA (cD (CX:=CX0) (pv 0) hr aL) (aA (cD (CX:=CX0) (pv 0) hr aL) (aA (cH (aA (bW (dW hr.hd) (by rfl) T.z_list lz (aA (pe_bm0 kF PySem.F.slot_dict_items PySem.F.type_dict_items ir (aN bA (pv 1) aF (λ_ _=>rfl))) aD)) (aA (bW (dW hr.hd) (by rfl) T.z_list lz (aA (pe_bm0 kF PySem.F.slot_dict_items PySem.F.type_dict_items ir (aN bA (pv 1) aF (λ_ _=>rfl))) aD)) (aA (bW (dW hr.hd) (by rfl) T.z_list lz (aA (pe_bm0 kF PySem.F.slot_dict_items PySem.F.type_dict_items ir (aN bA (pv 1) aF (λ_ _=>rfl))) aD)) aD)))) aD)))))),?_];try dsimp only[bF,Cx.nox,Cx.wish]
  let#[dx,hp]:=D.ob;let#[kw,hw,_]:=D.wa;let#[ky,hy,_]:=D.wy;let#[ka,ha,_]:=D.am;let#[U,h0,t0]:=M.t0;let#[Z,h1,t1]:=M.t1;let#[G,h2,t2]:=M.t2;have al:=ej dw dy da (m:="net") (by decide+kernel);have av:=ej dw dy da (m:="plan") (by decide+kernel);refine#[9,p,a.Desk,dx,_,6,["self"],spDNet a,8,hp,al,T.cl_Desk,5,eL T,p,dw,dy,da,S,8,D,so,λq H1 nq s1 hn=>?_];refine#[9,p,a.Desk,dx,_,2,["self"],spPlan a,8,s1 _ _ hp,av,T.cl_Desk,5,jp T,p,dw,dy,da,S,8,D.mono s1,λr H2 az nr s2 ai tr=>?_];have j:=s1.trans s2;refine#[9,m,_,7,SqT.of (j _ _ M.hm),8,.inr (.inr (.inl #[8,.inl #[U,j _ _ h0]])),d0,U,8,8,.inl (j _ _ h0),λv nv=>?_];have s3:=aI (o:=ViewI v d0) nv;have L:=j.trans s3;refine#[v,d0,U,8,aC,.inl (L _ _ h0),λl0 H4 ah ay s4 au aj ap=>?_];have c:=L.trans s4;refine#[9,m,_,7,SqT.of (c _ _ M.hm),8,.inr (.inr (.inl #[8,.inl #[Z,c _ _ h1]])),d1,Z,8,8,.inl (c _ _ h1),λv5 aw=>?_];have s5:=aI (o:=ViewI v5 d1) aw;have R:=c.trans s5;refine#[v5,d1,Z,8,aC,.inl (R _ _ h1),λl1 H6 an ab s6 ad ac aq=>?_];have i:=R.trans s6;refine#[9,m,_,7,SqT.of (i _ _ M.hm),8,.inr (.inr (.inl #[8,.inl #[G,i _ _ h2]])),d2,G,8,8,.inl (i _ _ h2),λv7 a0=>?_];have s7:=aI (o:=ViewI v7 d2) a0;have W:=i.trans s7;refine#[v7,d2,G,8,aC,.inl (W _ _ h2),λl2 H8 ak ax s8 ag as af=>?_];have aa:=W.trans s8;refine#[zL3,λu nu=>?_];let#[H9,zq,s9,hu]:=uG (o:=.tup [.ref l0,.ref l1,.ref l2]) nu;rw[zq];have ao:=aa.trans s9;refine#[zL3,λt nt=>?_];let#[O,zq,sA,ht]:=uG (o:=.tup [.ref q,.ref r,.ref u]) nt;rw[zq];have y:=ao.trans sA;have Y:=s9.trans sA;have I:=s8.trans Y;have N:=(s6.trans s7).trans I;have J:=(s4.trans s5).trans N;have d:=(s2.trans s3).trans J;refine k t O y ?_
  have l:∀b,b∈[p,dw,dy,da,d0,d1,d2]->(∃dx fs,H b=some (.ins a.Desk dx fs))∨∃kv,H b=some (.dK kv):=λb hb=>by
   simp only[jR,jV,lN]at hb;rcases hb with rfl|rfl|rfl|rfl|rfl|rfl|rfl
   ·exact .inl #[_,_,hp]
   ·exact .inr #[_,hw]
   ·exact .inr #[_,hy]
   ·exact .inr #[_,ha]
   ·exact .inr #[_,h0]
   ·exact .inr #[_,h1]
   ·exact .inr #[_,h2]
  generalize[p,dw,dy,da,d0,d1,d2]=X at l⊢
  have new:∀b o,H b=none->O b=some o->cutH X O b=some o:=λb o n e=>cutH.at_ e λm=>by
   rcases l b m with⟨_,_,z⟩|⟨_,z⟩<;>rw[n]at z<;>cases z
  have kt:∀b xs,O b=some (.tup xs)->cutH X O b=some (.tup xs):=λb xs e=>cutH.at_ e λm=>by
   rcases l b m with⟨_,_,z⟩|⟨_,z⟩<;>rw[y _ _ z]at e<;>cases e
  have hC:=deskC T
  have st:Stays a O (cutH X O):=λb C dx fs hc e=>cutH.at_ e λm=>by
   rcases l b m with⟨_,_,z⟩|⟨_,z⟩
   ·rw[y _ _ z]at e
    cases e;rcases hc with hc|⟨kd,hc⟩
    ·exact hC.1 hc
    ·exact hC.2 kd hc
   ·rw[y _ _ z]at e
    cases e
  refine#[q,r,u,l0,l1,l2,kt _ _ ht,kt _ _ (sA _ _ hu),?_,#[az,new _ _ (s1.free nr) ((s3.trans J) _ _ ai),?_],#[ah,new _ _ (L.free ay) ((s5.trans N) _ _ au),?_],#[an,new _ _ (R.free ab) ((s7.trans I) _ _ ad),?_],#[ak,new _ _ (W.free ax) (Y _ _ ag),?_]]
  ·let#[dn,ae,ar,g1,#[k1,g2,g3,g4],#[k2,g5,g6,g7],n1,n2]:=hn;exact#[dn,ae,ar,new _ _ nq (d _ _ g1),#[k1,new _ _ n1 (d _ _ g2),g3,g4.mono (by rintro v x⟨q',e,f⟩;exact#[q',e,st.fr (f.mono d)])],#[k2,new _ _ n2 (d _ _ g5),g6,g7.mono λv x z=>(z.mono d).keep st]]
  ·exact tr.mono (by rintro v x⟨q',e,f⟩;exact#[q',e,st.fr (f.mono (s3.trans J))])
  ·exact(itemsP so.nk t0 (λv x z=>PrIs.mono z c) aj ap).mono λv x z=>(z.mono (s5.trans N)).tups kt
  ·exact(itemsW so (λn hn=>(so.gk n hn).1) t1 (λv x z=>WyIs.mono z i) ac aq).mono λv x z=>(z.mono (s7.trans I)).tups kt
  ·exact(itemsP nm t2 (λv x z=>PrIs.mono z aa) as af).mono λv x z=>(z.mono Y).tups kt
def eqPr(K:W.Frag)(h1:PrIs H v x)(h2:PrIs H u x):EqD K H (n+1) v u:=by
 let#[e,8,d]:=h1;let#[h,8,c]:=h2;refine .tup (SqT.of d) (SqT.of c) rfl λj y z a b=>?_;rw[a]at b
 cases b;refine .flat ?_
 match j,a with
 |0,a=>cases a;rfl
 |1,a=>cases a;rfl
def eqHi(K:W.Frag)(h1:HiP H v o)(h2:HiP H u o):EqD K H (n+1) v u:=by
 cases o with
 |none=>
  obtain rfl:v=.non:=h1;obtain rfl:u=.non:=h2;exact .flat rfl
 |some y=>exact eqPr K h1 h2
def eqIt(K:W.Frag)(h1:ItW H v d)(h2:ItW H u d):EqD K H 20 v u:=by
 let#[w,A,8,i,E,I,F,r,8,g1,q,c,o]:=h1;let#[B,D,8,l,s,t,G,x,8,p,h,e,m]:=h2;refine .tup (SqT.of i) (SqT.of l) rfl λj y z b a=>?_
 match j,b,a with
 |0,b,a=>cases b;cases a;exact .flat rfl
 |1,b,a=>
  cases b;cases a;refine .tup (SqT.of g1) (SqT.of p) rfl λj y z b a=>?_
  match j,b,a with
  |0,b,a=>cases b;cases a;exact .flat rfl
  |1,b,a=>cases b;cases a;exact .flat rfl
  |2,b,a=>cases b;cases a;exact eqPr K q h
  |3,b,a=>cases b;cases a;exact eqHi K c e
  |4,b,a=>cases b;cases a;exact eqPr K o m
def eqVs_self:∀ks:List Str,jA (ks.map V.str) (ks.map V.str)=true
 |[]=>rfl
 |k::ks=>by
  show(eqV (.str k) (.str k)&&jA (ks.map V.str) (ks.map V.str))=true;rw[eqVs_self ks,jB rfl];rfl
def gg(ks:List Str):(ks.map V.str).all dY=true:=by rw[List.all_map,kR];exactλ_ _=>rfl
inductive IspSNet(a:Ad)(vs:List V)(H:Hp)(Q:VK):Prop
 |mk(q l0 l1:Addr)(S:DS)(ts0 ts1:List V)(h1:vs=[.ref q,.ref l0,.ref l1])(h2:SOk S)(h3:NetAt a H q S.ps S.ds)(h4:H l0=some (.lst ts0))(h5:RowAt ItP H ts0 S.ps)(h6:H l1=some (.lst ts1))(h7:RowAt ItW H ts1 S.ds)(h8:∀H',Same H H'->Q (.bl true) H'):IspSNet a vs H Q
abbrev spSNet(a:Ad):Sp:=λvs H Q _=>IspSNet a vs H Q
def ok_law_same_net(T:TX K mg a):FnB P w K mg base CX0 "_law_same_net" 9 ["_law_told_here","_law_places","_law_ways"] (spSNet a):=by
 refine T.d_law_same_net.ok sc_law_same_net (λvs H Q E h=>?_) (λf bc A a8 s H vs Q E R h=>?_)
 ·let#[_,_,_,_,_,_,8,_]:=h;rfl
 ·let#[q,l0,l1,S,am,ay,8,so,hn,h0,r0,h1,r1,k]:=h
  refine#[_,(bH (aW (aK (op_neL R.units0) (cD (CX:=CX0) (pv 0) R aL) (fj (xs:=["_law_name","_law_want"]) (rest:=[]) rfl (cU (pv 1))
   (λac fp C' s' M=>by exact(jm (K:=K) (n:=2) rfl rfl (bJ (bD (i:=0) (show(["_law_name","_law_want"]:List Str).Nodup by decide+kernel) rfl (Or.inl rfl)) (bJ (bD (i:=1) (show(["_law_name","_law_want"]:List Str).Nodup by decide+kernel) rfl (Or.inl rfl)) dH)))) (λac fp C' s' M=>by exact fE)
   (λac fp C' s' M=>by exact(pv 0))
   (Clos.none (by decide+kernel) (by decide+kernel)) (Reads.many (ys:=[]) (js:=[]) True.intro)) (aS _)) (aE (aM pe_bl)) aJ)
   (bH (cS kl rfl (cU (pv 1)) (gx (n:=2) rfl (bJ (bD (i:=3) sc_law_same_net.nd rfl (Or.inl rfl)) (bJ (bD (i:=4) sc_law_same_net.nd rfl (Or.inl rfl)) dH))) (aE (aW (aK (op_neT R.units0) (aZ (eK T) R aL (aA (eD (CX:=CX0) (pv 0) R aL (aA (pv 3) aD)) aD)) (pv 4) (aS _)) (aE (aM pe_bl)) aJ)))
   (aB (aR (i:=5) sc_law_same_net.nd rfl (Or.inl rfl) (dj aD))
   (bH (cS kl rfl (cU (cD (CX:=CX0) (pv 0) R aL)) (bD (i:=6) sc_law_same_net.nd rfl (Or.inl rfl)) (aB (aR (i:=7) sc_law_same_net.nd rfl (Or.inl rfl) cB)
   (bH (aW (aK fH (bE (pv 6) rfl) cB (aS _)) (aE (aR (i:=7) sc_law_same_net.nd rfl (Or.inl rfl) (aZ (eK T) R aL (aA (bE (pv 6) rfl) aD)))) aJ)
   (aE (bG (dr kj kf kg bU (pv 5) (aA (cH (aA (bE (pv 6) rfl) (aA (cH (aA (bE (pv 6) rfl) (aA (bE (pv 6) rfl) (aA (aZ (eK T) R aL (aA (cD (CX:=CX0) (pv 6) R aL) aD)) (aA (pv 7) (aA (aZ (eK T) R aL (aA (bE (pv 6) rfl) aD)) aD)))))) aD))) aD)))))))
   (aE (aM (gy (op_eqDL R.units) (pv 5) (pv 2) (aS _)))))))),?_]
  try dsimp only[bF,Cx.nox,Cx.wish]
  generalize Y:tCut _ _=k9
  revert k9
  refine jv λk9 Y=>?_;let#[dn,wn,yn,hq,hw,hy]:=id hn;have a1:=eP wn yn (m:="names") (by decide+kernel) (by decide+kernel);have a5:=eP wn yn (m:="all_ways") (by decide+kernel) (by decide+kernel);have a2:=eP wn yn (m:="want") (by decide+kernel) (by decide+kernel);have lk:=so.lk;have lw:=so.lw;have ba:S.ps.length<=11:=by unfold DS.ps;rw[jE];exact lk
  have a9:S.ds.length<=23:=by unfold DS.ds;rw[jE];exact lw
  have a7:=so.net.np;have ep:S.ps.map (λx=>V.str x.1)=S.ks.map V.str:=by unfold DS.ps;rw[kU];rfl
  subst Y;refine dX (λU M=>U=[some (.ref q),some (.ref l0),some (.ref l1),none,none,none,none,none]/\Same H M) ?_ ?_
  ·refine#[9,q,a.Net,dn,_,_,["self"],gT a,8,hq,a1,T.cl_Net,5,eU T,q,S.ps,S.ds,8,hn,λl3 m3=>?_];rw[ep];let#[H2,zq,D,e3]:=uG (o:=.lst (S.ks.map V.str)) m3;rw[zq];refine#[9,l0,8,#[_,SqL.of (D _ _ h0)],λc nc=>?_];refine gC (K:=K) (a:=l0) (xs:=am) (λi H4=>i<=S.ps.length×' Same H2 H4×' H4 c=some (.lst ((S.ps.take i).map λe=>V.str e.1))) #[jZ _,aI nc,aC] ((by rintro i H4⟨_,L,_⟩;exact SqL.of (L _ _ (D _ _ h0)))) ?_ ?_
   ·rintro i x H4 hx⟨_,L,h4⟩zs aw;let#[e,ee,t,u,8,ht,hu]:=r0.get hx;have hi:i<S.ps.length:=(jH.mp ee).1
    match zs,aw with
    |[z1,z2],_=>
     refine#[t,[.str e.1,u],8,SqT.of (L _ _ (D _ _ ht)),8,.str e.1,[u],8,#[u,[],8,#[8,#[[_,_],8,8],yes ?_]]];refine#[9,_,h4,bB (by rw[jE,kc];lia),gM (by rw[r0.1];exact hi) #[hi,bY nc L,?_]];rw[aC,j4,ee,j6,jY];rfl
   ·rintro H4⟨_,L,h4⟩;rw[r0.1,ke,ep]at h4;exact#[l3,c,7,SqL.of (L _ _ e3),SqL.of h4,gg _,gg _,9,aX (by rw[eqVs_self];rfl) #[8,D.trans L]]
  rintro zU G U H1⟨rfl,s1⟩;subst G;refine dX (λU M=>yE2 λz3 Z=>U=[some (.ref q),some (.ref l0),some (.ref l1),z3,Z,none,none,none]/\Same H M) ?_ ?_
  ·refine#[9,l0,8,#[_,SqL.of (s1 _ _ h0)],c8 (K:=K) (a:=l0) (xs:=am) (λi σ H2=>yE2 λz3 Z=>σ=[some (.ref q),some (.ref l0),some (.ref l1),z3,Z,none,none,none]/\Same H H2) #[_,9,s1] ((by rintro i σ H2 _⟨_,_,_,s⟩;exact SqL.of (s _ _ h0))) ?_ ?_]
   ·rintro i x σ H2 hx⟨z3,Z,rfl,D⟩;let#[e,ee,t,u,8,ht,tu,8,hu]:=r0.get hx;have hu:H tu=some (.tup [.int e.2.num,.int (e.2.den:Int)]):=hu;refine#[t,[.str e.1,.ref tu],8,SqT.of (D _ _ ht),8,.str e.1,[.ref tu],8,#[.ref tu,[],8,#[8,?_]]];refine#[9,q,a.Net,dn,_,_,["self","place"],spNWant a,8,D _ _ hq,a2,T.cl_Net,5,ok_Net_want T,9,q,S.ps,S.ds,i,e.1,e.2,8,hn.mono D,a7,ee,λqf ff=>?_];refine#[qf,9,ff,λO ae=>?_];have s3:=aI (o:=.tup [.int e.2.num,.int (e.2.den:Int)]) ae;exact#[9,O,tu,7,SqT.of aC,SqT.of (s3 _ _ (D _ _ hu)),8,8,9,aX (by unfold jA jA jA;rw[jB rfl,jB rfl];rfl) #[_,9,D.trans s3]]
   ·rintro σ H2⟨z3,Z,rfl,D⟩;exact#[z3,Z,8,D]
  rintro zU G U H2⟨z3,Z,rfl,D⟩;subst G;generalize Y:tCut _ _=k9
  revert k9
  refine jv λk9 Y=>?_;refine#[zL0,λI ap=>?_];let#[H3,zq,s3,e3]:=uG (o:=.lst []) ap;rw[zq];have af:=D.trans s3;subst Y;refine dX (λU M=>yE3 λz6 z7 N=>U=[some (.ref q),some (.ref l0),some (.ref l1),z3,Z,some (.ref I),z6,z7]×' Same H M×' M I=some (.lst N)×' RowAt ItW M N S.ds) ?_ ?_
  ·refine#[9,q,a.Net,dn,_,_,["self"],spNAll a,8,af _ _ hq,a5,T.cl_Net,5,dS T,q,S.ps,S.ds,8,hn.mono af,λla H4 ta al L ak aq=>?_];have au:=af.trans L;have e4:=L _ _ e3;have ar:H I=none:=D.free ap;have a6:la≠I:=λz=>by rw[z,e3]at al;cases al
   refine#[la,8,#[_,SqL.of ak],c8 (K:=K) (a:=la) (xs:=ta) (λi σ H5=>i<=S.ds.length/\yE3 λz6 z7 N=>σ=[some (.ref q),some (.ref l0),some (.ref l1),z3,Z,some (.ref I),z6,z7]×' But I H4 H5×' H5 I=some (.lst N)×' RowAt ItW H5 N (S.ds.take i)) #[jZ _,_,_,[],8,λb o e _=>e,e4,RowAt.nil] ((by rintro i σ H5 _⟨_,_,_,_,_,k5,_⟩;exact SqL.of (k5 _ _ ak a6))) ?_ ?_]
   ·rintro i y σ H5 hy⟨_,z6,z7,N,rfl,k5,h5,r5⟩;let#[d,ee,hd]:=aq.get hy;have hi:i<S.ds.length:=(jH.mp ee).1;have aj:d∈S.ds:=jP ee;let#[m1,m2]:=so.mem aj;have gk:=so.gk _ m1;have sg:=so.sg _ m1;rw[m2]at gk sg;have av:Stays a H4 H5:=λb C dx fs _ e=>k5 _ _ e (bK e e4 (by intro z;cases z));let#[p1,vh,vc,qx,8,W,_,#[qc,8,fc],hh]:=hd.keep av;rw[gk.2.1]at W;let#[l,B,ab,p,bb]:=id W.ob;have J:=T.wG;refine dX (λU M=>yE1 λv7=>U=[some (.ref q),some (.ref l0),some (.ref l1),z3,Z,some (.ref I),some (.ref p1),some v7]×' Same H5 M×' HiP M v7 d.hi) ?_ ?_
    ·cases e:d.hi with
     |none=>
      rw[e]at hh;obtain rfl:vh=.non:=hh;exact#[9,p1,_,l,B,9,ab,J.cl,J.n4,p.hi,8,9,iteF #[.non,8,λ_ _ e=>e,8]]
     |some x=>
      rw[e]at hh;let#[qh,8,fh]:=hh;refine#[9,p1,_,l,B,9,ab,J.cl,J.n4,p.hi,8,9,iteT ?_];exact#[9,p1,_,l,B,9,ab,J.cl,J.n4,p.hi,qh,x,8,fh,λt nt=>#[9,aI nt,#[t,8,aC]]]
    rintro zU G U H6⟨v7,rfl,s6,ax⟩;have h6:=s6 _ _ h5;have X:=s6 _ _ ab;have fx:=W.fq (by nofun);subst G;refine#[9,.inl #[8,_,SqL.of h6],9,p1,_,l,B,9,X,J.cl,J.n1,p.nm,9,p1,_,l,B,9,X,J.cl,J.n2,p.st,9,p1,_,l,B,9,X,J.cl,J.n3,p.go,?_];refine#[9,p1,_,l,B,_,["self"],gq a .gro,8,X,p.ga,T.wG.cl,5,jy T,p1,_,_,_,_,_,_,d.x,8,W.mono s6,sg.1.bd.smr (by decide),λr H7 s7 fr=>?_];have fr:FrAt a.Fraction H7 r d.x:=fr;refine#[r,9,fr,λt nt=>?_];let#[H8,zq,s8,an]:=uG (o:=.tup [.int d.x.num,.int (d.x.den:Int)]) nt;rw[zq];have ad:=s7.trans s8;refine#[9,9,p1,_,l,B,9,ad _ _ X,J.cl,J.n5,p.co,qc,9,(fc.mono s6).mono ad,λO ae=>?_];let#[H9,zq,s9,ah]:=uG (o:=.tup [.int d.co.num,.int (d.co.den:Int)]) ae;rw[zq];refine#[zL5,λt3 a3=>?_];let#[HA,zq,sA,ai]:=uG (o:=.tup [.str d.st,.str d.go,.ref t,v7,.ref O]) a3;rw[zq];refine#[zL2,λt4 a0=>?_];let#[HB,zq,sB,as]:=uG (o:=.tup [.str d.nm,.ref t3]) a0;rw[zq];have ag:=s9.trans (sA.trans sB);have aa:=ad.trans ag;have hB:=aa _ _ h6;have lt:N.length<=23:=by rw[r5.1,kc];lia
    refine#[I,7,hB,bB (),?_];have up:∀(b:Addr)(xs:List V),HB b=some (.tup xs)->upd HB I (.lst (N++[.ref t4])) b=some (.tup xs):=λb xs h=>by rw[aG (bK h hB (by intro z;cases z))];exact h
    refine#[hi,_,_,9,λb o e ne=>?_,aC,?_]
    ·rw[aG ne];exact aa _ _ (s6 _ _ (k5 b o e ne))
    ·rw[j4,ee,j6];have W1:WyIs HB (.ref t3) d:=#[t3,.ref t,v7,.ref O,8,sB _ _ ai,#[t,8,ag _ _ an],ax.mono aa,#[O,8,sB _ _ (sA _ _ ah)]];exact(r5.mono λv x z=>(z.mono (s6.trans aa)).tups up).snoc (ItW.tups #[t4,9,as,W1] up)
   ·rintro σ H5⟨_,z6,z7,N,rfl,k5,h5,r5⟩;rw[aq.1,ke]at r5;exact#[z6,z7,N,8,λb o e=>k5 _ _ (au _ _ e) (aP e ar),h5,r5]
  rintro zU G U H4⟨z6,z7,N,rfl,L,h4,r4⟩;have az:=L _ _ h1;have g1:=r1.1;have g4:=r4.1;subst G;refine#[9,9,I,l1,N,ay,8,8,SqL.of h4,SqL.of az,4,λj x y e1 e2=>?_,k H4 L];let#[d,ed,hd]:=r4.get e1;let#[d',ao,a4]:=r1.get e2;rw[ed]at ao
  cases ao;exact eqIt K hd (a4.mono L)
abbrev dueN(B:Str->Rat)(ms:List Str):List Str:=ms.filter λn=>decide (B n≠0)
def eqItP(K:W.Frag)(h1:ItP H v d)(h2:ItP H u d):EqD K H 20 v u:=by
 let#[m,p,8,h,i]:=h1;let#[l,o,8,c,e]:=h2;refine .tup (SqT.of h) (SqT.of c) rfl λj y z b a=>?_
 match j,b,a with
 |0,b,a=>cases b;cases a;exact .flat rfl
 |1,b,a=>cases b;cases a;exact eqPr K i e
def perm_getD{ks:List Str}{q:List Nat}(h:q.Perm (List.range ks.length)):(q.map λi=>ks.getD i "").Perm ks:=by
 refine(h.map _).trans ?_
 have e:(List.range ks.length).map (λi=>ks.getD i "")=ks:=by
  refine List.ext_getElem (by rw[jE,List.length_range]) λi b a=>?_;rw[List.getElem_map,List.getElem_range,j3,jF a];rfl
 rw[e]
def sorted_row{ks:List Str}{A:Str->Rat}{q:List Nat}(r:RowAt ItP H ts (ks.map λn=>(n,A n)))(h:q.Perm (List.range ks.length)):RowAt ItP H (q.map λi=>ts.getD i .non) ((q.map λi=>ks.getD i "").map λn=>(n,A n)):=by
 refine#[by rw[jE,jE,jE],λj v x c a=>?_];rw[jM]at c;rw[kU,jM]at a;let#[i,b,8]:=kq.mp c;rw[b]at a;obtain rfl:=kh a;have hi:=List.mem_range.mp (h.mem_iff.mp (jP b));have lt:ts.length=ks.length:=by have:=r.1;rw[jE]at this;exact this
 refine r.2 i _ _ (by rw[j3,jF ()];rfl) ?_;rw[jM,jF hi];show some _=some (ks.getD i "",A (ks.getD i ""));rw[j3,jF hi];rfl
inductive IspSPlan(a:Ad)(vs:List V)(H:Hp)(Q:VK):Prop
 |mk(r l2:Addr)(S:DS)(ms:List Str)(B:Str->Rat)(kv:List (Key×V))(ts2:List V)(h1:vs=[.ref r,.ref l2])(h2:MOk S ms B)(h3:(∀n∈S.as,S.A n≠0))(h4:ms.length<=60)(h5:H r=some (.dK kv))(h6:Tab (FrIs a) H kv S.as S.A)(h7:H l2=some (.lst ts2))(h8:RowAt ItP H ts2 (ms.map λn=>(n,B n)))(h9:∀H',Same H H'->Q (.bl true) H'):IspSPlan a vs H Q
abbrev spSPlan(a:Ad):Sp:=λvs H Q _=>IspSPlan a vs H Q
def ok_law_same_plan(T:TX K mg a):FnB P w K mg base CX0 "_law_same_plan" 9 ["_law_told_here","_law_kept"] (spSPlan a):=by
 refine T.d_law_same_plan.ok sc_law_same_plan (λvs H Q E h=>?_) (λf bc A ba s H vs Q E hr h=>?_)
 ·let#[_,_,_,_,_,_,_,8,_]:=h;rfl
 ·let#[r,l2,S,I,B,X,ai,8,mo,nz,lm,aj,tr,O,r2,k]:=h
  refine#[_,(aB (aW (fO (cG (bC (fu (c:=.type "dict")) (by rfl) T.z_isinstance jQ (aA (pv 0) (aA (gz (v:=.ty "dict") (by rfl) T.z_dict PyProof.Rows.boot_dict rfl) aD))))) (aE (aM pe_bl)) aJ)
   (aB (ps_compG (i:=2) (xs:=["_law_name","_law_flow_here"]) (rest:=[]) sc_law_same_plan.nd rfl rfl rfl (cU (pv 1))
   (λd fp C' s' H'=>by exact(jm (K:=K) (n:=2) rfl rfl (bJ (bD (i:=0) (show(["_law_name","_law_flow_here"]:List Str).Nodup by decide+kernel) rfl (Or.inl rfl)) (bJ (bD (i:=1) (show(["_law_name","_law_flow_here"]:List Str).Nodup by decide+kernel) rfl (Or.inl rfl)) dH)))) (λd fp C' s' H'=>by exact(pts_one (aK iK (aN (r:=rIxT K) bA (pv 1) aF (λ_ _=>rfl)) aF (aS _))))
   (λd fp C' s' H'=>by exact(cH (aA (pv 0) (aA (pv 1) aD))))
   (Clos.none (by decide+kernel) (by decide+kernel)) (Reads.many (ys:=[]) (js:=[]) True.intro))
   (aE (aM (gy (op_eqDL hr.units) (bC (gN hr.hd) (by rfl) T.z_sorted PyProof.Rows.boot_sorted (aA (pe_thaw (fj (xs:=["_law_name"]) (rest:=["_law_told_here"]) rfl (pi_dict (pv 0))
   (λd fp C' s' H'=>(bD (i:=0) (show(["_law_name","_law_told_here"]:List Str).Nodup by decide+kernel) rfl (Or.inl rfl))) (λd fp C' s' H'=>fE)
   (λd fp C' s' H'=>(cH (aA (pv 0) (aA (aZ (eK T) hr aL (aA (fF (cA hr) (pv 1) (pv 0) (λ_ _=>rfl)) aD)) aD))))
   (Clos.many (ys:=["_law_told_here"]) rfl #[8,True.intro] rfl (by decide+kernel)) (Reads.many (ys:=["_law_told_here"]) (js:=[0]) #[#[8,8,8],True.intro]))) aD)) (bC (gN hr.hd) (by rfl) T.z_sorted PyProof.Rows.boot_sorted (aA (pv 2) aD)) (aS _)))))),?_]
  try dsimp only[bF,Cx.nox,Cx.wish]
  have a8:=tr.len;have bb:=mo.so.la;have ac:=mo.so.na;have e2:I.length=ai.length:=by have:=r2.1;rw[jE]at this;exact this.symm
  refine#[9,_,_,_,9,(λu h=>h),TyOf.dK aj,T.k_dict_dict,9,iteF ?_];refine#[9,l2,8,#[_,SqL.of O],λc nc=>?_];refine gC (K:=K) (a:=l2) (xs:=ai) (λi F=>i<=I.length×' Same H F×'∃J,F c=some (.lst J)/\RowAt ItP F J ((dueN B (I.take i)).map λn=>(n,B n))) #[jZ _,aI nc,[],aC,RowAt.nil] ((by rintro i F⟨_,m,_⟩;exact SqL.of (m _ _ O))) ?_ ?_
  ·rintro i x F hx⟨_,m,J,h4,r4⟩zs ax;let#[e,ee,t,u,8,ht,U,8,hu]:=r2.get hx;rw[jM]at ee;let#[n,en,8]:=kq.mp ee;have hi:i<I.length:=(jH.mp en).1;have hu:H U=some (.tup [.int (B n).num,.int ((B n).den:Int)]):=hu
   have tk:dueN B (I.take (i+1))=dueN B (I.take i)++[n].filter λn=>decide (B n≠0):=by
    unfold dueN;rw[j4,en,j6,List.filter_append]
   match zs,ax with
   |[z1,z2],_=>
    refine#[t,[.str n,.ref U],8,SqT.of (m _ _ ht),8,.str n,[.ref U],8,#[.ref U,[],8,#[8,#[[_,_],8,8],?_]]];refine#[9,U,_,7,SqT.of (m _ _ hu),8,8,9,ifNV (λe0=>?_) (λe0=>?_)]
    ·have nb:B n≠0:=λz=>e0 (Rat.num_eq_zero.mpr z);refine#[9,9,zL2,λM ad=>?_];let#[H5,zq,R,ap]:=uG (o:=.tup [.str n,.ref U]) ad;rw[zq];have h5:=R _ _ h4;have ao:=m.trans R
     have lt:J.length<=60:=by
      rw[r4.1,jE];unfold dueN;exact jK (kN _ _) (by rw[kc];lia)
     have up:∀(b:Addr)(xs:List V),H5 b=some (.tup xs)->upd H5 c (.lst (J++[.ref M])) b=some (.tup xs):=λb xs h=>by rw[aG (bK h h5 (by intro z;cases z))];exact h
     refine#[_,h5,bB (),gM () #[hi,bY nc ao,_,aC,?_]];rw[tk,List.filter_cons_of_pos (by exact jL nb),List.filter_nil,jY];exact(r4.mono λv x z=>(z.mono R).tups up).snoc (ItP.tups #[M,9,ap,U,8,ao _ _ hu] up)
    ·have nb:B n=0:=Rat.num_eq_zero.mp e0;refine gM () #[hi,m,J,h4,?_];rw[tk,List.filter_cons_of_neg (by simpa using nb),List.filter_nil,kE];exact r4
  rintro H1⟨_,s1,J,a9,r1⟩;rw[<-e2,ke]at r1;have Y:=s1 _ _ aj;have az:=tr.mono λv x z=>FrIs.mono z s1;refine#[r,.dK X,Y,(by intro o z e;cases e),9,r,X,8,Y,λo l nl=>?_];have aa:r≠l:=λz=>by rw[z,aC]at nl;cases nl
  have ar:H1 l=none:=by rw[aG aa.symm]at nl;exact nl
  refine compG_dict (a:=r) (o:=o) (kvs:=X) (λi p=>i<=S.as.length×' p r=some (.frz o (.dK X))×'(∀b ob,H1 b=some ob->b≠r->p b=some ob)×'∃L,p l=some (.lst L)/\RowAt ItP p L ((S.as.take i).map λn=>(n,S.A n)))
   #[jZ _,by rw[aG aa,aC],(λb ob e ne=>by rw[aG (aP e ar),aG ne];exact e),[],aC,RowAt.nil] ((by rintro i p⟨_,h,_⟩;exact h)) ?_ ?_
  ·rintro i a1 p ay⟨_,hf,k2,L,ab,rr⟩;let#[n,en,e1,ev,fi]:=az.at_ ac ay;have hi:i<S.as.length:=(jH.mp en).1;have a7:kV a1.1=.str n:=by rw[e1];rfl
   rw[a7];let#[qf,a2,a5,ff]:=fi;refine g1 #[#[[_],8,8],yes ?_];refine#[9,9,9,r,9,.inl #[X,Sum.inr n,.inr #[o,hf],8,ev.symm],?_];rw[a2];refine#[qf,9,#[a5,k2 _ _ ff (bK ff Y (by intro z;cases z))],λt nt=>?_];let#[H3,zq,s3,ag]:=uG (o:=.tup [.int (S.A n).num,.int ((S.A n).den:Int)]) nt;rw[zq];refine#[zL2,λM ad=>?_];let#[F,zq,m,an]:=uG (o:=.tup [.str n,.ref t]) ad;rw[zq];have W:=s3.trans m;have aw:=W _ _ ab;have lu:L.length<=23:=by rw[rr.1,jE,kc];lia
   have up:∀(b:Addr)(xs:List V),F b=some (.tup xs)->upd F l (.lst (L++[.ref M])) b=some (.tup xs):=λb xs h=>by rw[aG (bK h aw (by intro z;cases z))];exact h
   refine#[_,aw,bB (),gM () #[hi,by rw[aG aa];exact W _ _ hf,(λb ob e ne=>by rw[aG (aP e ar)];exact W _ _ (k2 b ob e ne)),_,aC,?_]];rw[j4,en,j6,jY];exact(rr.mono λv x z=>(z.mono W).tups up).snoc (ItP.tups #[M,9,an,t,8,m _ _ ag] up)
  rintro p⟨_,hf,k2,L,ab,rr⟩;rw[a8,ke]at rr;refine#[o,hf,?_];have s2:Same H1 (upd p r (.dK X)):=thawed Y λb ob e ne=>k2 b ob e ne;have af:upd p r (.dK X) l=some (.lst L):=by rw[aG aa.symm];exact ab
  have kt:∀(b:Addr)(xs:List V),p b=some (.tup xs)->upd p r (.dK X) b=some (.tup xs):=λb xs h=>by rw[aG (bK h hf (by intro z;cases z))];exact h
  have Z:=rr.mono λv x(z:ItP p v x)=>z.tups kt;generalize upd p r (.dK X)=H3 at s2 af Z⊢;have a3:=r1.mono λv x(z:ItP H1 v x)=>z.mono s2;have av:(dueN B I).Nodup:=List.Pairwise.filter _ mo.nm;have ld:(dueN B I).length<=60:=jK (kN _ _) lm
  have same:∀n,n∈S.as↔n∈dueN B I:=λn=>by
   have G:=mo.am n;unfold aO at G;unfold dueN;rw[kL];by_cases h1:n∈S.as
   ·have au:=nz n h1;rw[if_pos h1]at G;by_cases O:n∈I
    ·rw[if_pos O]at G;exact#[λ_=>#[O,by rw[G];exact jL au],λ_=>h1]
    ·rw[if_neg O]at G;exact absurd G.symm au
   ·rw[if_neg h1]at G;refine#[λh=>absurd h h1,λ⟨O,h3⟩=>?_];rw[if_pos O]at G;exact absurd G (kG h3)
  refine#[l,L,S.as,8,SqL.of af,by rw[Z.1,jE],λi v e e1 e2=>?_,ac,4,λl3 q a6 pq pw=>?_]
  ·let#[c',ec,t,u,8,ht,_]:=Z.get e1;rw[jM,e2]at ec
   cases ec;exact#[t,u,8,ht]
  let#[F,zq,m,h4]:=uG (o:=.lst (q.map λi=>L.getD i .non)) a6;rw[zq];have aq:=a3.mono λv x z=>ItP.mono z m;refine#[9,c,J,dueN B I,8,SqL.of (m _ _ (s2 _ _ a9)),by rw[r1.1,jE],λi v e e1 e2=>?_,av,4,λl5 q' a4 ah a0=>?_]
  ·let#[c',ec,t,u,8,ht,_]:=aq.get e1;rw[jM,e2]at ec
   cases ec;exact#[t,u,8,ht]
  let#[H5,zq,R,h5]:=uG (o:=.lst (q'.map λi=>J.getD i .non)) a4;rw[zq];have ra:=sorted_row Z pq;have rb:=sorted_row aq ah
  have en:(q.map λi=>S.as.getD i "")=q'.map λi=>(dueN B I).getD i "":=by
   refine List.Perm.eq_of_pairwise (λx y _ _ h1 O=>(nLt_as h1 O).elim) pw a0 ?_;refine(perm_getD pq).trans (List.Perm.trans ?_ (perm_getD ah).symm);exact(List.perm_ext_iff_of_nodup ac av).mpr same
  rw[<-en]at rb;have mem:∀n∈(q.map λi=>S.as.getD i ""),n∈S.as:=λn hn=>(perm_getD pq).mem_iff.mp hn;generalize(q.map λi=>S.as.getD i "")=N at ra rb mem;refine#[l3,l5,7,SqL.of (R _ _ h4),SqL.of h5,by rw[ra.1,rb.1,jE,jE],λj x y e1 e2=>?_,k H5 (s1.trans (s2.trans (m.trans R)))];let#[c1,al,ak]:=ra.get e1;let#[c2,ae,D]:=rb.get e2;rw[jM]at al ae;let#[n,e3,8]:=kq.mp al;rw[e3]at ae;obtain rfl:=kh ae;have hn:=mem n (jP e3);have G:=mo.am n;unfold aO at G;rw[if_pos hn]at G;have hm:n∈I:=(kL.mp ((same n).mp hn)).1;rw[if_pos hm]at G;have D:ItP F y (n,B n):=D;rw[G]at D;exact eqItP K (ak.mono (m.trans R)) (D.mono R)
inductive IspKnownL(a:Ad)(vs:List V)(H:Hp)(Q:VK):Prop
 |mk(m t:Addr)(S:DS)(ms:List Str)(B:Str->Rat)(h1:vs=[.ref m,.ref t])(h2:ToldAt a H t S ms B)(h3:MOk S ms B)(h4:(∀n∈S.as,S.A n≠0))(h5:ms.length<=60)(h6:∀H',Same H H'->Q (.bl true) H'):IspKnownL a vs H Q
abbrev spKnownL(a:Ad):Sp:=λvs H Q _=>IspKnownL a vs H Q
def gA(T:TX K mg a):FnB P w K mg base CX0 "_law_known" 10 ["_law_model","_law_told_here"] (spKnownL a):=by
 refine T.d_law_known.ok sc_law_known (λvs H Q E h=>?_) (λf M A l s H vs Q E D h=>?_)
 ·let#[_,_,_,_,_,8,_]:=h;rfl
 ·let#[m,t,S,U,B,8,TA,y,nz,lm,k]:=h
  refine#[_,(aB (aR (i:=2) sc_law_known.nd rfl (Or.inl rfl) (aN bA (pv 1) aF (λ_ _=>rfl)))
   (aE (aM (pe_and (aZ (ok_law_same_net T) D aL (aA (aN bA (pv 1) aF (λ_ _=>rfl)) (aA (aN bA (pv 2) aF (λ_ _=>rfl)) (aA (aN bA (pv 2) aF (λ_ _=>rfl)) aD)))) (pe_one (aZ (ok_law_same_plan T) D aL (aA (aN bA (pv 1) aF (λ_ _=>rfl)) (aA (aN bA (pv 2) aF (λ_ _=>rfl)) aD)))))))),?_]
  try dsimp only[bF,Cx.nox,Cx.wish]
  let#[q,r,u,O,l1,G,o,p,F,#[kv,W,tb],#[I,Y,R],#[t1,X,N],#[J,L,r2]]:=TA.x;have c:=SqT.of (K:=K) o;have d:=SqT.of (K:=K) p;refine#[9,t,_,7,c,8,?_];refine#[9,t,_,7,c,8,9,u,_,7,d,8,9,u,_,7,d,8,?_];refine#[q,O,l1,S,I,t1,8,y.so,F,Y,R,X,N,λH1 b=>?_];have e:=SqT.of (K:=K) (b _ _ o);have j:=SqT.of (K:=K) (b _ _ p);refine#[9,iteT ?_];exact#[9,t,_,7,e,8,9,u,_,7,j,8,r,G,S,U,B,kv,J,8,y,nz,lm,b _ _ W,tb.mono λv x z=>FrIs.mono z b,b _ _ L,r2.mono λv x z=>z.mono b,λZ s2=>k Z (b.trans s2)]
def DS.due_no{S:DS}(h:S.due r=none):r.good/\S.miss r=none:=by
 unfold DS.due at h;by_cases e:fv r.hd r.kds r.cs=true
 ·rw[if_pos e]at h;cases h
 ·rw[if_neg e]at h;exact#[good_of (by simpa using e),h]
structure LOk(N:List Str)(S:DS)(ms:List Str)(B:Str->Rat):Prop where
 mo:MOk S ms B
 nz:∀n∈S.as,S.A n≠0
 kn:∀n∈S.ks,n∈N
 wn:∀n∈S.ws,n∈N
 mn:∀n∈ms,n∈N
def LOk.len(h:LOk N S ms B)(nms:Nms N):ms.length<=5:=by rw[<-nms.len];exact nodup_le h.mo.nm h.mn
def LOk.ln(h:LOk N S ms B)(nms:Nms N):∀n,n∈S.ks∨n∈S.ws->n.length<=8:=λn a=>(eX (nms.ok n (a.elim (h.kn n) (h.wn n)))).2.1
def nodup_off(h:ks.Nodup):(ia ks n).Nodup:=List.Pairwise.filter _ h
def LOk.next(h:LOk N S ms B)(nms:Nms N)(ok:r.ok)(nin:∀z∈r.cs,∀n,z=.nm n->n∈N)(due:S.due r=none)(am:∀n,aO ms' B' n=aO (S.next r).as (S.next r).A n)(nd:ms'.Nodup)(sub:∀z∈ms',z∈ms∨z∈S.ws):LOk N (S.next r) ms' B':=by
 let#[F,i]:=DS.due_no due;have a:=h.mo.so;have d:∀n∈ms',n∈N:=λn j=>(sub n j).elim (h.mn n) (h.wn n);have v:∀l:List Str,l.Nodup->(∀n∈l,n∈N)->l.length<=5:=λl J D=>by rw[<-nms.len];exact nodup_le J D
 cases r with
 |place n x=>
  have j:n∈N:=nin (.nm n) jX n rfl;have t:∀m∈eO S.ks n,m∈N:=λm b=>(mem_addK.mp b).elim (h.kn m) λe=>e▸j;have w:=fm (n:=n) a.nk;refine#[#[#[w,a.nw,a.na,jK (v _ w t) (by decide),a.lw,a.sub,λm b=>?_,λm b=>?_,a.sg,a.sA],am,nd],h.nz,t,h.wn,d]
  ·let#[g1,L,E,G,H]:=a.gk m b;exact#[g1,L,mem_addK.mpr (.inl E),mem_addK.mpr (.inl G),H]
  ·show smallR (upf S.f n x m);by_cases e:m=n
   ·rw[e,dL];exact ok.2
   ·rw[eZ e];exact a.sf m ((mem_addK.mp b).resolve_right e)
 |way n s g x hh c=>
  have j:n∈N:=nin (.nm n) jX n rfl;have p:∀m∈eO S.ws n,m∈N:=λm b=>(mem_addK.mp b).elim (h.wn m) λe=>e▸j;have q:=fm (n:=n) a.nw;have i:(if s∈S.ks then if g∈S.ks then none else some (1,g) else some (1,s))=none:=i;have u:s∈S.ks:=Decidable.byContradiction λz=>by rw[if_neg z]at i;cases i
  rw[if_pos u]at i;have K:g∈S.ks:=Decidable.byContradiction λz=>by rw[if_neg z]at i;cases i
  refine#[#[#[a.nk,q,a.na,a.lk,jK (v _ q p) (by decide),λm b=>mem_addK.mpr (.inl (a.sub m b)),λm b=>?_,a.sf,λm b=>?_,a.sA],am,nd],h.nz,h.kn,p,d]
  ·show(upf S.g n #[n,s,g,.gro,x,hh,c] m).nm=m/\_;by_cases e:m=n
   ·rw[e];show(upf S.g n #[n,s,g,.gro,x,hh,c] n).nm=n/\(upf S.g n #[n,s,g,.gro,x,hh,c] n).kd=.gro/\(upf S.g n #[n,s,g,.gro,x,hh,c] n).st∈S.ks/\(upf S.g n #[n,s,g,.gro,x,hh,c] n).go∈S.ks/\(upf S.g n #[n,s,g,.gro,x,hh,c] n).st≠(upf S.g n #[n,s,g,.gro,x,hh,c] n).go;rw[dL];exact#[8,8,u,K,F.1]
   ·have:=a.gk m ((mem_addK.mp b).resolve_right e)
    rw[<-show upf S.g n #[n,s,g,.gro,x,hh,c] m=S.g m from eZ e]at this;exact this
  ·by_cases e:m=n
   ·rw[e];show smallR (upf S.g n #[n,s,g,.gro,x,hh,c] n).x/\smallR (upf S.g n #[n,s,g,.gro,x,hh,c] n).co/\∀y,(upf S.g n #[n,s,g,.gro,x,hh,c] n).hi=some y->smallR y;rw[dL];exact#[ok.2.2.2.1,ok.2.2.2.2.1,ok.2.2.2.2.2]
   ·have:=a.sg m ((mem_addK.mp b).resolve_right e)
    rw[<-show upf S.g n #[n,s,g,.gro,x,hh,c] m=S.g m from eZ e]at this;exact this
 |drop n=>
  refine#[#[#[a.nk,nodup_off a.nw,nodup_off a.na,a.lk,jK (kN _ _) a.lw,λm b=>mem_offK.mpr #[a.sub m (mem_offK.mp b).1,(mem_offK.mp b).2],λm b=>a.gk m (mem_offK.mp b).1,a.sf,λm b=>a.sg m (mem_offK.mp b).1,λm b=>a.sA m (mem_offK.mp b).1],am,nd],λm b=>h.nz m (mem_offK.mp b).1,h.kn,λm b=>h.wn m (mem_offK.mp b).1,d]
 |send n x=>
  have I:n∈S.ws:=Decidable.byContradiction λz=>by
   have i:(if n∈S.ws then none else some (2,n))=none:=i;rw[if_neg z]at i;cases i
  have o:∀{m:Str},m∈fz (upf S.A n x) (eO S.as n)->m∈eO S.as n/\upf S.A n x m≠0:=λb=>by
   unfold fz at b;exact#[(kL.mp b).1,kG (kL.mp b).2]
  refine#[#[#[a.nk,a.nw,List.Pairwise.filter _ (fm a.na),a.lk,a.lw,λm b=>(mem_addK.mp (o b).1).elim (a.sub m) λe=>e▸I,a.gk,a.sf,a.sg,λm b=>?_],am,nd],λm b=>(o b).2,h.kn,h.wn,d];show smallR (upf S.A n x m);by_cases e:m=n
  ·rw[e,dL];exact ok.2
  ·rw[eZ e];exact a.sA m ((mem_addK.mp (o b).1).resolve_right e)
 |amount n=>exact#[#[a,am,nd],h.nz,h.kn,h.wn,d]
 |sum n=>exact#[#[a,am,nd],h.nz,h.kn,h.wn,d]
 |cost=>exact#[#[a,am,nd],h.nz,h.kn,h.wn,d]
 |look=>exact#[#[a,am,nd],h.nz,h.kn,h.wn,d]
abbrev Off(X:List Addr)(G H:Hp):Prop:=∀b o,G b=some o->H b=some o/\¬b∈X
def Off.all(h:Off X G H):Same G H:=λb o e=>(h b o e).1
def Off.same(h:Off X G H)(s:Same H H'):Off X G H':=λb o e=>#[s _ _ (h b o e).1,(h b o e).2]
def Off.cut(X:List Addr)(H:Hp):Off X (cutH X H) H:=λb o e=>cutH.sub e
def Off.stp(h:Off [p,dw,dy,da,d0,d1,d2] G H)(s:Stp p dw dy da db H H'):Off [p,dw,dy,db,d0,d1,d2] G H':=λb o e=>by
 let#[u,c]:=h b o e;simp only[jR,jV,lN,not_or]at c⊢;let#[a,i,d,t,j,m,l]:=c;let#[r,q]:=s b o u a i d t;exact#[r,a,i,d,q,j,m,l]
def Off.kpm(h:Off [p,dw,dy,da,d0,d1,d2] G H)(s:KpM d0 d1 d2 H H'):Off [p,dw,dy,da,d0,d1,d2] G H':=λb o e=>by
 let#[j,a]:=h b o e;refine#[?_,a];simp only[jR,jV,lN,not_or]at a;let#[l,q,m,r,c,i,d]:=a;exact s b o j c i d
structure Apx(dw dy da d0 d1 d2:Addr):Prop where
 w0:d0≠dw
 w1:d1≠dw
 w2:d2≠dw
 y0:d0≠dy
 y1:d1≠dy
 y2:d2≠dy
 a0:d0≠da
 a1:d1≠da
 a2:d2≠da
def DeskAt.tupk(D:DeskAt a H p dw dy da S)(st:Stp p dw dy da db H H')(b:Addr)(o:HO)(e:H b=some o)(n1:∀kv,o≠.dK kv)(n2:∀C dx fs,o≠.ins C dx fs):H' b=some o:=by
 let#[dx,h]:=D.ob;let#[l,c,_]:=D.wa;let#[j,d,_]:=D.wy;let#[m,i,_]:=D.am;exact(st b o e (bK e h (n2 _ _ _)) (bK e c (n1 _)) (bK e d (n1 _)) (bK e i (n1 _))).1
def MdAt.stp(M:MdAt H m d0 d1 d2 S ms B)(D:DeskAt a H p dw dy da S')(ap:Apx dw dy da d0 d1 d2)(st:Stp p dw dy da db H H'):MdAt H' m d0 d1 d2 S ms B/\Apx dw dy db d0 d1 d2:=by
 let#[I,h]:=D.ob;let#[G,j,s]:=M.t0;let#[E,l,r]:=M.t1;let#[o,i,t]:=M.t2;have c:∀b d,H b=some (.tup d)->H' b=some (.tup d):=λb d e=>D.tupk st b _ e (λ_ z=>by cases z) (λ_ _ _ z=>by cases z);let#[F,A]:=st d0 _ j (bK j h (by intro z;cases z)) ap.w0 ap.y0 ap.a0;let#[q,y]:=st d1 _ l (bK l h (by intro z;cases z)) ap.w1 ap.y1 ap.a1;let#[w,u]:=st d2 _ i (bK i h (by intro z;cases z)) ap.w2 ap.y2 ap.a2;exact#[#[c _ _ M.hm,#[G,F,s.mono λv x z=>PrIs.tups z c],#[E,q,r.mono λv x(z:WyIs H v x)=>z.tups c],#[o,w,t.mono λv x z=>PrIs.tups z c],M.n01,M.n02,M.n12],#[ap.w0,ap.w1,ap.w2,ap.y0,ap.y1,ap.y2,A,y,u]]
def DeskAt.kpm(D:DeskAt a H p dw dy da S)(M:MdAt H m d0 d1 d2 S' ms B)(ap:Apx dw dy da d0 d1 d2)(kp:KpM d0 d1 d2 H H'):DeskAt a H' p dw dy da S:=by
 let#[G,l,_]:=M.t0;let#[I,u,_]:=M.t1;let#[F,j,_]:=M.t2;let#[c,A]:=D.ob;let#[t,o,s]:=D.wa;let#[i,y,ty]:=D.wy;let#[r,E,w]:=D.am;have d:∀b C c fs,H b=some (.ins C c fs)->H' b=some (.ins C c fs):=λb C c fs e=>kp b _ e (bK e l (by intro z;cases z)) (bK e u (by intro z;cases z)) (bK e j (by intro z;cases z));have h:Stays a H H':=λb C c fs _ e=>d _ _ _ _ e;have fr:∀v x,FrIs a H v x->FrIs a H' v x:=(by rintro v x⟨q,e,f⟩;exact#[q,e,h.fr f]);exact#[#[c,d _ _ _ _ A],#[t,kp _ _ o ap.w0.symm ap.w1.symm ap.w2.symm,s.mono fr],#[i,kp _ _ y ap.y0.symm ap.y1.symm ap.y2.symm,ty.mono λv x z=>z.keep h],#[r,kp _ _ E ap.a0.symm ap.a1.symm ap.a2.symm,w.mono fr],D.n1,D.n2,D.n3]
def PartsAt.stp(h:PartsAt H l r)(D:DeskAt a H p dw dy da S)(st:Stp p dw dy da db H H'):PartsAt H' l r:=by
 let#[d,e,k]:=h;refine#[d,D.tupk st l _ e (λ_ z=>by cases z) (λ_ _ _ z=>by cases z),k.mono λv c z=>?_]
 cases c with
 |nm n=>exact z
 |fr x=>exact PrIs.tups z λb i e=>D.tupk st b _ e (λ_ z=>by cases z) (λ_ _ _ z=>by cases z)
 |no=>exact z
structure LInv(a:Ad)(N:List Str)(HB H:Hp)(p dw dy da m d0 d1 d2 th:Addr)(S:DS)(ms:List Str)(B:Str->Rat):Prop where
 D:DeskAt a H p dw dy da S
 M:MdAt H m d0 d1 d2 S ms B
 lo:LOk N S ms B
 ap:Apx dw dy da d0 d1 d2
 oB:Off [p,dw,dy,da,d0,d1,d2] HB H
 hh:∃HH Sh msh Bh,Off [p,dw,dy,da,d0,d1,d2] HH H/\ToldAt a HH th Sh msh Bh/\LOk N Sh msh Bh
def LInv.mono(h:LInv a N HB H p dw dy da m d0 d1 d2 th S ms B)(s:Same H H'):LInv a N HB H' p dw dy da m d0 d1 d2 th S ms B:=by
 let#[e,i,b,c,j,TH,d]:=h.hh;exact#[h.D.mono s,h.M.mono s,h.lo,h.ap,h.oB.same s,e,i,b,c,j.same s,TH,d]
def cut_both(i j:Nat):cutV xs (some (i:Int)) (some (j:Int))=(xs.drop (min i xs.length)).take (min j xs.length-min i xs.length):=by
 unfold cutV;rw[HT.sIx_nat,HT.sIx_nat]
def tupR_str(y:Nat×Str):∃l:List Str,tupR y=l.map V.str:=by
 let#[i,n]:=y
 match i with
 |0=>exact#[["row"],8]
 |1=>exact#[["place",n],8]
 |i+2=>exact#[["way",n],8]
def ok_law(N:Fun K "law" "law" s_law f fd)(T:TX K mg a):FnOk P w K mg base CX0 16 f fd ["_law_script"] (spLaw K):=by
 refine N.ok sc_law (λvs H Q E h=>?_) (λc5 A cu s H vs Q E X h=>?_)
 ·let#[l,ns,8,_]:=h;rfl
 ·let#[l,ns,8,hS,cv,cy,k]:=h;refine'#[_,aB ?s0 ?r0,?kk]
  case s0=>exact(aR (i:=1) sc_law.nd rfl (Or.inl rfl) (aZ (ok_law_names T) X aL (aA (aQ bQ (aQ dA (aZ (hZ T) X aL (aA (pv 0) (aA aF aD))) aF) (aQ iV aF aF)) aD)))
  case' r0=>refine' aB ?s1 ?r1
  case s1=>exact(aR (i:=2) sc_law.nd rfl (Or.inl rfl) (pe_mk0 (mk_Desk T) X T.mg_Desk aL))
  case' r1=>refine' aB ?s2 ?r2
  case s2=>exact(aR (i:=3) sc_law.nd rfl (Or.inl rfl) (cH (aA di (aA di (aA di aD)))))
  case' r2=>refine' aB ?s3 ?r3
  case s3=>exact(aR (i:=4) sc_law.nd rfl (Or.inl rfl) (aZ (hX T) X aL (aA (pv 2) (aA (pv 3) aD))))
  case' r3=>refine' aB ?s4 ?r4
  case s4=>exact(aR (i:=5) sc_law.nd rfl (Or.inl rfl) (pv 4))
  case' r4=>refine' bH ?s5 ?r5
  case s5=>exact(cS kl rfl (pi_enum (by rfl) T.z_enumerate (aA (hJ sl_list (pv 0) (gv aF) (gv aF)) aD)) (gx (n:=2) rfl (bJ (bD (i:=6) sc_law.nd rfl (Or.inl rfl)) (bJ (bD (i:=7) sc_law.nd rfl (Or.inl rfl)) dH))) (bH (aW (aK bL (pv 6) (aQ bQ (aZ (hZ T) X aL (aA (pv 0) (aA aF aD))) aF) (aS _)) (aE (aR (i:=5) sc_law.nd rfl (Or.inl rfl) (aZ (hX T) X aL (aA (pv 2) (aA (pv 3) aD))))) aJ)
   (aB (aR (i:=8) sc_law.nd rfl (Or.inl rfl) (aZ (ok_law_parts T) X aL (aA (pv 7) (aA (pv 1) (aA (pe_and (gy op_gt (bC eY (by rfl) T.z_len lQ (aA (pv 0) aD)) aF (aS _)) (pe_one (gy bL (aQ bQ (aN aU (pv 0) aF (λ_ _=>rfl)) aF) aF (aS _)))) aD)))))
   (aE (aW (aK (op_alt iK (op_neT X.units0)) (aZ (ok_law_said T) X aL (aA (pv 2) (aA (aZ (ok_law_row T) X aL (aA (pv 8) aD)) aD))) (aZ (ok_law_answer T) X aL (aA (pv 3) (aA (pv 8) aD))) (aS _)) (aE (aM pe_bl)) aJ)))))
  case' r5=>refine' aB ?s6 ?r6
  case s6=>exact(aR (i:=9) sc_law.nd rfl (Or.inl rfl) (cD (CX:=CX0) (pv 2) X aL))
  case' r6=>refine' aB ?s7 ?r7
  case s7=>exact(dm (cA X) (pv 9) aT (eT (mk1 T) X T.mg_Fraction aL (aA aF aD)) rfl)
  case' r7=>refine' aB ?s8 ?r8
  case s8=>exact(bG (dr kj kf kg bU (cD (CX:=CX0) (cD (CX:=CX0) (pv 2) X aL) X aL) (aA aT aD)))
  case' r8=>refine' aB ?s9 ?r9
  case s9=>exact(aR (i:=10) sc_law.nd rfl (Or.inl rfl) (aZ (hX T) X aL (aA (pv 2) (aA (pv 3) aD))))
  case r9=>exact aE (aM (pe_and (aZ (gA T) X aL (aA (pv 3) (aA (pv 10) aD))) (pe_and (aZ (gA T) X aL (aA (pv 3) (aA (pv 5) aD))) (pe_one (aZ (gA T) X aL (aA (pv 3) (aA (pv 4) aD)))))))
  try dsimp only[bF,Cx.nox,Cx.wish]
  refine#[9,l,ns,0,8,hS,7,#[5,5],7,#[5,5,5],7,by show(0:Int)<10^9;decide,9,Int.emod_nonneg _ (by decide),λln H1 NN nl s1 b3 ab=>?_];intro p dx n1 n2 n3;have ss:=same_two (C:=a.Desk) n1 n2;refine#[p,dx,8,aC,λH2 J O Y m1 m2 m3 hs hD=>#[8,?_]];have s2:=same_new n1 n2 hs;have nw:=ss.free m1;have ny:=ss.free m2;have na:=ss.free m3;have D2:=hD (λ_=>0) (λn=>#[n,n,n,.gro,0,none,0]) (λ_=>0);clear hD hs ss m1 m2 m3;let#[kw,hw,_]:=id D2.wa;let#[ky,hy,_]:=id D2.wy;let#[ka,ha,_]:=id D2.am;intro G Z;have s3:=aI (o:=.dK []) Z;have e0:upd H2 G (.dK []) G=some (.dK []):=aC;have w0:G≠J:=λz=>by rw[z,hw]at Z;cases Z
  have y0:G≠O:=λz=>by rw[z,hy]at Z;cases Z
  have a0:G≠Y:=λz=>by rw[z,ha]at Z;cases Z
  have f0:=s2.free Z;generalize upd H2 G (.dK [])=H3 at s3 e0⊢;have bo:=s2.trans s3;intro u W;have s4:=aI (o:=.dK []) W;have e1:upd H3 u (.dK []) u=some (.dK []):=aC;have w1:u≠J:=λz=>by rw[z,s3 _ _ hw]at W;cases W
  have y1:u≠O:=λz=>by rw[z,s3 _ _ hy]at W;cases W
  have a1:u≠Y:=λz=>by rw[z,s3 _ _ ha]at W;cases W
  have cb:G≠u:=λz=>by rw[<-z,e0]at W;cases W
  have f1:=bo.free W;have a3:=s4 _ _ e0;generalize upd H3 u (.dK [])=H4 at s4 e1 a3⊢;have bj:=bo.trans s4;have ai:=s3.trans s4;intro v U;have s5:=aI (o:=.dK []) U;have e2:upd H4 v (.dK []) v=some (.dK []):=aC;have w2:v≠J:=λz=>by rw[z,ai _ _ hw]at U;cases U
  have y2:v≠O:=λz=>by rw[z,ai _ _ hy]at U;cases U
  have a2:v≠Y:=λz=>by rw[z,ai _ _ ha]at U;cases U
  have b0:G≠v:=λz=>by rw[<-z,a3]at U;cases U
  have ck:u≠v:=λz=>by rw[<-z,e1]at U;cases U
  have f2:=bj.free U;have ay:=s5 _ _ a3;have av:=s5 _ _ e1;generalize upd H4 v (.dK [])=H5 at s5 e2 ay av⊢;have cr:=bj.trans s5;have ak:=ai.trans s5;refine#[zL3,λm nm=>?_];let#[H6,zq,s6,bf]:=uG (o:=.tup [.ref G,.ref u,.ref v]) nm;rw[zq];have a9:=cr.trans s6;have D6:=D2.mono (ak.trans s6);have ce:SqL K H6 l (ns.map V.int):=(s1.trans a9).seq hS;have M6:MdAt H6 m G u v #[[],λ_=>0,[],λn=>#[n,n,n,.gro,0,none,0],[],λ_=>0] [] (λ_=>0):=#[bf,#[[],s6 _ _ ay,Tab.nil],#[[],s6 _ _ av,Tab.nil],#[[],s6 _ _ e2,Tab.nil],cb,b0,ck];have lo:LOk NN #[[],λ_=>0,[],λn=>#[n,n,n,.gro,0,none,0],[],λ_=>0] [] (λ_=>0):=#[#[#[List.nodup_nil,List.nodup_nil,List.nodup_nil,jZ _,jZ _,λn h=>absurd h jV,λn h=>absurd h jV,λn h=>absurd h jV,λn h=>absurd h jV,λn h=>absurd h jV],λ_=>rfl,List.nodup_nil],λn h=>absurd h jV,λn h=>absurd h jV,λn h=>absurd h jV,λn h=>absurd h jV];obtain⟨S,ms,B,D6,M6,lo⟩:yE3 λS ms B=>DeskAt a H6 p J O Y S×' MdAt H6 m G u v S ms B×' LOk NN S ms B:=#[_,_,_,D6,M6,lo];have ap:Apx J O Y G u v:=#[w0,w1,w2,y0,y1,y2,a0,a1,a2];refine#[9,9,p,J,O,Y,m,G,u,v,S,ms,B,8,D6,lo.mo.so,M6,lo.mo.nm,λtf H7 s7 TF=>?_];refine#[9,?_];have b6:=a9.trans s7;have ct:=s7.seq ce
  have cm:∀b,b∈[p,J,O,Y,G,u,v]->H1 b=none:=λb hb=>by
   simp only[jR,jV,lN]at hb;rcases hb with rfl|rfl|rfl|rfl|rfl|rfl|rfl<;>assumption
  refine dX (λσ' H'=>yE8 λth z6 z7 z8 d R L B'=>σ'=[some (.ref l),some (.ref ln),some (.ref p),some (.ref m),some (.ref tf),some (.ref th),z6,z7,z8,none,none]/\LInv a NN (cutH [p,J,O,Y,G,u,v] H7) H' p J O d m G u v th R L B') ?_ ?_
  ·refine#[9,9,9,l,9,ct,λls bm=>?_]
   have ec:∃cs:List Int,cutV (ns.map V.int) (some 2) (some 63)=cs.map V.int/\(cs≠[]->ns≠[]):=by
    refine#[(ns.drop (min 2 ns.length)).take (min 63 ns.length-min 2 ns.length),?_,λh e=>h (by rw[e];rfl)]
    have:=cut_both (xs:=ns.map V.int) 2 63
    rw[jE,<-List.map_drop,<-List.map_take]at this;exact this
   let#[cs,ec,ne]:=ec;rw[ec];let#[H8,zq,s8,a7]:=uG (o:=.lst (cs.map V.int)) bm;rw[zq];have cd:=b6.trans s8;have oB:Off [p,J,O,Y,G,u,v] (cutH [p,J,O,Y,G,u,v] H8) H8:=.cut _ _;have sB:Same H1 (cutH [p,J,O,Y,G,u,v] H8):=λb o e=>cutH.at_ (cd _ _ e) λhb=>by rw[cm b hb]at e;cases e
   have sF:Same (cutH [p,J,O,Y,G,u,v] H7) (cutH [p,J,O,Y,G,u,v] H8):=λb o e=>cutH.at_ (s8 _ _ (cutH.sub e).1) (cutH.sub e).2
   have bh:cutH [p,J,O,Y,G,u,v] H8 ls=some (.lst (cs.map V.int)):=cutH.at_ a7 λhb=>by
    have hx:∀b,b∈[p,J,O,Y,G,u,v]->H7 b≠none:=λb hb=>by
     let#[c2,cn]:=(D6.mono s7).ob;simp only[jR,jV,lN]at hb;have bz:=s7 _ _ (ak.trans s6 _ _ hw);have cg:=s7 _ _ (ak.trans s6 _ _ hy);have cj:=s7 _ _ (ak.trans s6 _ _ ha);have b4:=s7 _ _ (s6 _ _ ay);have b7:=s7 _ _ (s6 _ _ av);have b9:=s7 _ _ (s6 _ _ e2);rcases hb with rfl|rfl|rfl|rfl|rfl|rfl|rfl
     ·rw[cn];intro z;cases z
     ·rw[bz];intro z;cases z
     ·rw[cg];intro z;cases z
     ·rw[cj];intro z;cases z
     ·rw[b4];intro z;cases z
     ·rw[b7];intro z;cases z
     ·rw[b9];intro z;cases z
    exact hx _ hb bm
   have ao:SqL K (cutH [p,J,O,Y,G,u,v] H8) l (ns.map V.int):=sB.seq (s1.seq hS);have bw:=sB _ _ b3;have TB:=TF.mono sF;have bp:∀{d:Addr}{H':Hp},Off [p,J,O,d,G,u,v] (cutH [p,J,O,Y,G,u,v] H8) H'->Off [p,J,O,d,G,u,v] (cutH [p,J,O,Y,G,u,v] H7) H':=λo b ob e=>o b ob (sF b ob e);generalize cutH [p,J,O,Y,G,u,v] H8=HB at oB bh ao bw TB bp;refine#[ls,9,SqL.of a7,?_]
   refine for_enum (K:=K) (a:=ls) (xs:=cs.map V.int) (λi σ H9=>yE8 λth z6 z7 z8 d R L B'=>σ=[some (.ref l),some (.ref ln),some (.ref p),some (.ref m),some (.ref tf),some (.ref th),z6,z7,z8,none,none]/\LInv a NN HB H9 p J O d m G u v th R L B')
    #[tf,none,none,none,Y,S,ms,B,8,(D6.mono s7).mono s8,(M6.mono s7).mono s8,lo,ap,oB,HB,S,ms,B,oB,TB,lo] ((by rintro i σ H9⟨_,_,_,_,_,_,_,_,_,I⟩;exact SqL.of (I.oB.all _ _ bh))) ?_ ?_
   ·rintro i x t σ H9 hx nt⟨th,z6,z7,z8,d,R,L,B',rfl,I⟩;rw[jM]at hx;let#[c,br,8]:=kq.mp hx;have cf:ns≠[]:=ne λe=>by rw[e]at br;cases br
    have ac:=aI (o:=.tup [.int i,.int c]) nt;have ht:upd H9 t (.tup [.int i,.int c]) t=some (.tup [.int i,.int c]):=aC;have I:=I.mono ac;generalize upd H9 t (.tup [.int i,.int c])=aw at ac ht I⊢;refine#[t,[.int i,.int c],8,SqT.of ht,8,.int i,[.int c],8,#[.int c,[],8,#[8,?_]]];refine dX (λσ' H'=>∃aa,σ'=[some (.ref l),some (.ref ln),some (.ref p),some (.ref m),some (.ref tf),some (.ref aa),some (.int i),some (.int c),z8,none,none]/\LInv a NN HB H' p J O d m G u v aa R L B') ?_ ?_
    ·refine#[9,9,l,ns,1,8,I.oB.all.seq ao,7,zI60,8,9,ifV (λ_=>?_) (λ_=>#[th,8,I])];exact#[9,9,p,J,O,d,m,G,u,v,R,L,B',8,I.D,I.lo.mo.so,I.M,I.lo.mo.nm,λaa a4 a5 TA=>#[aa,8,I.D.mono a5,I.M.mono a5,I.lo,I.ap,I.oB.same a5,_,R,L,B',.cut _ _,TA,I.lo]]
    rintro zU ar σ' a4⟨aa,rfl,I⟩;have sl:=I.oB.all.seq ao;have cp:=I.oB.all _ _ bw;have l0:0<ns.length:=List.length_pos_iff.mpr cf;obtain⟨n0,b1⟩:∃n0,ns[0]?=some n0:=#[_,jF l0];have at0:atI (ns.map V.int) 0=some (.int n0):=iw (j:=0) (by rw[jM,b1];rfl);subst ar;refine#[9,9,9,l,9,.inl sl,7,9,bT (jL (by rw[jE];lia)) ?_];refine#[9,l,_,7,sl,at0,7,zI2,8,c,ln,NN,9,cp,ab,λq ax r al hp ok ca=>?_];have I:=I.mono al;have aq:=I.lo.ln ab;refine#[9,9,q,r,8,hp,ok,λaz af=>?_];have I:=I.mono af;have hp:=hp.mono af;have l5:=I.lo.len ab;refine#[p,J,O,d,R,r,8,I.D,ok,I.lo.mo.so,aq,λdue bl db st b8=>?_,λy due q2 bl a8 bc=>?_]
    ·let#[bv,an]:=I.M.stp I.D I.ap st;have bq:=hp.stp I.D st;refine#[9,9,m,G,u,v,q,R,L,B',r,8,bv,I.lo.mo,4,bq,ok,aq,λcw be cc B2 kp bx am nd sub=>?_,λy e=>by rw[due]at e;cases e];refine .inl #[8,9,iO rfl ?_];let#[HH,Sh,au,Bh,oH,TH,lh]:=I.hh;exact#[aa,_,_,_,db,R.next r,cc,B2,8,b8.kpm bv an kp,bx,I.lo.next ab ok ca due am nd sub,an,(I.oB.stp st).kpm kp,HH,Sh,au,Bh,(oH.stp st).kpm kp,TH,lh]
    ·have I:=I.mono a8;refine#[9,9,m,G,u,v,q,R,L,B',r,8,I.M,I.lo.mo,4,hp.mono a8,ok,aq,λe=>by(rw[due]at e;cases e),λy' e q3 be aj bg=>?_];rw[due]at e
     cases e;let#[yl,ey]:=tupR_str y;rw[ey]at bc bg;refine .inr #[q2,q3,7,SqT.of (aj _ _ bc),SqT.of bg,gg _,gg _,9,aX (by rw[eqVs_self];rfl) ?_];exact#[aa,_,_,_,d,R,L,B',8,I.mono aj]
   ·rintro σ H9⟨th,z6,z7,z8,d,R,L,B',rfl,I⟩;exact#[th,z6,z7,z8,d,R,L,B',8,I.D,I.M,I.lo,I.ap,bp I.oB,I.hh]
  rintro zU ar σ' H8⟨th,z6,z7,z8,d,R,L,B',rfl,I⟩;let#[ba,bu]:=I.D.ob;have ci:=ej J O d (m:="net") (by decide+kernel);have co:=ej J O d (m:="plan") (by decide+kernel);subst ar;refine#[9,p,a.Desk,ba,_,_,["self"],spPlan a,8,bu,co,T.cl_Desk,5,jp T,p,J,O,d,R,8,I.D,λr H9 bt nr s9 b2 tr=>?_];have cz:=tr.len;have c1:=I.lo.mo.so.la;refine#[1,1,8,5,sm1,λrf aw c3 ac _=>?_];have bn:=ac _ _ b2;refine#[9,r,9,DPut.k (k:=Sum.inr "q") bn (bB ()),?_];have ad:Same H8 (upd aw r (.dK (bX bt (Sum.inr "q") (.ref rf)))):=bY nr (s9.trans ac);generalize upd aw r (.dK (bX bt (Sum.inr "q") (.ref rf)))=a4 at ad⊢;have a6:=I.mono ad;refine#[9,p,a.Desk,ba,_,_,["self"],spDNet a,8,ad _ _ bu,ci,T.cl_Desk,5,eL T,p,J,O,d,R,8,a6.D,a6.lo.mo.so,λq ax nq al hn=>?_];let#[dn,wn,yn,hq,_]:=id hn.at_;have cl:=eP wn yn (m:="names") (by decide+kernel) (by decide+kernel);refine#[q,a.Net,dn,_,_,["self"],gT a,8,hq,cl,T.cl_Net,5,eU T,q,_,9,hn.at_,λl3 m3=>?_];let#[az,zq,af,as]:=uG (o:=.lst (R.ps.map λx=>V.str x.1)) m3;rw[zq]
  have c0:(R.ps.map λx=>V.str x.1).length<=11:=by
   have:=I.lo.mo.so.lk
   unfold DS.ps;rw[jE,jE];exact this
  refine#[.inl #[8,_,SqL.of as],l3,7,as,bB (),?_]
  have ah:Same a4 (upd az l3 (.lst (R.ps.map (λx=>V.str x.1)++[.str "q"]))):=λb o e=>by
   rw[aG (aP (al _ _ e) m3)];exact af _ _ (al _ _ e)
  generalize upd az l3 (.lst (R.ps.map (λx=>V.str x.1)++[.str "q"]))=bl at ah⊢;have ae:=a6.mono ah;refine#[9,9,p,J,O,d,m,G,u,v,R,L,B',8,ae.D,ae.lo.mo.so,ae.M,ae.lo.mo.nm,λtl be aj TL=>?_];have ag:=ae.mono aj;let#[HH,Sh,au,Bh,oH,TH,lh]:=ag.hh;have l5:=ag.lo.len ab;have c4:=lh.len ab;have l6:=lo.len ab;refine#[9,9,m,tl,R,L,B',8,TL.mono (Off.cut _ _).all,ag.lo.mo,ag.lo.nz,4,λc6 bb=>#[9,iteT ?_]];refine#[9,9,m,th,Sh,au,Bh,8,TH.mono (λb o e=>bb _ _ (oH.all _ _ e)),lh.mo,lh.nz,4,λcx cq=>#[9,iteT ?_]];exact#[9,9,m,tf,S,ms,B,8,TF.mono (λb o e=>cq _ _ (bb _ _ (ag.oB.all _ _ e))),lo.mo,lo.nz,4,λb5 _=>k b5]
end
end G
namespace G
open PySem L2
def ln1{α:Type}{P:List α->Prop}(h:∀a,P [a]):∀us:List α,us.length=1->P us
 |[a],_=>h a
def ln2{α:Type}{P:List α->Prop}(h:∀a b,P [a,b]):∀us:List α,us.length=2->P us
 |[a,b],_=>h a b
def ln3{α:Type}{P:List α->Prop}(h:∀a b c,P [a,b,c]):∀us:List α,us.length=3->P us
 |[a,b,c],_=>h a b c
def ln5{α:Type}{P:List α->Prop}(h:∀a b c d e,P [a,b,c,d,e]):∀us:List α,us.length=5->P us
 |[a,b,c,d,e],_=>h a b c d e
def ln6{α:Type}{P:List α->Prop}(h:∀a b c d e f,P [a,b,c,d,e,f]):∀us:List α,us.length=6->P us
 |[a,b,c,d,e,f],_=>h a b c d e f
def ln7{α:Type}{P:List α->Prop}(h:∀a b c d e f g,P [a,b,c,d,e,f,g]):∀us:List α,us.length=7->P us
 |[a,b,c,d,e,f,g],_=>h a b c d e f g
section
variable{K:W.Frag}{h:Heap}{mg:Str->Option Value}{x qual:Str}{st:Stmt}{f C T:Addr}{fd:FuncData}{ps:List Str}{ds:Array Value}{oc:Value}{od an:Option Addr}{osl:Array (Option Value)}{kV doc pm cdv ct:Value}
abbrev BA(x qual:Str)(st:Stmt)(ps:List Str)(us:List Value):Prop:=∀(kV doc pm:Value)(an:Option Addr)(cdv ct:Value),bindArgs (W.fnOf x qual (em st) (cE st) (aH st) .none kV doc pm an cdv ct) #[us,[]]=pure (ps.zip us)
abbrev BE(x qual:Str)(st:Stmt)(ps:List Str)(ds:Array Value)(es us:List Value):Prop:=∀(T:Addr)(kV doc pm:Value)(an:Option Addr)(cdv ct:Value),∃k,bindArgs (W.fnOf x qual (em st) (cE st) (aH st) (.ref T) kV doc pm an cdv ct) #[us,[]]=seqItems? (.ref T)>>=k/\k (some ds)=pure (ps.zip (us++es))
def bi(N:Fun K x qual st f fd)(b:∀us:List Value,us.length=ps.length->BA x qual st ps us):Binds K fd ps []:=N.binds λkV c i h a d us e=>b us e kV c i h a d
def biD{es:List Value}{n:Nat}(N:FunD K x qual st f fd ds)(e:n+es.length=ps.length)(b:∀us:List Value,us.length=n->BE x qual st ps ds es us):Binds K fd ps es:=N.binds λT kV c j i a d us h=>b us (by rw[j5]at h;omega) T kV c j i a d
def mD(X:K.In h)(G:h.Ns mainGlobals mg)(a:W.nsIn K mainGlobals x=some (some (.ref f)))(N:Fun K x x st f fd)(b:∀us:List Value,us.length=ps.length->BA x x st ps us):FDe K mg x st ps:=#[_,_,N,W.mg_of X G a,bi N b]
def mM(a:W.findIn K (.ref C) x=some (some (.ref f)))(N:Fun K x qual st f fd)(i:W.isFn K (.ref f)=true)(b:∀us:List Value,us.length=ps.length->BA x qual st ps us):MDe K C x qual st ps:=#[_,_,N,#[a,i,N.kp],bi N b]
def mI(a:W.findIn K (.ref C) "__init__"=some (some (.ref f)))(N:Fun K "__init__" qual st f fd)(m:W.makesIn K C=true)(i:W.isFn K (.ref f)=true)(k:W.keepIn K (.ref C)=true)(b:∀us:List Value,us.length=ps.length->BA "__init__" qual st ps us):IDe K C qual st ps [[]]:=#[_,_,N.gen,#[m,a,i,k],λc hd=>by cases li.mp hd;exact#[[],.nil,bi N b]]
def mX(a:W.findIn K (.ref C) "__init__"=some (some (.ref f)))(N:Fun K "__init__" qual st f fd)(t:W.typeIn K (.ref f)=some (.type "function"))(e:excFI K C bmV "ValueError.__new__"=some f)(b:∀us:List Value,us.length=ps.length->BA "__init__" qual st ps us):XiDe K C qual st ps:=#[_,_,N.gen,e,t,bi N b]
def mJ{dvss:List (List V)}(a:W.findIn K (.ref C) "__init__"=some (some (.ref f)))(N:FunD K "__init__" qual st f fd ds)(m:W.makesIn K C=true)(i:W.isFn K (.ref f)=true)(k:W.keepIn K (.ref C)=true)(b:FunD K "__init__" qual st f fd ds->∀dvs∈dvss,∃es,Vals dvs es/\Binds K fd ps es):IDe K C qual st ps dvss:=#[_,_,N.gen,#[m,a,i,k],b N]
def all0{P:List V->Prop}:∀d∈([]:List (List V)),P d:=λ_ h=>nomatch h
def all1{P:List V->Prop}{d:List V}{r:List (List V)}(h:P d)(k:∀d∈r,P d):∀e∈d::r,P e:=λe a=>by
 rcases jR.mp a with rfl|q
 ·exact h
 ·exact k e q
def mCD{n:Nat}(a:W.findCls K (.ref C) (.type "type") "__init__"=some (.val (.ref f)))(N:FunD K "__init__" qual st f fd ds)(r:W.readsIn K C (.type "type")=true)(s:W.specialIn K (.ref C) "__getattribute__"=some (some (.builtin "type.__getattribute__")))(k:W.keepIn K (.ref f)=true)(e:n=ps.length)(b:∀us:List Value,us.length=n->BE "__init__" qual st ps ds [] us):CDe K C qual st ps:=#[_,_,N.gen,#[r,s],a,k,biD (es:=[]) N e b]
def mE0{cd:ClassData}(a:W.clsIn K C=some cd):∃cd,W.clsIn K C=some cd:=#[_,a]
def mGi{v:Int}{t:Tok}(X:K.In h)(G:h.Ns mainGlobals mg)(a:W.nsIn K mainGlobals x=some (some (.int v t))):∃tk,mg x=some (.int v tk):=#[_,W.mg_of X G a]
def mGs{v:Str}{t:Tok}(X:K.In h)(G:h.Ns mainGlobals mg)(a:W.nsIn K mainGlobals x=some (some (.str v t))):∃tk,mg x=some (.str v tk):=#[_,W.mg_of X G a]
def mE2{cd:ClassData}{a0 a1:Addr}(a:W.clsIn K C=some cd)(b:cd.mro=[a0,a1].map Value.ref++bmV)(c:cd.hasDict=true)(d:W.findIn K (.ref C) "__setattr__"=some (some (.builtin "object.__setattr__"))):ExI K C:=#[#[_,_,a,b,c],d]
end
def top{l:W.OpenLaw}{w:World}{K:W.Frag}{mg:Str->Option Value}{fa A0 A1 A2 A3 A4 A5 A6 A7 A8 A9 A10 A11 A12 A13 A14 A15 A16 A17 A18 A19 A20 A21:Addr}(hfa:mg "law"=some (.ref fa))(T:TX K mg #[A0,A1,A2,A3,A4,A5,A6,A7,A8,A9,A10,A11,A12,A13,A14,A15,A16,A17,A18,A19,A20,A21]):
  ∃fd:FuncData,(∀(s:Shared)(v:Value),BindsTo s fd #[[v],[]] [("_law_script",v)])/\∀base:Heap,K.In base->base.Ns mainGlobals mg->FnOk l.prog w K mg base CX0 16 fa fd ["_law_script"] (spLaw K):=by
 let#[f,fd,N,e,_]:=T.d_law
 cases hfa.symm.trans e;let#[i,h,kV,a,j,m,b,d,c,8,_,_]:=N.ex;exact#[_,λs v=>.of_eq rfl,λbase _ _=>zz_all (λT f fd N=>ok_law N T) #[l.prog,w,K,mg,base,_] T _ _ N]
def walkL{l:PySem.W.OpenLaw}{q:Program}{loose:List Str}{XP:(Str->Option Value)->Heap->Prop}{YP:World->Heap->Prop}{d:DefRec}{K:Params->W.Frag}(hn:l.most=some 63)(hdf:d.params.defaults=[])(hi:PyProof.Rows.importsNone q=true)
  (hY:∀(w:World)(h:Heap),YP w h->(K w.params).In h)
  (F:∀(w:World)(mg:Str->Option Value)(fa:Addr)(h:Heap),(K w.params).In h->h.Ns mainGlobals mg->mg d.name=some (.ref fa)->
   ∃fd:FuncData,(∀(s:Shared)(u:Value),BindsTo s fd #[[u],[]] [("_law_script",u)])/\∀base:Heap,(K w.params).In base->base.Ns mainGlobals mg->FnOk l.prog w (K w.params) mg base CX0 16 fa fd ["_law_script"] (spLaw (K w.params))):
  PySem.W.WalkO q loose XP YP l.row.toRowW d [] (λf vs=>PySem.call f vs):=
 L2.walk_ofB (n:=63) (k:=16) (x:="_law_script") (CX:=λ_=>CX0) (sp:=λw=>spLaw (K w.params)) hn (by decide) hdf hi #[8,5,5] hY F (λ_ _ a j c b _ e=>#[a,j,8,e,c,λi hi=>#[b i hi],λ_=>rfl]) λ_ _ _ _ _ z=>z
end G
open PySem L2 in
local macro_rules | `(tactic| walk_at $s:str) => do
  let v := (s.getString.splitOn " ").toArray
  if v.size < 3 then Lean.Macro.throwUnsupported
  let id (i : Nat) := Lean.mkIdent (Lean.Name.mkSimple s!"o{i}")
  let KX := Lean.mkIdent `KX
  let GN := Lean.mkIdent `GN
  let ln (n : Nat) := Lean.mkIdent (Lean.Name.mkStr2 "G" s!"ln{n}")
  let us (n : Nat) : Lean.MacroM (Lean.TSyntax `term) := do
    let hs ← (Array.range n).mapM fun _ => `(Lean.Parser.Term.funBinder| _)
    `(fun $hs:funBinder* => rfl)
  let ks ← `(tactic| (try dsimp only) <;> k_is)
  if v[0]! == "H" then
    let hs ← (Array.range v[2]!.toNat!).mapM fun i => `(?$(id i):ident)
    return ← `(tactic| refine' G.top $(Lean.mkIdent `hmg) ⟨$hs,*⟩)
  let i0 := v[1]!.toNat!
  let mut ts : Array (Lean.TSyntax `tactic) := (List.toArray [])
  for (t, j) in (v.extract 2 v.size).zipIdx do
    let c := t.take 1 |>.toString
    let n := (t.drop 1).toString.toNat!
    let i := id (i0 + j)
    if (c == "m") != (v[0]! == "m") then continue
    let r ← match c with
      | "m" => `(tactic| case $i:ident => refine' W.mg_of $KX $GN ?_; k_is)
      | "d" => `(tactic| case $i:ident => refine' G.mD $KX $GN ?a (fun_mk ?l ?c ?k) ($(ln n) $(← us (n + 6))); (case a => k_is); (case l => k_is); (case c => k_is); (case k => k_is))
      | "M" => `(tactic| case $i:ident => dsimp only; refine' G.mM ?a (fun_mk ?l ?c ?k) ?i ($(ln n) $(← us (n + 6))); (case a => k_is); (case l => k_is); (case c => k_is); (case k => k_is); (case i => k_is))
      | "I" => `(tactic| case $i:ident => dsimp only; refine' G.mI ?a (fun_mk ?l ?c ?k) ?m ?i ?j ($(ln n) $(← us (n + 6))); (case a => k_is); (case l => k_is); (case c => k_is); (case k => k_is); (case m => k_is); (case i => k_is); (case j => k_is))
      | "X" => `(tactic| case $i:ident => dsimp only; refine' G.mX ?a (fun_mk ?l ?c ?k) ?t ?e ($(ln n) $(← us (n + 6))); (case a => k_is); (case l => k_is); (case c => k_is); (case k => k_is); (case t => k_is); (case e => kernel_rfl))
      | "C" => `(tactic| case $i:ident => dsimp only; refine' G.mC ?a (fun_mk ?l ?c ?k) ?r ?s ($(ln n) $(← us (n + 6))); (case a => k_is); (case l => k_is); (case c => k_is); (case k => k_is); (case r => k_is); (case s => k_is))
      | "c" => `(tactic| case $i:ident => refine' #[?_, ?_, ?_, ?_] <;> $ks:tactic)
      | "n" => `(tactic| case $i:ident => refine' (?_ : W.findIn _ _ _ = _); $ks:tactic)
      | "k" => `(tactic| case $i:ident => $ks:tactic)
      | "t" => `(tactic| case $i:ident => (try dsimp only); kit_is)
      | "x" => `(tactic| case $i:ident => (try dsimp only); k_exc)
      | "e" => `(tactic| case $i:ident => refine' G.mE0 ?a; (case a => $ks:tactic))
      | "b" => `(tactic| case $i:ident => refine' #[?_, ?_] <;> $ks:tactic)
      | "g" => `(tactic| case $i:ident => refine' G.mGi $KX $GN ?a; (case a => k_is))
      | "s" => `(tactic| case $i:ident => refine' G.mGs $KX $GN ?a; (case a => k_is))
      | "z" => `(tactic| case $i:ident => refine' W.mg_none_of $KX $GN ?_; k_is)
      | "E" => do
        let e := Lean.mkIdent (Lean.Name.mkStr2 "G" s!"mE{n}")
        `(tactic| case $i:ident => dsimp only; refine' $e ?a ?b ?c ?d; (case a => k_is); (case b => rfl); (case c => rfl); (case d => k_is))
      | _ => continue
    ts := ts.push r
  `(tactic| ($[$ts];*))
open PySem PySem.W PyProof.Rows
set_option maxRecDepth 100000 in
set_option maxHeartbeats 0 in
theorem PySem.Challenge.cw_gainstream_k75_whole_desk_walked_holds : PySem.Challenge.rw_gainstream_k75_whole_desk_walked.Holds := by
 refine PySem.Challenge.hdk75 ?_
 k_fill
 refine G.walkL (l:=PySem.Challenge.rw_gainstream_k75_whole_desk_walked) rfl rfl (by first | k_qdec | decide +kernel) (λ w h Y=>by first | exact PySem.W.kIn_of Y | exact PySem.W.km_in_of Y | exact PySem.W.pk_in_of Y) ?F
 case F=>
  intro w mg fa h KX GN hmg
  walk_at "H 22 256"
  walk_at "m 0 d2 d2 d1 d2 d1 d2 d2 d2 d2 d2 d2 d2 d1 d3 d2 d3 d1 d1 d1 d1 d1 d1 d1 d2 d1 d2 d1 d1 d2 d2 d1 d1 d1 d2 d1 d1 d1 d2 d2 d1 d2 d1 d3 d2 d2 d3 d2 d2 d2 d1 c0 m0 n0 n0 w0 M2 M2 M2 M2 M1"
  walk_at "m 60 M1 k0 k0 m0 m0 m0 m0 c0 m0 n0 n0 n0 n0 n0 w0 M1 M1 M2 k0 k0 c0 m0 n0 n0 n0 n0 n0 n0 w0 M1 M1 M2 k0 k0 c0 m0 n0 n0 n0 n0 n0 n0 M1 M1 M2 k0 k0 c0 m0 n0 n0 n0 n0 n0 n0 M1 M1 M2 k0 k0"
  walk_at "m 120 c0 m0 n0 n0 I3 M1 M2 M2 M1 c0 m0 n0 n0 n0 n0 n0 I1 M1 M1 M2 M2 M2 M2 M2 M1 M2 M1 k0 k0 k0 k0 k0 k0 m0 m0 m0 m0 m0 m0 x0 m0 X2 E2 n0 k0 b0 k0 m0 m0 m0 X2 E2 n0 k0 b0 k0 m0 k0 e0 k0"
  walk_at "r 0 d2 d2 d1 d2 d1 d2 d2 d2 d2 d2 d2 d2 d1 d3 d2 d3 d1 d1 d1 d1 d1 d1 d1 d2 d1 d2 d1 d1 d2 d2 d1 d1 d1 d2 d1 d1 d1 d2 d2 d1 d2 d1 d3 d2 d2 d3 d2 d2 d2 d1 c0 m0 n0 n0 w0 M2 M2 M2 M2 M1"
  walk_at "r 60 M1 k0 k0 m0 m0 m0 m0 c0 m0 n0 n0 n0 n0 n0 w0 M1 M1 M2 k0 k0 c0 m0 n0 n0 n0 n0 n0 n0 w0 M1 M1 M2 k0 k0 c0 m0 n0 n0 n0 n0 n0 n0 M1 M1 M2 k0 k0 c0 m0 n0 n0 n0 n0 n0 n0 M1 M1 M2 k0 k0"
  walk_at "r 120 c0 m0 n0 n0 I3 M1 M2 M2 M1 c0 m0 n0 n0 n0 n0 n0 I1 M1 M1 M2 M2 M2 M2 M2 M1 M2 M1 k0 k0 k0 k0 k0 k0 m0 m0 m0 m0 m0 m0 x0 m0 X2 E2 n0 k0 b0 k0 m0 m0 m0 X2 E2 n0 k0 b0 k0 m0 k0 e0 k0"
  walk_at "r 180 k0 k0 k0 t0 t0 t0 t0 t0 t0 t0 t0 t0 k0 k0 k0 k0 k0 e0 t0 t0 t0 t0 t0 t0 t0 t0 k0 k0 k0 k0 k0 e0 t0 t0 t0 t0 t0 t0 t0 t0 k0 k0 k0 k0 k0 e0 t0 t0 t0 t0 t0 t0 t0 t0 g0 g0 g0 g0 s0 s0"
  walk_at "r 240 w0 z0 z0 z0 z0 z0 z0 z0 z0 z0 z0 z0 z0 z0 z0 z0"
  (case o54=>dsimp only;refine' G.mJ ?a (L2.funD_mk ?l ?c ?t ?d) ?m ?i ?k ?b;(case a=>k_is);(case l=>k_is);(case c=>k_is);(case t=>k_is);(case d=>rfl);(case m=>k_is);(case i=>k_is);(case k=>k_is);(case b=>exact λ N=>G.all1 #[[],.nil,G.biD N rfl (G.ln3 λ _ _ _ _ _ _ _ _ _ _=>#[9,8])] (G.all1 #[[.int 1 _],(.cons #[9] (.nil)),G.biD N rfl (G.ln2 λ _ _ _ _ _ _ _ _ _=>#[9,8])] (G.all0))))
  (case o74=>dsimp only;refine' G.mCD ?a (L2.funD_mk ?l ?c ?t ?d) ?r ?s ?k rfl ?b;(case a=>k_is);(case l=>k_is);(case c=>k_is);(case t=>k_is);(case d=>rfl);(case r=>k_is);(case s=>k_is);(case k=>k_is);(case b=>exact G.ln6 λ _ _ _ _ _ _ _ _ _ _ _ _ _=>#[9,8]))
  (case o88=>dsimp only;refine' G.mJ ?a (L2.funD_mk ?l ?c ?t ?d) ?m ?i ?k ?b;(case a=>k_is);(case l=>k_is);(case c=>k_is);(case t=>k_is);(case d=>rfl);(case m=>k_is);(case i=>k_is);(case k=>k_is);(case b=>exact λ N=>G.all1 #[[],.nil,G.biD N rfl (G.ln7 λ _ _ _ _ _ _ _ _ _ _ _ _ _ _=>#[9,8])] (G.all1 #[[.none,.none],(.cons rfl (.cons rfl (.nil))),G.biD N rfl (G.ln5 λ _ _ _ _ _ _ _ _ _ _ _ _=>#[9,8])] (G.all0))))
  (case o240=>exact #[_,_,_,_,W.mg_of KX GN (by k_is),(by rfl),(by k_is),(by exact #[8,8,8]),(by rfl),(by refine PyProof.Rows.KTD.Rows.cons (by rfl) #[_,_,_,_,(by rfl),(by k_is),(by rfl),(by rfl),(by decide),(by repeat (first | exact .nil | refine .cons ⟨_,rfl⟩ ?_))] ?_;refine PyProof.Rows.KTD.Rows.cons (by rfl) #[_,_,_,_,(by rfl),(by k_is),(by rfl),(by rfl),(by decide),(by repeat (first | exact .nil | refine .cons ⟨_,rfl⟩ ?_))] ?_;refine PyProof.Rows.KTD.Rows.cons (by rfl) #[_,_,_,_,(by rfl),(by k_is),(by rfl),(by rfl),(by decide),(by repeat (first | exact .nil | refine .cons ⟨_,rfl⟩ ?_))] ?_;refine PyProof.Rows.KTD.Rows.cons (by rfl) #[_,_,_,_,(by rfl),(by k_is),(by rfl),(by rfl),(by decide),(by repeat (first | exact .nil | refine .cons ⟨_,rfl⟩ ?_))] ?_;refine PyProof.Rows.KTD.Rows.cons (by rfl) #[_,_,_,_,(by rfl),(by k_is),(by rfl),(by rfl),(by decide),(by repeat (first | exact .nil | refine .cons ⟨_,rfl⟩ ?_))] ?_;refine PyProof.Rows.KTD.Rows.cons (by rfl) #[_,_,_,_,(by rfl),(by k_is),(by rfl),(by rfl),(by decide),(by repeat (first | exact .nil | refine .cons ⟨_,rfl⟩ ?_))] ?_;refine PyProof.Rows.KTD.Rows.cons (by rfl) #[_,_,_,_,(by rfl),(by k_is),(by rfl),(by rfl),(by decide),(by repeat (first | exact .nil | refine .cons ⟨_,rfl⟩ ?_))] ?_;refine PyProof.Rows.KTD.Rows.cons (by rfl) #[_,_,_,_,(by rfl),(by k_is),(by rfl),(by rfl),(by decide),(by repeat (first | exact .nil | refine .cons ⟨_,rfl⟩ ?_))] ?_;refine PyProof.Rows.KTD.Rows.cons (by rfl) #[_,_,_,_,(by rfl),(by k_is),(by rfl),(by rfl),(by decide),(by repeat (first | exact .nil | refine .cons ⟨_,rfl⟩ ?_))] ?_;refine PyProof.Rows.KTD.Rows.cons (by rfl) #[_,_,_,_,(by rfl),(by k_is),(by rfl),(by rfl),(by decide),(by repeat (first | exact .nil | refine .cons ⟨_,rfl⟩ ?_))] ?_;refine PyProof.Rows.KTD.Rows.cons (by rfl) #[_,_,_,_,(by rfl),(by k_is),(by rfl),(by rfl),(by decide),(by repeat (first | exact .nil | refine .cons ⟨_,rfl⟩ ?_))] ?_;refine PyProof.Rows.KTD.Rows.cons (by rfl) #[_,_,_,_,(by rfl),(by k_is),(by rfl),(by rfl),(by decide),(by repeat (first | exact .nil | refine .cons ⟨_,rfl⟩ ?_))] ?_;exact .nil)])
#print axioms PySem.Challenge.cw_gainstream_k75_whole_desk_walked_holds



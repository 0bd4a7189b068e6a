import PyProof.Rows.All
import Wide.All
import OpenK.AllK
import Wide.FinOn
import PyProof.EqAt
import PyProof.EqKinds
import PyProof.TupleCall
import KE.BitLaws
import PyProof.InstStoreFacts
import PyProof.ExcBaseAll.Exception
import PyProof.ExcAttrAll.Exception
import PyProof.ExcArgsOwn
import KE.KWords
import KE.IntTextLaws
import Open.SpecLaws
import KE.OsHead
import KE.OsGo
import KE.SpHead
import KE.OsShapes
import PySem.Challenge.RW_tableclaims_s01_answers
set_option Elab.async false
set_option linter.all false
set_option maxRecDepth 100000
set_option maxHeartbeats 0
section
open Lean in
local macro_rules(kind:=Lean.Parser.Command.check_failure)|s=>do
 let mut r:=#[]
 let mut z:Std.HashSet Nat:={}
 for x in s[1][1].getSepArgs do
  for y in x[1].getArgs do
   for d in [0:3] do
    let n:=y.isNatLit?.get!+d-1
    let h:=(Name.str `TC.head s!"{x[0].getId}_{n}").hash.toNat
    if !z.contains h then
     z:=z.insert h
     r:=r.push (←`(theorem $(mkIdent (.mkSimple s!"tw{h}")):ident : True:=⟨⟩)).raw
 return mkNullNode r
namespace PySem.W.Fast
#check_failure[o 11 33 55 77 99 121 143 165 187 209 231 253 276 289 291 293 299 312 314 316 324 326 331 333 338 340 343 345 350 352 355 357 362 364 369 371 376 378 395 397 400 402 407 409 412 414 417 419 424 426 431 433 436 438 443 445 450 452 457 459 465 467 470 472 475 477 482 484 489 491 496 498 503 505 508 510 517 519 520 526 528 533 535 540 542 547 549 554 556 561 563 568 570 573 575 578 580 583 585 588 590 593 595 598 600 605 607 610 612 615 617 620 622 627 629 634 636 641 643 646 648 653 655 658 660 663 665 670 672 677 679 686 688 691 693 696 698 705 708 710 713 715 718 720 725 727 730 732 735 737 740 742 754 756 757 763 765 770 772 775 777 780 782 787 789 794 796 799 801 804 806 809 811 816 818 821 823 826 828 833 835 840 842 845 847 849 854 856 861 863 867 869 874 876 881 883 888 890 895 897 898 904 906 911 913 918 920 925 927 930 932 935 937 942 951 953 958 960 965 967 972 974 976 986 988 991 993 1000 1002 1005 1007 1014 1019 1021 1026 1028 1033 1035 1040 1042 1047 1049 1052 1054 1057 1059 1064 1066 1069 1071 1076 1078 1085 1087 1092 1094 1099 1101 1106 1108,sts 10 253 276 299 358 446 520 601 680 757 836 898 938 994 1079,tree 32 54 76 98 120 142 164 186 208 230 252 275 298 357 445 519 600 679 756 835 897 937 993 1078 1108,heap 1 1109,view 1]
theorem tw6390790080938233965:True:=⟨⟩
end PySem.W.Fast
end
section
open PySem PySem.W PyProof.Rows
namespace WS
abbrev rr := PySem.Challenge.rw_tableclaims_s01_answers
abbrev pp := rr.prog
theorem a3 : namesResolve pp = true := by decide +kernel
theorem a5 : noRoadLSs { strict := !(importedModules pp.main.body).all cThrough.contains, foot := none, bare := (["vars", "dir", "locals"] : List Str).filter (readsOut pp pp.main.body) } pp.main.body = true := by decide +kernel
theorem a1 : (sreFenced pp.main && ((moduleNames pp.main.body).isEmpty || lookedIntoSs (moduleNames pp.main.body) pp.main.body)) = true := by decide +kernel
theorem a4 : pp.boundNames.all (fun n => !worldNames.contains n) = true := by decide +kernel
theorem a6 : namesMeet pp pp.main.body (fun _ n => attrL n) = true := by decide +kernel
theorem a7 : (pp.boundNames.contains rr.name && (!startupNames.contains rr.name && (specDef pp rr.name rr.args.length && (rr.args.all Codec.fits && rr.ret.ok)))) = true := by decide +kernel
theorem ws : rr.wellSaid = true := by
  unfold OpenSpec.wellSaid looksOpen
  have h1 := a1; have h3 := a3; have h4 := a4; have h5 := a5; have h6 := a6; have h7 := a7
  simp only [Bool.and_eq_true] at h1 h7 ⊢
  exact ⟨⟨⟨⟨⟨⟨⟨⟨⟨⟨h1.1, h1.2⟩, h3⟩, h4⟩, h5⟩, h6⟩, h7.1⟩, h7.2.1⟩, h7.2.2.1⟩, h7.2.2.2.1⟩, h7.2.2.2.2⟩
end WS
local macro_rules|`(tactic|o_law)=>`(tactic|have hws:=WS.ws)
local macro_rules|`(tactic|k_head)=>`(tactic|k_headS)
local macro_rules|`(tactic|w_witness2)=>`(tactic|exact ⟨[.list [.int 7,.int 0]],by decide +kernel,by decide +kernel⟩)
open_top TC.head for PySem.Challenge.rw_tableclaims_s01_answers
end
set_option Elab.async false
set_option linter.all false
set_option maxRecDepth 100000
set_option compiler.extract_closed false
set_option bootstrap.genMatcherCode false
noncomputable section
open PySem.W renaming Frag→aaU,findIn→ag7,keepIn→aiT,instObj→alG,nsIn→alT,Looks→anu,emptyDict→anx,mroIn→an7,isFn→aor,cellsFrom_some→aos,fnOf→aou,plainGet→aoR,takerIn→ao2,plainGet_of→apn,lookIn→apz,callWith_K→apA,hasDictIn→apT,handedIn→aqb,methodCall_KW→aqM,looks_findIn→aqT,codeIn→aqV,callWith_K0→ara,codeRec_of→arB,plainOver→arO,ktu_apart→arU,makesIn→asn,bind_fn→aso,typeIn→asy
open List renaming mem_cons_of_mem→aaV,length_map→aa_,map_cons→abL,map_map→abV,mem_cons_self→adP,length_append→adW,mem_map→adX,all_eq_true→adY,getElem?_map→ad0,length_cons→ad2,mem_cons→aed,getElem?_eq_some_iff→aeH,range→afs,getElem?_eq_getElem→aft,contains_iff_mem→afw,getElem?_set_ne→afB,mem_append→afC,length_filter_le→afD,mem_append_right→afF,mem_filter→afJ,append_nil→afM,mem_singleton→afO,nil_append→afP,size_toArray→afS,map_append→afU,flatMap_cons→af2,not_mem_nil→af3,mem_iff_getElem?→agj,map_nil→agn,map_congr_left→agu,mem_append_left→agx,nodup_cons→agA,getElem?_set_self→ag2,lookup_cons→ahf,mem_filterMap→ahi,find?_cons→ahu,nodup_append→ahL,length_filterMap_le→ahP,foldl_cons→ah0,getD_eq_getElem?_getD→ah7,getElem?_cons_zero→aia,mem_flatMap→aid,all_cons→aik,mem_of_getElem?→ail,getElem?_append_left→aiy,findIdx?_eq_some_iff_getElem→aiO,filter_eq_self→aiR,getElem?_append_right→aiU,filterMap_cons→ajH,set_cons_succ→aky,set_cons_zero→akz,any_eq_true→akA,getElem?_cons_succ→akB,pairwise_map→akI,append_assoc→akJ,getElem?_eq_none→akS,eq_nil_of_length_eq_zero→ale,ext_getElem?→aly,length_range→alB,filter_congr→alC,length_set→alI,filter_map→alL,getElem_cons_drop→alY,cons_append→ame,filter_cons→amf,filterMap_map→ami,append_ne_nil_of_right_ne_nil→amm,forIn_cons→amJ,any_eq_false→amM,length→amN,getElem?_zipIdx→amP,any_cons→amU,filter_sublist→amZ,mem_range→am3,map_flatMap→am5,map_filterMap→anp,singleton_append→anw,forIn_nil→anD,drop_eq_nil_iff→anF,drop_length→anN,isEmpty_iff→anQ,isEmpty_map→anS,getElem?_zip_eq_some→anW,findIdx?_eq_some_iff_findIdx_eq→an1,flatMap_append→an2,eraseDups_cons→an3,of_mem_zip→aoc,length_nil→aod,all_append→aof,length_eq_zero_iff→aoo,filter_cons_of_neg→aoq,reverse_cons→aow,all_map→aox,nodup_nil→aoB,foldl_append→aoD,foldl_nil→aoE,filter_eq_nil_iff→aoG,length_singleton→aoM,getElem?_toArray→aoP,cons_ne_nil→aoU,sum_cons→aoV,reverse_reverse→ao0,length_zip→apg,countP_eq_length_filter→apk,getElem?_range→apq,length_reverse→apr,zip_cons_cons→apF,length_zipIdx→apI,filter_append→apJ,mem_of_find?_eq_some→apO,findIdx?_eq_none_iff→apQ,mem_or_eq_of_mem_set→apR,filterMap_eq_nil_iff→apS,lookup→apU,getElem?_inj→apX,getElem?_set→ap1,length_take→aqc,getElem?_replicate→aqd,map→aqq,getElem_mem→aqr,take_of_length_le→aqt,range_succ_eq_map→aqu,find?_cons_of_neg→aqy,find?_some→aqG,range_succ→aqJ,length_replicate→aqN,replicate→aqU,mem_of_mem_drop→aqZ,findIdx?_isSome→aq3,drop_zero→aq8,take_zero→aq9,toList_toArray→arc,reverse_append→arj,mem_map_of_mem→arl,map_inj_right→arF,Nodup→arG,filter_filter→arJ,any_map→arQ,find?_isSome→ar1,length_drop→ar3,zipIdx_cons→ar5,map_fst_zip→ar7,flatMap_nil→ar_,reverse_nil→asa,flatMap_map→ash,zipIdx_nil→ass,drop_drop→asF,map_drop→asK,zip_map→asS
open Vadttb renaming names→aa4,cellsOf→abN,step→afL,found→afQ,depClaim→afV,depsOf→afY,numbers→af0,bothIn→agm,isGone→ag6,choose→ahe,col→aho,isBelow→ahq,withRows→ahy,upTo→ahQ,keys→aiS,ordered→aiW,wordsFound→aj0,alikeKinds→aj9,support→akf,isKey→akp,least→akq,most→akR,wordsCond→akX,wordsIn→alj,neighbours→alD,fixClaim→alN,lefts→al8,rising→amd,orderCond→amg,onTable→amF,range→amT,filled→amX,isFixed→am4,leastOnes→am6,rangeCond→am7,isNumbers→am9,follows→am_,coverFrom→ana,keyClaim→ant,referring→anT,pairsOf→aoH,risingCond→aoI,fixesOf→aoJ,sameCond→apm,cover→apw,present→apK,Call→ap4,inRows→ap_,onFound→aq6,nats→aq7,colsOf→arw,nat→arK,grouped→asJ,asDep→asX
open PySem.Heap renaming get?_push_of_some→aba,get?_push_size→aeq,lt_size→ae8,size_push→agl,get?_update_other→aiC,SameBut→ai3,get?_update_self→aj_,get?_none_of_le→ald,size_update→aoT,get?_update_ne→arf
open Bool renaming and_eq_true→abk,eq_iff_iff→acM,not_eq_true'→afI,false_ne_true→ago,or_eq_true→agD,false_eq_true→ahn,or_eq_false_iff→aiV,and_false→akd,not_eq_true→akW,not_eq_false'→amn,true_and→amV,noConfusion→anP,and_true→aob,false_bne→aoF,and_eq_true_iff→ao1,true_bne→ap9,true_or→aqv,or_true→aqC,false_or→arp,not_true→arq,true_eq_false→arH,and_comm→asM,and_self→asN,not_and→asT
open Nat renaming le_refl→abB,le_trans→afh,lt_of_lt_of_le→afR,zero_le→afW,ne_of_lt→af1,le_add_left→agR,lt_succ_iff_lt_or_eq→ahO,lt_of_le_of_lt→akw,lt_irrefl→akE,succ_pos→ak4,not_lt_zero→alJ,ne_of_gt→alS,add_assoc→ama,le_of_not_lt→am1,le_succ→anc,le_of_eq→ang,le_antisymm→anr,lt_succ_of_lt→anA,lt_succ_self→anL,le_add_right→anO,add_le_add_left→anZ,le_of_succ_le→aoy,le_of_lt→aps,le_succ_of_le→apV,add_sub_cancel_left→aql,add_comm→aqz,zero_add→aqA,min_eq_left→aqH,pow_le_pow_right→aq2,mul_le_mul_left→ark,add_right_comm→arE,lt_trichotomy→arZ,succ_le_succ→ar8,mod_eq_of_lt→asb
open PySem.Str renaming ofString→aee,join→anG,cps_append→aoY,length→apG,ext'→aq1,empty→asP
open Vadtta renaming Table→afr,rowTree→afx,writeAll→afA,cellsIn→afG,treesFrom→afH,expOf→afK,wordList→afN,isWordByte→afT,cellIn→afX,colsAll→ags,isUp→agt,columnOf→agU,isAtomByte→agZ,condOf→aha,groupsOf→ahw,kindOf→ahN,alike→ahY,tableTree→ah_,claimTree→aib,twice→ajn,isDigits→ako,condTrees→akC,atomOf→akF,fits→akQ,twosOf→alc,isDigit→alf,valueOf→alg,readAll→alh,readOne→ali,amount→amc,isBlank→amD,isLetter→amK,rowOf→amR,isWord→amW,sumTree→am2,sumOf→ano,condsOf→anH,showNat→anJ,breakers→aog,cut→aoi,TABLES→aoW,ROWS→aoX,tableOf→apM,isReferred→ap0,step→ap5,nats→aq5,cellOf→art,rowsOf→arv,nat→arL,textAnswer→ar0,holdsSome→asd,COLS→asi,TEXT→asj,held→asl,holdsAll→asx,cutFrom→asG,eachOf→asL,bytes→asV,CLAIM→asW,LONG→as8,TOP→as_
open Option renaming bind_eq_some_iff→afu,map_eq_some_iff→afv,bind_some→ah9,isSome_iff_exists→aka,isSome_map→alx,isSome_some→apC,toList_none→apL,isSome→ap8,getD_some→aqo,map_some→aqK,map_none→aqL,none→as3
open Option.some renaming inj→afE
open PySem.Value renaming ref→afZ,none→ajC,builtin→an6,bool→aoQ,isStrOf→arn,type→arA,str→ar2,int→asO,isInt→asY
open PySem renaming mem_of_lookup→agp,boot_len→aml,evalArgs_none→apo,intText?→aqW,wpAt_of_wpAny→ard,Within→arN,wpAt_bind→asq,getD_mem→asA
open PySem.Builtin.SmallTypes renaming nextOf→agq,ownedTupleIsFree→al_,ownedTupleHandOut→anY
open PySem.F renaming plainAttrs_list→agr,slot_list_append→aiP,type_list_append→aiQ,slot_dict_valueiterator_next→ai5,plainAttrs_str→al2,slot_tuple_iterator_next→amk,slot_zip_getattribute→ane,called_set→anj,args_tuple_add_2→an4,slot_list_extend→an8,type_list_extend→an9,slot_zip_next→aoe,entry_tuple_add→aoj,slot_tuple_add→aov,slot_tuple_hash→aoA,args_dict_valueiterator_next_1→aoC,entry_dict_valueiterator_next→aoL,slot_dict_get→aoN,args_tuple_iterator_next_1→ao4,slot_tuple_eq→ao5,slot_dict_setdefault→apf,entry_tuple_iterator_next→apt,slot_list_index→aqe,args_dict_get_3→aqf,plainAttrs_dict→aqg,store_Exception→aqi,slot_dict_values_iter→aqk,entry_dict_get→aqw,slot_str_join→aqR,type_str_join→aqS,args_list_extend_2→aqX,entry_list_extend→ari,slot_list_extend→arC,slot_dict_values→arD,args_zip_next_1→arT,slot_str_split→ar4,entry_zip_next→ar6,plainAttrs_str→ar9,slot_zip_iter→asu,slot_dict_len→asv
open Vadtta.Cond renaming cols→agw,tree→aic,holds→apH,same→asf,or_→as7
open Vadtta.Tree renaming word→agV,num→aq4
open PyProof.Rows renaming callWith_type1→agW,slot_tuple_getitem→amY,boot_list→ank,joinParts_cons→anB,boot_tuple→aop,callWith_builtin1→aoS,boot_ord→aqO,boot_int→aqP,boot_str→aqQ
open False renaming elim→ag0
open Vadtta.Cell renaming tree→ag4,gone→anR
open Vadtta.Table renaming hasCols→ag5,count→amE,colNo→anm,tree→arW,row→ase
open PySem.PyData renaming eqv→ahm,canLay0→aiF,canLayAll0→amO,strOk→amQ,eqvAll→an_,depth→aqB,depthAll→aqI
open VadttbNeutral renaming bytes→aht,asked1→aiX,natural→akU,callOf→alp,ok→anb,step→anq
open Ne renaming symm→ahI
open Sum renaming inr→ahX,inl→amL
open PyVadttb renaming whole→aie,shape→akL,answers→anU,answers_asked→aqF
open Vadtta.Exp renaming cols→ain,tree→akD,eval→arY
open Function renaming comp→ai2
open True renaming intro→ajN
open Vadtta.Store renaming find→ajO,put→amh
open PySem.Calls renaming spliced_cons→akv,callWith_builtin→akG,spliced_nil→anz,evalArgs_plain→anC,Constant_str→apx,Name_function_global→apy,Constant_str→ap7,call_len_list→arb
open PySem.SeqAt renaming shaped→akx,shaped→anh,canLay_of_shaped→ani
open Array renaming getElem?_eq_some_iff→akH,length_toList→akO,getElem?_toList→amG,forIn_toList→aoh,all_toList→aqn,getElem?_eq_none→aqx,toList→asR
open UInt8 renaming ofNat_toNat→akK,ofNat→amS,toNat→apY,toNat_ofNat'→arI
open PySem.Heap.SameBut renaming update→akP
open Eq renaming trans→akT
open Or renaming inl→akV,inr→amH
open Vadtta.Claim renaming tree→ak3,good→anI,table→ap3,each→asH,groups→asU
open PySem.Builtin.List renaming listTooLong→ak5
open Int renaming toNat_natCast→alz,le_antisymm→asr
open PySem.PassesOwn renaming leaving→alA
open PyProof.Rows.F renaming plain_set_update_loop→alR,entry_set_update_loop→an0
open PySem.Obj renaming mapFields→al9,data_mapFields→amj,isFreed_of_fields→aoO,data_mapDictKeys→aqY,cls_mapFields→arS,mapSeq→asz
open PySem.Builtin.Tuple renaming tupleHashOf→amI,tupleItemsOf→apB
open PySem.Builtin.Str renaming occurrences→am0,spaceWords→aoz,glued→aqp
open PyFlat renaming call→anf,rows→anK,calls→aoK,played→arx,row→arM,told→asm
open PySem.Challenge renaming pw_tableclaims_s01_answers→anl,rw_tableclaims_s01_answers→aqE
open PySem.Builtin.Dict_items renaming ownsTuple→ans
open PySem.Unicode renaming isSpace→anv
open PySem.Around renaming under_plainId→anE,mark→as6
open PySem.Txt renaming words→anM,startswith→aoZ,replace→apW,replace→apZ,isdigit→arX,startswith→asE,join→as2
open PySem.Builtin.Slice renaming slicePlaces→anV,sliceAdjust→apN
open PySem.NameKind renaming free→an5,cell→ap6
open ForInStep renaming yield→ao3
open UInt8.toNat renaming inj→aph
open Vadtta.Kind renaming has→apj,tree→aq_,has→arV
open Nat.succ renaming inj→apu
open PySem.StrLaws renaming glued_eq_join→apv
open PySem.Code renaming quiet_builtin→apE
open Classical renaming byContradiction→apP
open Vadtta.Column renaming has→ap2,has→aqD,tree→aq0
open PySem.Builtin.Range renaming rangeSize→aqa
open And renaming intro→aqh
open PySem.W.Looks renaming ld→aqj,ld→asD
open PySem.Builtin.Dict renaming updateFrom→aqm
open PySem.W.WData renaming int→aqs
open PySem.EntryCells renaming newEntry→arh
open PySem.Paired renaming length→aro,snoc→as0
open List.Mem renaming tail→ars
open List.cons renaming inj→aru
open PySem.SeqAt.EqAt renaming int_str→ary,str_int→arz
open PySem.Heap.Ns1 renaming of_empty→arP
open PySem.callAny renaming viaDunder→arR
open PySem.Heap.DictOf renaming new→asp
open PySem.Builtin.Frozenset renaming updateFrom→asw
open PySem.Walks renaming list→asC
open PyProof.Rows.IsTup renaming new→asQ
open PySem.CmpOp renaming NotIn→asZ
open Sum.inr renaming inj→as4
open PySem.Heap.IsSliceOf renaming new→as9
set_option tactic.hygienic false
@[elab_as_elim]theorem rwL'{α:Sort u}{a b:α}{p:α→Prop}(h:a=b)(m:p b):p a:=h▸m
@[elab_as_elim]theorem rwR'{α:Sort u}{a b:α}{p:α→Prop}(h:a=b)(m:p a):p b:=h▸m
open Lean Parser in
local macro_rules(kind:=Lean.Parser.Command.mutual)|s=>do
 let c:=s[1].getArgs
 let t:=c[0]!
 if t.getKind !=``Command.check_failure then Macro.throwUnsupported
 let o:=mkIdent `zzz
 let z(s:Syntax):=s.getNumArgs==0
 let is(s:Syntax)(n:Name):=s.getKind==n
 let ns:="ABCDEFGHIJK".toList.map fun c=>Name.mkSimple s!"zz{c}"
 let rec e(m:Std.HashMap Name Syntax):List Name→List Syntax→Std.HashMap Name Syntax
 |n::l,s::r=>e (m.insert n s) l r
 |_,_=>m
 let rec g(m:Std.HashMap Name Syntax):Nat→Syntax→Syntax
 |n+1,.node w k a=>
  let q:=a.getD 1 .missing
  if k== ``Term.syntheticHole&&m.contains (`zz' ++q.getId) then m.get! (`zz' ++q.getId) else
  let s:=Syntax.node .none k (a.map (g m n))
  let b:=s[1]
  let i(l:List Syntax)(j:Name):=g (e m ns l) n (m.get! j)[1][1][0][0][0]
  if k== ``Tactic.show&&(q.getId== `zzA||q.getId== `zzB) then b
  else if k== ``Tactic.show&&is b[1] ``Term.byTactic then b[1][1][0][0][0]
  else if k== ``Term.arrow then .node .none ``Term.depArrow #[.node .none ``Term.explicitBinder #[mkAtom "(",mkNullNode #[o],mkNullNode #[mkAtom ":",s[0]],mkNullNode,mkAtom ")"],b,s[2]]
  else if k== ``Term.basicFun then s.setArg 0 (mkNullNode (s[0].getArgs.map fun b=>if is b ``Term.hole then o else b))
  else if k== ``Tactic.rwSeq&&z b[0]&&z s[3] then
   s[2][1].getSepArgs.foldr (fun x l=>i [i [x[1]] (.mkNum `zz' ((if (x.find? fun s=>is s ``Term.syntheticHole||is s ``Term.byTactic).isSome then 2 else 0)+(if z x[0] then 0 else 1))),l] (.mkNum `zz' 4)) (i [] (.mkNum `zz' 5))
  else if k== ``Tactic.cases&&b.getNumArgs==1&&b[0][1].isIdent&&z b[0][0]&&z s[2]&&z s[3] then i [b[0][1]] (.mkNum `zz' 6)
  else if k== ``Tactic.lia&&z b[0] then i [] (.mkNum `zz' 7)
  else if k== `Lean.Parser.Tactic.tacticErw___&&z s[3]&&s[2][1].getSepArgs.all (z ·[0]) then
   let l:=i [] (.mkNum `zz' 8)
   l.setArg 4 (l[4].setArg 1 (mkNullNode (s[2][1].getSepArgs.foldl (fun l x=>l++#[mkAtom ",",.node .none ``Tactic.simpLemma #[mkNullNode,mkNullNode,x[1]]]) l[4][1].getArgs)))
  else if k== ``Command.declaration&&(is b ``Command.definition||is b ``Command.abbrev||is b ``Command.instance) then
   s.setArg 0 (s[0].setArg 4 (mkNullNode #[.node .none ``Command.noncomputable #[mkAtom "noncomputable"]]))
  else s
 |_,.atom w v=>.atom .none v
 |_,.ident w r v p=>m.getD v (.ident .none r v p)
 |_,s=>s
 let a:="abcdefghijklmnopqrstuvwxyzABCDEFGHIJKLMNOPQRSTUVWXYZ".toList.map toString
 let l:=t[1][1].getSepArgs.toList
 let m:=e {} ((List.range 13).map (.mkNum `zz')) l
 let m:=e m ((a++a.flatMap fun x=>a.map (x++·)).map (.mkStr `zz')) ((l.drop 13).map (g m 999))
 let J(l:List Syntax)(s:Syntax):=g (e m ns l) 999 s
 let M(n:Nat)(l:List Syntax):=J l (m.get! (.mkNum `zz' n))
 let mut n:=[]
 let mut r:=#[]
 for x in c.toList.drop 3 do
  let k:=x.getKind
  if k== ``Command.namespace then n:=x[1]::n
  if k== ``Command.section then n:=.missing::n
  if k== ``Command.where then
   let e←match n.head! with|.missing=>`(end)|y=>`(end $(⟨y⟩):ident)
   n:=n.tail!
   r:=r.push e.raw
  else
   let y:=g m 999 x
   if k== ``Command.check then
    let a:=y[1][1]
    let p:=a[7][1].getSepArgs.foldr (fun y p=>mkNullNode #[M 9 [y[1][1],y[0],p[0]],M 10 [y[1][0],p[1]]]) (mkNullNode #[M 11 [],M 12 []])
    let l:=[y[1][0],p[0],a[4],a[5],a[6],a[2],a[0],a[1],Syntax.mkNumLit (toString (a[3].isNatLit?.getD 0+1)),a[3],p[1]]
    r:=r++#[J l s[1][1],J l s[1][2]]
   else r:=r.push (if (y.find? fun s=>is s ``Tactic.renameI||is s `Lean.Parser.Tactic.«tacticNext_=>_»||(is s ``Tactic.case&&!z s[1][0][1])).isSome then .node .none ``Command.in #[.node .none ``Command.set_option #[mkAtom "set_option",mkIdent `tactic.hygienic,mkNullNode,mkAtom "true"],mkAtom "in",y] else y)
 return mkNullNode r
mutual
#check_failure[(by first|with_reducible_and_instances refine rwL' zzA ?_|rewrite[zzA]),
(by first|with_reducible_and_instances refine rwR' zzA ?_|rewrite[←zzA]),
(by rewrite[zzA]),
(by rewrite[←zzA]),
(by(show zzA;show zzB)),
(by try with_reducible rfl),
(by first|((fail_if_success with_reducible have:=Eq.symm zzA);cases(zzA))|obtain rfl:=zzA|(injection zzA with zzA zzg zzh;subst zzA zzg zzh)|(injection zzA with zzA zzg;subst zzA zzg)|(injection zzA with zzA;subst zzA)|cases(zzA)),
(by first|with_reducible first|assumption|exact Nat.le_refl _|exact Nat.le_add_left _ _|exact Nat.le_add_right _ _|exact Nat.succ_pos _|exact Nat.le_succ_of_le (by assumption)|exact Nat.lt_succ_of_le (by assumption)|exact Nat.succ_le_of_lt (by assumption)|exact Nat.le_of_succ_le (by assumption)|exact Nat.le_of_not_lt (by assumption)|exact Nat.le_trans (by assumption) (by decide)|exact Nat.lt_of_le_of_lt (by assumption) (by decide)|exact Nat.le_trans (by assumption) (by assumption)|exact Nat.lt_of_lt_of_le (by assumption) (by assumption)|exact Nat.lt_of_le_of_lt (by assumption) (by assumption)|exact Nat.le_trans (by decide) (by assumption)|exact Nat.le_trans (by assumption) (Nat.le_trans (by assumption) (by decide))|exact Nat.le_trans (by assumption) (Nat.le_trans (by decide) (by assumption))|exact Nat.le_trans (Nat.le_add_left _ _) (by assumption)|exact Nat.le_trans (Nat.le_add_right _ _) (by assumption)|exact Nat.le_trans (Nat.succ_le_succ (by assumption)) (by decide)|exact pdL (by assumption) (by assumption)|exact Nat.sub_le_of_le_add (by assumption)|exact Nat.le_trans (Nat.sub_le _ _) (by assumption)|exact Nat.lt_of_le_of_lt (Nat.le_add_right _ _) (by assumption)|exact Int.ofNat_lt.mpr (by assumption)|exact absurd (by assumption) (Nat.lt_irrefl _)|exact Nat.add_comm _ _|exact Nat.add_assoc _ _ _|lia -abstractProof),
(by simp only[PP.one,PP.two,PP.E5,PP.wN,PP.P1,PP.uH,PP.vg,PP.opt,PP.FP,PP.k_,PP.E7,PP.onD,PP.cF,PP.c1,PP.c0,PP.cK,PP.c2,PP.cU,PP.bV,PP.bN,PP.bA,PP.bO,PP.bT,PP.cA,PP.cO,PP.cN,PP.cI,PP.dM,PP.oN,PP.oS,PP.FY,PP.iA,PP.iE,PP.WW,PP.iR2,PP.iZ,PP.iG,PP.iV,PP.cG,PP.cM,PP.full,PP.jA,PP.Slot.full,PP.Slot.jA,List.map_cons,List.map_nil,PP.look,List.getElem?_cons_zero,List.getElem?_cons_succ,PP.Y3,PP.bOr,PP.P7,PP.vOr,TC.V4,TC.agk,PP.Rs.aK,PP.Rs.afz,PP.Rs.YT,PP.jj,List.set_cons_succ,List.set_cons_zero,List.length_cons,List.length_nil,Nat.reduceAdd,Nat.reduceLeDiff,Nat.le_refl,if_true,PP.b8,PP.z8,PP.Be,PP.bu,PP.A_,PP.HW,TC.NW,TC.aeb,TC.amA,TC.aec,TC.V5,TC.NV,TC.Td,TC.Rp,TC.af7,TC.af8,TC.amB,TC.ajf,TC.amC,TC.V6,TC.ajg,TC.ix0,TC.ix1,TC.ix2,TC.ix3,TC.ix4,TC.ix5,TC.sl1,TC.sl2,TC.VH,reduceIte,TC.ajc,TC.ajd,TC.W7,TC.W8,TC.ad6,TC.af9,TC.af_,TC.aga,TC.agb,TC.agc,TC.ad7,TC.ad8,TC.ad9,TC.agd,TC.aje,TC.age,TC.ad_,TC.agf,TC.W9,TC.aea,TC.agg,TC.W_,TC.V0,TC.V1,TC.Xa,TC.agh,TC.Te,TC.ao6,TC.ao7,TC.ao8,TC.ao9,TC.ao_,TC.apa,TC.apb,TC.apc,TC.apd,Bool.false_bne,Bool.true_bne,PP.w9,PP.wY,PP.Du]),
(zzA,zzB)::zzC,
⟨⟨_,_,by decide,zzA T⟩,zzB⟩,
[],
trivial,
(by lia),(look 0),(by decide),some o,List PV,.word,(by decide+kernel),(look 2),(by simp),.list,Rs PV,(look 3),"table",.type,.Name,.cons,"name",Inv X pins σ H s,.sh a0,List Str,(.ref C),(c1 (look 1) c0),(by exact nn h),(look 1),.inl rfl,"tables",(abB _),List V,.ref a,ao ?_,(model prog w),some x,(bz false),(by rfl),.Call,(by simp),(model X.prog X.w),(look 4),(by lia),"tree",
.int i,.none,some u,"rows",.sh a1,(λz=>?_),.builtin,some v,(by simp_all),List Addr,some p,List Int,List α,(cK (.int 0)),(cK (.int 1)),⟨_,rfl⟩,"self",.ref p,(.str x),"number",.ex n,(by simp;lia),(by kernel_rfl),"columns",(by exact h.elim),.num n,(by split at h),Value->Shared->Prop,.Attribute,(λ_=>rfl),some k,0,aa4 T,Rep K G v p,List Nat,.ref l,(by erw[one];rfl),List Value,List Tree,[a0,a1],
"list",(by contradiction),[a,b],List (Addr×Obj),(cK (.int 2)),(.ref f),"places",(look 5),(aa4 T),"place",CB P w K mg base N qual scope f cd A outer s0 H0 E,s.heap.get? b,.fields,aj G H,(by split at e),(by simp at h),(adP ..),(·.1),List (Str×Addr),"trees",(by have hz:=sz),Rs α,h'.get? b,Hp->Prop,Ok d t,abN T c.name,⟨s,[]⟩,(i:Nat),"tuple",(i+1),afW _,(x==("__debug__":Str))=false,"names",some c,some _,some y,.gone,(.ref e),(look 6),(e::es),
"claim","zip",Str->Option Value,At c X E j,(.lst []),aj.refl _,{s with heap:=h'},wpAny_pure ?_,0,List Expr,(full se),.int _,.ok p,List V->Hp->VK->Prop,(oo P w K),(by refine aq ?_ ?_),(S.E a x),(af st),(bj 0),(by exact .nil),(l.map eT),H b=none,‹_›,lit rfl,ae8 e,.bl b,(d-1),(by simp only),(X.lG s H scope (compEnvC scope cl C X.env) fp),.ref s.heap.objs.size,(s.map (ay)),if_pos rfl,.ref tl,some d,.bl _,"str",s.heap.objs.size+1,(λ_ _=>rfl),List Bytes,"cells",
.ref d,(.tail _ (.tail _ (.head _))),Txt P w K mg base,(by simp[full]),(cK (.int 3)),(Ex.refl s),"__init__",some .cell,(.lst xs),(bz true),h.get? b,afQ s T,"codes",some a,abB _,(.head _),.Constant,some none,.ref C,.lst l,(pv 1),(k+1),jB K G0 H0 P G H σ se,(by all_goals exact h.elim),(by obtain⟨t,rfl⟩:=rx),(pj X.K E gs),aI K G vs ps,(model P w),I.tok _,.ref b,(by constructor),(by assumption),(λ(i:Nat)=>PV.int i),(I.ok.hd hc),"condition",Option Int,.sh (ay T),agm T c d,"column","range",
(λh=>?_),"found",.ow acc,(n:Int),.str x,Gl X x,.str _,"text",Rs Fl,X.calm=true,(λp hp=>?_),ge (jA se),aeq _ rfl,(.ref ea),RelV v u,X.N[i]?,.Assign,.tup l,gs env,.inl z,.sh a2,(eK T),0,.free,.ok b,(by(first|exact mw λ_ _ _ _ _ _ _=>rfl|exact mx λ_ _ _ _ _ _ _ _=>rfl|exact my λ_ _ _ _ _ _ _ _ _=>rfl|exact mz λ_ _ _ _ _ _ _ _ _ _=>rfl|exact mR λ_ _ _ _ _ _ _ _ _ _ _=>rfl)),(by simpa using hb),(cq T c.name:Nat),wpAny_bind ?_,hS.tab T hm,(jK false),(agR _ _),List Env,.inr rfl,(.ref z),"heads",.str a,.cell,.ok a,(f a),
"len",(by first|exact akV rfl|exact amH rfl),(by rcases aN h with⟨e,z⟩|h),some (.ref R),some .local,Option α,(S.E a _),.ex (-13),(T.row i),s.find t,b=true,.ref t,some l,.ref r,(by intro X hP hw hK hc i pins s σ H E I hf st hg),.lst (cs.map (eC)),(T.colNo c).isSome,own.map (·.2),(by rcases c with _|_|l),List (Key×V),eval e X.env,eq_of_beq hw,Array Value,(λx=>!ag6 x),Vals xs us,x.tree two,(S.E a b),(S.A a _),(.dK kvs),(by subst hP hw hK),if_pos z,abN T c,(ay T),.int n,.int k,.num m,.each,(by exact nn e),{cls:=.type "dict",data:=.dict #[]},(λb=>Rs.ok (PV.bl b)),
(ai (cK (.bl false))),xs.length<=sizeLine,.int (cq T c:Nat),all.filter p,[a0,a1,a2],c.tree two,(.ref it),RelV y u,.ex (-1),.BoolOp,aba _ q,(by refine aw ?_),(pv 0),some T,.bool,(n+1),v::vs,(d+1),(by exact this),X.env.cells.lookup x=some c,o.data=.dict es ep,sc.names.lookup x,starEach [] X.env,(by simpa using z),(λk=>eT (o7 T k)),"BaseException",(dE n c N sc a),(by obtain⟨t,rfl⟩:=r),A.handled=none,List (Str×PV),(by cases h;lia),(λx=>eT x.tree),gA K G σ env,(λ_ _=>False),cW K H a xs,(λb o z=>?_),n_ P w H h,pure false,aI K G v p,(by have h6:=hT.c6),
H p=none,ak ?_ aP,"other",(kL T),.inl h,.lst _,.ref _,(bu 3),"set",afY T,(by rw[h1]at h),starEach (e::es) X.env=(false,eval e X.env)::starEach es X.env,.sh (.lst (ds.map (kL T))),.sh (.lst (nL (aa4 T))),(by refine ig g0 λT hT hf=>?_),(ha _ s σ H _ I h),⟨x,H1,I1,r1,q1⟩,r.reverse++kept,List (κ×V),eval o X.env,as.map V.ref,(by simpa using this),"unclosed",(.lst vs),(jK true),"numbers",eP rfl ?_,(hs T hT),if_neg h,(look 7),List CK,aj G G',ga env,.int j,some i,List _,"part","twos",b≠e,val i,
"int",(n,k),(by simp at hx),h G H _ (Ex.refl s) (.int _),(c1 (cK (.ty "tuple")) c0),⟨_,aeq _ rfl,rfl,rfl⟩,(λf0 f1 f2 f3 f4 f5=>?_),.lst (T.cols.map (eC)),(EP X pins σ Q),(by simpa using h),(dE n c N sc e),List (Key×PV),t.length<=6000,⟨_,rfl,?_⟩,ex2.trans ex3,Option Addr,⟨#[c]⟩,qb c.kind,"Refusal",PE X a ta,SE->Rs Fl,(by simp only at h),(.ref R),h.get? a,(.ref D),if_neg z,"claims",l.all pC,aba _ e,"first",Rs Bool,"least",(by refine kI ?_),"dict",(bj 1),.ref x,some e,[eT t],afs n,"two",
d<=40,{cls:=.type "set",dict:=none,data:=.set #[] 0 (.fresh 0 0 led)},(dD jb (pv 2) (mG (T.gl _ _ rfl) rfl) (dz _)),T.cols.filter λc=>qb c.kind,{s with heap:=h',toks:=tk},(λkv=>decide (kv.1=k)),ns.length<=sizeLine,some (.ins C dx fs),l.length<=sizeLine,(ks.map ahX).zip,(by obtain⟨rfl,rfl⟩:=h),some (.vQ o u),bootBuiltins x,strKind prog w,fV K G H as ts,(afV T d).tree,Hp->VK->Prop,(abk _ _).mp,Ex G H G' H',.int (n:Nat),outer++[cur],agt T c=true,j9 K H a xs,(by erw[one]),(adX.mp ht),(l.map en),some .free,(λb hb=>?_),Vals vs us,.Subscript,.ins aT ps,(cF c0 nh),iW rfl rfl,afH f d ps,(aaV _ hx),ahy s T rs,bf prog w,some true,(λ_=>.bad),(afD _ _),
t σ H Q,"second",RelV x v,(cn h r),"others","reader",(by have uX:=hT.Ct),f_ hT hc,(akE _),"fixed",xs[i]?,"cell",(bu 2),(tS t),z.2.1,c∈S,(backTo pos (starEach es X.env)).any (·.1)=false,(.ListComp elt [⟨tg,iter,ifs,0⟩] scope pos),.lst ((T.rows.map afx).map eT),{nx:=λ_ H'=>Q .b_ H',rt:=Q},(c1 (cK (.ty "int")) c0),iT K G H0 H d xs ls acc,List (Str×NameKind),PE X e (tP X.K E ge),(.tail _ (.head _)),of_decide_eq_true z,Loc X.env.scope x,(by have:=sz;lia),T.hasCols ns=true,(λb o e=>aba _ e),"type.__call__",x≠"__name__",(ys.map V.str),0,(cK (.tup [])),(afA l).length,(fin _ _ rfl),(by rcases e with⟨⟩),(by simp at h),"alike_rows",
cq T c.name,0,.bool false,afs T.count,cq T d.name,env::outer,I.tuple hq,wipe σ vs,"reversed",.sh (eS s),.sh (eL t),flush run,(vals1 r),(λ_=>none),H0 a=none,(l.map f),fk T ns i,if_neg ft,.ok true,dp t<=64,(amS n),(n:Nat),"head",se[i]?,c=true,K.In h,XC K C,(iq h),(bu 1),(sB w),(eT t),[ay T],[eL t],(by simp at this),.sh p,d<=60,"BaseException.__getattribute__",(apos.endLine==cpos.line)=true,(by rcases p with _|_|_|_|_|_|_|_|_|_),cenv.cells.lookup y=some c,
behindInMarks op b=false,(λq'=>hb (by simp[q'])),(∀b∈fp,H' b=none),⟨.bl _,H,I,rfl,q⟩,(.lst (t.map V.int)),Inv X pins σ H' s',(O8 λ_ _ _=>.bl _),List (List Key×V),BE K G H tl as ts,afs T.cols.length,b≠X.env.locals,Binds K fd ps [],(by simpa using e),(by obtain⟨t',rfl⟩:=ry),List (Nat×Nat),(xs.map V.int),l.length<=5000,List (Str×V),Passes CX X E,s.heap.get? d,afG T [c,d] r,⟨rfl,rfl⟩,⟨_,_,rfl⟩,(by simp[z]),.ok (.nx se),"read_trees",w.length<=20,(e.tree two),fs.lookup f,(I.list hq),(afY T).map,(λx hx=>?_),⟨bo,jc⟩,if_pos hk,H1 p=none,["piece"],eT k.tree,afJ.mp hc,aH [eL r],List Key,
Option V,SE->Prop,rt all d,isStar e,.head _,(jA se),(anc _),some cs,"count",.ref nl,x::y::r,σ[i]?,.Tuple,.inr x,b∉ch,some z,gi env,some b,(bj 2),some F,.sh gv,(by rw[r.length]),snd n,aiS T,.next,.Expr,(rfl),.call,p::ps,(∀x,foldedSetIterable iter X.env x=pure x),(∀b,s.heap.objs.size<=b->g.get? b=none),qH X.N X.env.scope scope own,{s with heap:=h',toks:=t'},(by intro G H x y p q Q s rx ry h),X.lG s3 H3 scope ce fp,(ha _ _ s σ H _ I h),T.hasCols c.cols=true,(λk=>k.all s.contains),(false,eval e X.env),L2.Inv X pins σ H s,
PE X a (tP X.K E ga),.ok (.int l.length),(λ_ _ _ _ h=>h.elim),some (zd C dx nl p),fk T ns (g.headD 0),SS s.heap b1 c1 xs,SS s.heap b2 c2 ys,(cK (.str "each")),(se.set i (.sh p)),.int (cq T d:Nat),(by obtain⟨hm,_⟩:=eQ hf),·.setIfInBounds,l.map (qi T ns),(bL (bj 1) ee),afX T.cols r c,er.mono ex.gg,"__setattr__",dQ K G kvs ps,(j_ X.K E ta),(GD P w d xs),kM (pv 0) rfl,(by rcases b with _|_|_),Shared->Prop,(a::b::c::r),(.bl false),sp vs H Q E,(ps.zip us),j9 K G a xs,Decidable c,.ok (.rt p),atKey xs k,(Rd.of aa),(afu.mp h),QW c X E j,T.cols[i]?,(λc=>c !=d),(.bl true),.ListComp,Option PV,(.ref C2),
["calls"],(ahP _ _),(.tup ys),.Compare,fQ val i,RelV x u,pK kvs k,(λ_ h=>h),"groups",(by rw[e]),⟨_,z⟩,(by rw[gd hf]at hg),V.ref a,b::rest,(i:Int),aj H H',[a,b,c],(ak4 _),"maybe",.ok .b_,(by exact akV rfl),(dz _),X.mg x,some q,"type",.Raise,(cP 2),(b8 2),(bu 6),.str s,(by exact z.elim),afA l,(fnOf x qual (jn st) (bQ st) (af st) .none kV doc pm an cdv ct),X.fn x=true\/X.env.scope.names.lookup x=some .local,envOfC qual scope s.heap.objs.size f cd,(∀b,h'.objs.size<=b->g.get? b=none),alT K mainGlobals "NotThere",ZipApart z TI TO i1 i2 c1 c2,(.Compare a [op] [b] pos),(λc hc acc se ha hy=>?_),
(by intro pins s σ H vs us Q I r h),(c1 (cK (.ty "str")) c0),(by with_reducible refine ty.at ?_),aj9 c d&&akp U [d.name],"object.__setattr__",some (.ins aT dx fs),s.heap.objs.size<=T,aA cv "table_named",⟨vs,H1,I1,r1,q1⟩,sc.kind==.function,"__getattribute__",(cK (.str "col")),env.frame=some L,(by cases a<;>rfl),.str (sB c.name),(by obtain⟨hz,h⟩:=a_ h),List (Str×Nat),(λn=>sA K E n H),.tup (r.map eT),(ns.map V.int),outF (g3 se)=r,(afs n).filter,(λp=>eT (vK p)),s.heap.get? c,(cK (.int 4)),all.filter p',(by rcases a with _|w|_),model prog w,Option Value,ex.trans ex2,gC (aJ h2).1,E_ X pins xe,eE two T a b,(by simp only[if_true]),(by simp;lia),List PyData,.str name t,(adX.mp hx),[eS s,eL t],gc hS ht hf,
X.pn++pins,Expr->Bool,.str "one",.str "two",(λc hc=>?_),c∈T.cols,(λU hU=>?_),(eI aT G3),.function,KV kvs vs,PE X b tb,PE X e te,if_neg hk,(vs++dvs),List Bool,.ok false,h.grow ex,(S.T a _),"text_of",(oZ 1 c0),(fX (-1)),eT c.tree,afK two b,(.dT kvs),(by exact nomatch z),(.int 1),(.int 0),r.map eT,s.toks+1,.int i t,t D σ H,if_pos q,H l=none,(look 8),(λz2=>?_),.ex (-2),(bQ st),k b u q,.Return,-(2^62),
a::b::r,aj H H1,s _ _ h,aj G1 G,"parts",(fZ cs),c∈all,(by cases b<;>rfl),(·.2),ge env,(cq T),.inl i,.str i,.str z,some n,this.1,σ[1]?,.ref u,(uJ K),[e,e2],"kind",α->β,(bu 4),(pB _),(∀vs H Q E,sp vs H Q E->vs.length=ps.length),ID K C tl as ts r dx nl xs G H G1 H1 p,(by repeat (any_goals(first|assumption|wp_step))),((env::outer).filterMap (·.frame)),s.heap.FunFrames base (env::outer),ga env>>=λx=>gb env>>=λy=>F x y,(x==("__classdict__":Str))=false,g6 p=.ok ((ns.map agV).map eT),(∀σ H Q,t' σ H Q->t σ H Q),List (List Key×Addr×Value),(by rw[ae (az q hn)];exact q),List (List CK×Addr×Value),["head","first","second"],.sh (.int (f.length:Nat)),Raises P w K mg base x n,(λi=>ys.getD i ⟨#[]⟩),
{s with toks:=s.toks+1},(λe s'=>R (.error e) s'),mY agr aiP aiQ gY ?_ ?_,bR hs λ_ _ _ z=>z.elim,scope.names.lookup y.1,(a==sysModules)=false,(by unfold dT ahm;simp),(by rcases nJ h with⟨hw,h⟩|h),(by simp only[aic,agw]at h hl⊢),Inv X pins σ' H' s',PE X b (tP X.K E gb),(false,eval a X.env),(by rcases afC.mp hx with hx|hx),(by simpa using hu),(λb hb=>(hf b hb).1),(by simpa using hl),((snd n).E a.at_ _),(by refine bR hs λ_ _ _ z=>?_),aE dk "has_numbers",(cK (.str "fixes")),h.Ns mainGlobals mg,(λ_ z=>nomatch z),Binds X.K fd ps ds,starEach [e] X.env,(afK two t).isSome,(aha two t).isSome,(se.set i (.ow l)),(by simpa using hv),sc.names.lookup n,X.A.units+1<cLine,absurd hn (alJ _),(fQ val i).length,List (κ×Value),Cn X.env.scope x,⟨h,g,d,t,os⟩,aiC _ _ (ahI hb),.str (sB T.name),(h.objs.size+1),(.inl (a.fn x)),eachOf wordOf l,
X.env::X.outer,.int ys.length,.int (x.2:Nat),.inl (aV s ha),"table_called",(af (top 156)),pJ X pins H b,(by have hlen:=r'.length),g.get? e=none,(s1.trans s2),(by all_goals exact nn e),⟨0,0,0,0⟩,"found_trees",absurd rfl hp,⟨H1,I1,q1⟩,(I1.list hq),decide (i<j),wpAny_pure h,(λ_ _ h'=>h'),jo K G fs ps,decide (x=y),"told_cells",(by rcases a with _|_|_),(by obtain⟨m,r1⟩:=x),eT (o7 T ns),agt T d=true,(λc=>c.name),"enumerate",(upd H a o),X.mg x=none,⟨us,[]⟩,Vals dvs ds,KT H kvs xs,gj ?_ ?_ cg,List Column,.str (tS p),(by simp only[abL,agn]),(aiS T).map,(akd _).symm,(λ_ _=>rfl),
"NotThere",Vals xs aL,Ho X.stack,jo K G v p,(afv.mp e),(λt ht=>?_),(λl hl=>?_),n<=1000000,r∈T.rows,y.tree two,(λz=>Pe ?_),(eI aT G1),(kF _).mpr,"answers",St acc se,h'.get? e,if_pos hc,α->Rs β,FQ j=true,(aD i ge),h'.get? c,.ellipsis,H0 l=none,(.Lb 0 j),"measure",ys.take n,ws.map sB,ps.map tS,List Cell,i<T.count,ahq T c d,(T.row j),l.map eT,.UnaryOp,k.good s,(by exact nomatch e),H a=none,(by omega),CL X.K C,hfp b hb,
if_pos e,if_neg e,if_neg q,h.get? e,rawInt T,(.str y),decide _,G l=none,(·==k'),"picked",cQ ?_ fz,(cK .b_),l.map dT,dp a<=64,B_ T c d,(add ?_),List Dep,i7 hT hc,some ob,(.ty n),(g i j),(g env),aj H0 H,(top i),"is_so","whole",al8 T d,(aht x),.ref e,cq T c,(c::r),(cP i),Pm K a,CL K C,ag0 hq,ag0 HA,.str b,.ref T,b≠T0,.inr h,
c≠i1,c≠i2,(bj 3),(cP 1),(ou q),l≠[],(b8 3),BV rfl,(eC c),(oJ h),(cellsFrom (s3.heap.objs.size+1) scope.names (bW X.env.cells scope.names [])),(ajn (T.cols.map λc=>c.name)||T.cols.any λc=>c.kind.twice),(by rcases b with _|_|_<;>rcases r with _|⟨_,_|⟨_,_⟩⟩<;>rfl),gz X.prog X.w X.K X.mg X.base CX k f fd ps sp,[some (.lst ts),none,some (.ins aT fs),none],ZS s.heap z TI TO i1 i2 b1 b2 c1 c2 k,outF (ab (bC gt (ai ge) fN) g3 se)=r,(h.push FJ).push (i_ C h.objs.size),[none,none,some (eL r),some (ay T)],(by obtain⟨o',e1⟩:=I.base.there b o e hx),(by cases e<;>first|rfl|(cases h)),aG (I.list hs) λaL rv hl _=>?_,(λA outer s H vs Q E hr hsp=>?_),bW X.env.cells scope.names [],Dz K G0 H0 a u L σ H G as st,af1 (afR (ae8 e) I.ok.above),σ[i]?=some (some (V.ref a)),(WX s.heap b1 b2 c1 c2).get?,.ok (.bl (neg !=l.isEmpty)),(by simp only[afS]<;>lia),fP P w K mg base x k ps F,(by obtain⟨u,us,rfl,h,r⟩:=r.un),pb X (compareOp op) r,(λq z=>by simp_all[z]),(λ_ x=>x.mono h.ex.hh),(d==sysModules)=false,((rs.map afx).map eT),(by have z:=of_decide_eq_false z),(by rcases aed.mp ht with rfl|ht),scope.names.lookup y,
aQ dR "column_names",(by rw[ae hb];exact z),r.reverse++(d::kept),(Rs.ok.injEq _ _).mp,ft (en a) se=.ok mP,(he _ s σ H _ I h),⟨_,_,_,_,_,rfl⟩,ds.foldl (gV all) f,tupleKind (bf P w),List (Option Expr),starEach es X.env,.lst (nL (aa4 T)),(λaL r' pl hz=>?_),List (Key×Value),aF eX "places_of",(cK (.str "key")),(by obtain⟨b,rfl⟩:=DK e2),{T with rows:=rs},"has_one_within",(cK (.str "or")),aiX (aie c)=true,(by intro pins s σ H D I h),(by simp only[ahn,if_false]),bs.getD i false,[z,TI,TO,i1,i2],(λp=>leaf [p]),(dE n c N sc b),"is_expression","columns_named","number_places","read_one_tree",((p+1:Nat):Int),(f a).length<=b,(by obtain⟨hz,q⟩:=a_ q),⟨_,_,_,rfl⟩,(T.gl _ _ rfl),(.ins C dx []),(λh1 h2 h3=>?_),DecidableEq κ,(λ_ _ _=>False),
(λ_ _=>trivial),(by cases r;rfl),(fv G H σ se),(T.rs _ _ rfl),"is_condition",(c.tree false),(x.length:Int),(by rcases z with rfl|rfl),(by obtain⟨t,rfl⟩:=r1),(by all_goals exact ag0 h),(by kernel_rfl),some (.own a),X.base.get? b,(by rw[e];simp),s.heap.get? x,cenv.kindOf y,List (TE×TE),env.length<=n,(PV.int ↑i),(QU sc scope),isNone b=true,"cells_under","found_claim",(by simp[R1]),(by obtain⟨rfl,y⟩:=y),⟨_,rfl,h⟩,(jj env own),(zN r ta tb),(aeH.mp h).1,Ex G H G1 H1,KY X.K E r F,(λ_ _=>ajN),"expression",jR rC "gone",cW K H nl xs,afG T ns x.1,alD T c.name,.sh (kL T d),⟨a,rfl,h⟩,a.map V.int,
K.In s.heap,(λx=>!x.1),(λo e _=>?_),pv 0 rfl v0,atKey xs cs,(adX.mp ha),"rows_from","is_within",eT (afN cs),eT (o7 T s),hS.num T hm,(inner i 0),(by have hl:=rv.length),(by all_goals exact bo),(by simp only[ah0,aoE]),(by simp only[afL,amF]),(st::rest),K.lookup f,anh d=true,(rawInt L),(by cases z),dQ K G v p,(afu.mp e),"NoneType",(S.Ss a _),"words_of","is_names","not_less",Tree->Bool,eT (afx r),eachOf _ l,(λy=>y !=d),(by rcases o with _|a),(by rcases c with _|_),(by obtain rfl:=afE h),model P w,H' b=none,sB T.name,(jl T ns),List Stmt,
D.nx σ H,Vals.LC r,if_neg hc,(aaV _ m),(λb q=>?_),(.tup ps),items[i]?,1<=s.toks,noStar as,"written",W2 K mg C,xs.drop p,(fX (-3)),(fX (-4)),if_pos hb,if_neg hb,afK two a,akC two l,ahq T d c,(by cases neg<;>simp),⟨o,e⟩,g.get? b,(.own x),if_pos h,(m,k)::r,"object",XC X.K C,G D=none,G a=none,dP j X.A,(akP ..),h.get? d,(eI C G),[p,ay T],.int 10,Q () s',(id vR),f3 b hb,some dx,anO _ _,
(nmS b),"group",(cf []),List β,l.all _,(h2 hk),k1 k hk,hs U hU,Cg _ hc,["enumerate","zip","dict_itemiterator","dict_reverseitemiterator","odict_iterator","itertools.zip_longest","itertools.pairwise"].contains,(.Call (.Attribute (.Name "Refusal" p1) "__init__" p2) [.Name "self" p3,.UnaryOp .USub (.Constant (.int m) j p4) p5] [] p6),(aou name qual params body scope dV kV doc pm an cdv ct),CB P w K mg base N qual scope f cd A outer s H E,(λpins s σ H Q I q=>h _ s σ H Q I (i σ H Q q)),⟨G',env,ex.gh,er.mono ex.gg,fq.later h ex⟩,(if two then(if s then wTwo else wOne)else wCol),(if([]:List Keyword).isEmpty then 0 else 1),wpAny_bind (wpAny_bind (wpAny_onRaise ?_)),(.refers T.name [c.name] U.name [d.name]),(if k<0 then none else(afQ s T)[k.toNat]?),(λq e=>absurd (ae8 q) (by simp_all[e])),absurd (show false=true from fx) ago,dv ft gb (l.map en) se=.ok (.nx se'),(by obtain⟨sl,e1⟩:=I.base.slot b o e n hb hx),tp=true->∃es k p,tg=.Tuple es k p,(b∈X.ex\/X.yS.heap.objs.size<=b),I7.pin _ (afF _ (afF _ (jE hb e))),(by obtain⟨Cp,r'⟩:=m.2 b _ (n1 q) (n2 q) r),(λb o hb e=>(sb.2 b hb).trans e),bR q7 λσ7 H7 I7 n7=>again I7 n7,afX T.cols (if s then b else a) c,.ok (.bl (neg !=decide (t∈l))),(by show wpAny _ _ (agq (.ref i1)>>=_) _ _ _),(by show wpAny _ _ (agq (.ref i2)>>=_) _ _ _),(by rcases aN hF with⟨⟨rfl,e2⟩,z⟩|hF),#[.int lo t,.int hi u,.int 1 v],!(am0 j i 0 j.length 1).isEmpty,(by intro pins s σ H x xs v us Q I rx rs h),Passes (oo X.prog X.w X.K) X E,ft (en a) (jj env own)=.ok dt,
CM P w K mg base A outer s H,.inr (.inr (.inr ⟨o,z⟩)),(by have hu:A.units+3+64<cLine:=hr.units),(I.base.keep b o e n hb hx),(ks.map (ahX:Str->Key)).zip,ag (ahi.mp hk) λc hc e=>?_,.inl ⟨rfl,vs,cW.of h4⟩,(afs n).foldl (jl T ns) [],beq_eq_false_iff_ne.mpr h,St (acc++l.flatMap f) se',anf akL (p::r)=some (c,t),(by simp only[adX,d_,exists_eq_right]),(λb o e=>(e0.bs b o e).1),([]:List Keyword).length,acc.length+b*l.length<=m,(λi=>decide (i≠cq T d)),(by simp only[aic,agw,apH]at h hl⊢),se[i]?=some (Slot.ow l),(λb=>.int (b.toNat:Nat)),iW rfl (by simp[Pd,eV]),(abN U d.name).contains,(by intro pins s σ H xs us Q I r h),(show False from r).elim,bR hs λ_ _ _ q=>ag0 q,Dp.reads I d x v hd rx,(room_in_shaped c2 hu),env2.set t (some L[i]),(by erw[one];exact Rv),r.length=T.cols.length,a.length=T.cols.length,b.length=T.cols.length,Key s (p::r) t (aie c),(s.find T.name).isSome,env.length<=σ.length,Io X.env.scope x=true,xs.map λx=>eT (tr x),(by simp only[ad2];lia),(by rcases aN hp with⟨e,z⟩|hp),(by simp only[akD,arY,aR,abL,agn]),.lst (ds.map (kL T)),
kvs.length<=sizeLine,X.env.cells.lookup y,some .globalImplicit,(by rw[e];exact ajN),⟨h3,gg,dd,tk,os⟩,(zd C dx nl (p+1+n)),(cK (.str "refers")),k.length<=6/\k.Nodup,nsIn K mainGlobals x,(by rcases aed.mp hp with rfl|hp),(by rcases ahO.mp hb with hb|rfl),(Xx X pins σ tg R),b=s1.heap.objs.size,(rU λi=>.int (-i)),.bl (decide (j<=i)),us.length=ps.length,"method_descriptor",sc.names.lookup y.1,acc.length<sizeLine,(λz=>e (h1.trans z)),E3 K x qual st f fd,(λ_ h=>h.mono ex.hh),some (.ins D dx fs),(upd H dx (.own r)),congrArg (·>>=_) h,eP (se':=se') ?_ ?_,(λ(j:Nat)=>PV.int j),(by rcases ps with _|⟨p,ps⟩),decide (r.length=1),gb mP=.ok (.nx ox),.bl (decide (j<i)),z.length<=sizeLine,xs.length<sizeLine,(by simpa using hne),b<s.heap.objs.size,c<s.heap.objs.size,(iu X.K E X.kW g1),(λvs H Q E h=>?_),s.toks+knd.draws k,l.length=vs.length,
⟨G0,P,G,se,h,q⟩,(eval iter X.env),(λi j=>.int (i+j)),(by simpa using hk),(rx.mono s).dp a1,fQ val items.size,[.int 32,.int 10],(cK (.str "not")),10*n+(b.toNat-48),(ahw T ns).length,(afZ d==ajC)=true,wpAny_holding ?_,X.yS.heap.get? b,(λ_ e=>nomatch e),(λv q=>nomatch q),some (JB e C tp),(dA n c N sc es),"keys_and_fixed",c_ kz "cells_in","answered_bytes",Q7 P w K mg base,T.cols.length<=6,(by cases x<;>rfl),(by rw[aa_];rfl),(by rcases aed.mp h with e|h),(by obtain⟨G,l,s,r,h⟩:=h),(by obtain⟨d1,d2⟩:=wg hT),U.name !=T.name,AllBare s'.gens,PI X tg iter wi,(binaryOp .Add),h1.symm.trans e,(L2.start N vs),ks.isEmpty=true,(cK (.str " ")),"cells_by_name",s1.trans ex3.hh,(by simp[tS,apG]),fj (~~~(h)) rfl,(by intro pins s σ H Q I h),
(dE n c N sc o),X.env.kindOf x,(neC b o e hx),(λh' vR sb=>?_),⟨_,ho,rfl⟩,vs[2]?=some cx,(j_ X.K E0 gt),(λg1 g2 g3=>?_),(by size_fits),Sq K H b1 a xs,Sq K H b2 b ys,congrArg amN e,(h.own i l e1),noStar es=true,"NoSuchColumn",(cK (.str "")),"rows_against","is_left_side","found_claims","counted_text","answer_table",(af (top 157)),(zd C dx nl 0),(by rw[abV];rfl),p.all agZ=true,two=false->a=b,⟨c,hc,rfl⟩,r.length<=6000,(by rcases hx with rfl|rfl),(by obtain rfl:u=afZ a:=rx),(by simp only[ahf,hx]at h'),(by obtain⟨hc,h⟩:=a_ h),c.reverse++[b],⟨rfl,nofun⟩,fq.later h ex,I.ok.bs b o e,s.heap.get? a,(SP X pins D),J.Ht i H x H',⟨_,e,rfl⟩,
"__getattr__",s.heap.get? e,(FK e C tp d),(λx=>.ok (!x)),(j_ X.K E tb),aI K G1 xs ps,PV->gZ->Rs gZ,PV->SE->Rs SE,(eU gi ft gb),dT n c N sc t,dT n c N sc a,"NotReadable","check_cells","column_sets","unless_gone","written_row","answer_rows",[a0,a1,a2,a3],(by simp[jA]),[eT t,zT two],some (l,rest),agu λk _=>?_,(afJ.mp hx).1,aoW<=s.length,putK kvs k v,(λx H' y=>?_),(by simp at e),env.kindOf x,I.cell x c e,eval b X.env,xs.length<=i,tn i s'.heap,(start N vs),PlainAttrs T,.FunctionDef,Rep K G' v p,kj X.K E r F,Ex.laid s hp,(hr.mono hk),ks.map V.str,
af (top 129),"table_from","twos_alike","least_keys","all_others",cs.length<=6,(c.toNat-48),decide (a=_),(aho c.name),mg_of X G h1,(ns.map aqs),(by obtain⟨t,e⟩:=(r)),(by rcases hq with hq|hq),(by all_goals exact ft h),decide (i=j),(rv.get hx),(T.row x.1),(T.row x.2),(B8 rfl bK),(λy c e=>?_),0<ns.length,(C7 I.bq e),(C8 I.bq e),"Exception",eq_of_beq h,vT K C=true,((n,v)::vs),((n,p)::ps),aI K G' v p,Rep K G u x,(λb u h=>?_),.int (yV n),cW K H p ys,j9 K H p ys,aI K G vs l,SS h b c xs,Rep K G v x,.ok (jq,MN),"are_words","take_list",
ab g1 g2 se,(ws,tS run),alc T.count,(B8 rfl cj),(adX.mp hk),(.rows t r),(by rcases hty with e|e),(by rcases r with a|n|_),sA K E n H,I.pin p hp,k b o hc e,(run++[c]),J.stop i H,(agx _ hp),fi X.K C f,eval e env,(λy hy=>?_),Option Nat,(j9.of aa),(intsOf l),(afv.mp h),"are_rows","value_of","all_twos","breakers","names_at",.ok (a,Cs),3+t.length,(A_ [3,4]),eachOf f r,L2.Key×PV,sB t.write,l.filter p,!l.isEmpty,.ow (nL f),(.table t),(by cases h<;>simp_all),[32,40,32],(by simp only[aky,akz]),(.tup []),
(as++[l]),PG X tg g,oY f v fs,if_neg h0,O5 X id r,del H e b,(am1 hlt),(ki h ru),(.tup qs),(vi true),"follows",(look 10),K4 c.kind,hT.len hr,U.name==t,n9 s call,[[p],x,y],[[p,k],x],(.ref fR),(by rcases q with q|q),(.lst ys),(by rcases b with _|_),(by cases x<;>cases y),aed.mp h,ahw T ns,aaV _ hb,RQ T U c,b∉X.fs,PE X e t,(dN t u),J.go i H,fi K C f,dP k X.A,some q.2,H d=none,PV->Prop,(aV s h),Rep.HQ s,Fi r P e,PV->Bool,
(ot h r),(Z5 K n),h.get? c,I1.tok _,(ani c2),some row,(.str p),.str "?","things","chosen","is_key","at_end",(Nz K C),(ih h.2),(h a ha),s.find w,t.map sg,ml run t,(RC rfl),some col,ahw T cs,(inO us),(f,first),⟨_,e⟩,(λh2 a2 b2 c2 d2=>h _ T z a2 ⟨λx o q1 q2 q3 r=>b2 x o (nT r) (b.1 x o q1 q2 q3 r),λx o q1 q2 r=>?_⟩ c2),[s1.heap.objs.size+4,s1.heap.objs.size+2,s1.heap.objs.size+3,s1.heap.objs.size,s1.heap.objs.size+1],kvs.length<=sizeLine/\(a==sysModules)=false/\∃vs,KV kvs vs/\h.DictOf (bf P w) a vs,(λh' eb=>⟨rfl,I.turned (t':=s.toks) (λb o hb e=>eb b o hb e) f0 f1 f3 f4 f5⟩),(λh' eb=>⟨rfl,I.turned (λb o hb e=>eb b o hb e) f0 f1 f3 f4 f5⟩),(h.push emptyDict).update e λo=>{o with dict:=some h.objs.size},(show oY f v _=(if k=f then(k,v)::r else(k,x)::oY f v r)from rfl),(backToKw cpos (keywordEach [] X.env)).all (λx=>x.1.isSome),ahq T c d&&decide (akq (af0 (abN T d))<akR (af0 (abN T c))),(by have hn:numsOf (intItems xs).toList=ns:=by rw[<-e];exact hi.numsOf),(hs.2 b (af1 (afR (ae8 e) (I.ok.TZ x c hfn hc)))).trans,"abcdefghijklmnopqrstuvwxyzABCDEFGHIJKLMNOPQRSTUVWXYZ",(x.all (λ(z:Int)=>akU z 8)&&decide (x.length<=6000)),(ys.map (·.length)).sum+ys.length*a.length<=16777216,(done.map V.int++[V.int ((a.map V.int).length:Nat)]),CO CX P w K mg base N qual scope f cd A outer s H E,
!(decide (lo<=amc T x g)&&decide (amc T x g<=hi)),(∀b xs,H b=some (.tup xs)->H' b=some (.tup xs)),(s.heap.push anx).push (alG C s.heap.objs.size),if(U.name !=T.name)=true then RQ T U c else [],ph X.prog X.w X.K X.mg X.base CX k f fd ps sp,[none,none,some tp,some (.ins aT (rJ a b c))],(by simp at hx;rcases hx with rfl|rfl<;>simp),(by obtain⟨⟨f0,f1,hz,_⟩,F0,⟨x,y,Ic⟩,h1,h2⟩:=st),QF P w K G0 H G1 d vr vp i σ H' G xs ls acc,.inr ⟨-13,fj (~~~(ip hS ht hf)) rfl,rfl⟩,(hl1.keep λo e=>hs₁.extBut _ _ D.l1z e),(iEe (Fb bK rfl) (congrArg Rs.ok (lC hT))),(h1.keep λo e=>hs₁.extBut _ _ D.i1z e),es.toList=xs.map (entryOfKey (sV P w)),(λx=>PV.tup [eT x.1.tree,eT x.2.tree]),(by rw[aa_];congr 1;apply propext;lia),(λys hy=>by rw[I.qz hy hq];exact hx),(λkv=>if kv.1=k then(kv.1,v)else kv),(amL (x.1:Int),PV.str ⟨#[x.2]⟩),(zH4 s.heap b1 b2 c1 c2).objs.size,(if x.1=cs then(x.1,x.2++[n])else x),(by rcases aN h with⟨⟨rfl,rfl,e2⟩,z⟩|h),ahY T ns (T.row x.1) (T.row x.2),cellsFrom h.objs.size names acc,(if n=-13 then .ex (-5)else .bad),(λv H2=>v=.b_/\Q (.ref x) H2),ans "dict_valueiterator"=false,.ok (.bl (neg !=decide (a=b))),X.env.frame=some X.env.locals,{D with nx:=N,ct:=N,bk:=D.nx},(s3.trans ex.hh).trans ex3.hh,wpAny_bind (wpAny_handled ?_),OD K G0 H0 G H σ di env d ps,(λQ' q=>⟨_,_,rfl,rfl,q⟩),ag (rv.get hx) λu hu ru=>?_,backTo pos (starEach es env),(by rcases t with _|_|_<;>rfl),w≠wCol/\w≠wOne/\w≠wTwo,⟨G,Ex.refl s2,h2.mono s1⟩,I1.AQ hle (I1.bq.fresh hle),
IF h0 rfl (k:=c) (at_ 0) ?_,(.int (x.cps.getD 0 0:Nat)),(.For tg iter body [] pos),s.heap.IsList l aL.toArray,X.env.scope.names.lookup y,H b=some (.tup (k.map kV)),PI X tg iter (yY X.K E gi),decide (a.length=cs.length),(by with_reducible refine wpAny_call ?_),"object.__getattribute__",aI K G xs l/\Fi (f l) P e,bR st.Qm λf0 f1 hz _=>?_,.ok (.lst (a.map PV.int)),done++((a.length:Int)::a),(λa ha=>hs a (aaV _ ha)),(I.base.free b o e n hx),sliceBounds lo hi none n,(by obtain⟨xs,e⟩:=hi.allInts.items),(by obtain⟨Cp,r'⟩:=b.2 x o q1 q2 r),(by rcases hU with rfl|⟨rfl|rfl,_⟩),[none,some tp,none,none],⟨Cp,b2 x _ (nT r) r'⟩,(T.rows.map afx).map eT,some {o with slots:=sl},CE outer P w H s Q u s',(cells.lookup n).getD 0,(by rcases p with _|_|i|_|_|_|_|_|_|_),(by rcases p with _|_|_|_|l|l|_|_|_|_),(by rcases q with _|_|i|_|_|_|_|_|_|_),outF (ab (eM ge) g3 se),(λr=>c.holds T.cols r r),T.rows.all (akQ T.cols),starEach (e::es) X.env,T.cols.map λc=>c.name,e=x\/H e=some (.own x),base.Ns mainGlobals mg,cW K H a (bs.map V.bl),(λy hy=>h y (aaV _ hy)),es.toList.map (·.val),(by rw[alI];exact h.len),
Pa++[V.ref l2,V.ref l],(xs.drop (p+1)).take n,(λb hb=>h b (aaV _ hb)),(by unfold ab;rw[h];rfl),(by have:=sz;simp;lia),ab (bC gt g1 fN) g3 se,.int (cq U d.name:Nat),(λj y v' e1 e2 e3=>?_),(hb _ _ σ _ _ I1 q1),tupleKind_room_in1 hu,(asD hx).andThen .now,i_ C s.heap.objs.size,some (some (.ref fI)),agA.mpr ⟨af3,aoB⟩,⟨rfl,rfl,rfl,rfl⟩,[z,TI,TO,i1,i2,c1,c2],(hs.2 b (ne e)).trans,(by unfold vY an_;simp),(λk=>(⟨#[k]⟩:Str)),(λres h1 h2 h3 h4=>?_),(show u=afZ b from ry),ae (hm b _ q λz=>z),σ'.length=σ.length,HT.k8 xs.length 0 lo,(λz hd vs rel dd=>?_),(λz hd xs rel dd=>?_),(λkv=>(kV kv.1,kv.2)),a.length+2<=sizeLine,done.map (nk prog w),(λx=>decide (x.1=cs)),(keywordEach [] env),(if c then a else b),QU X.env.scope scope,S6 P w K mg base j l,(λh3 a3 b3 c3 d3=>?_),.inr (.inr (.inl c)),(by erw[cj,abV];rfl),(λd=>g c.name d.name),s1.heap.objs.size+1,s1.heap.objs.size+4,
(λb o e n hb hx=>?_),n_ X.prog X.w H' h',(h _ s σ H _ I hw),hb _ _ σ _ Q I1 q1,(hc _ s σ H _ I h),(h1 _ s σ H _ I h),assignEach es X.env,.bl (decide (i<=j)),Fs s.heap x dx C mA,aqV K cdv qual=true,ys.length<=sizeLine,kvs.length<sizeLine,(by rw[aa_];exact hz),"Exception.__new__",(λb o q n hb hx=>?_),comp ft gt ge env r,[s1.heap.objs.size],as.length=st.length,qY K G H0 H u as st,gC (aJ (aJ h2).2).1,(bL (tTl K C E) ee),(λs=>s.cps.toList),(by rcases n with _|_|_|_|_|_|_|n),(λi=>decide (i≠f)),l.foldl (nX p) kept,(λacc=>.ok (Dx acc)),k8 items.size 0 lo,(by simp;simp_all),Inv X pins σ H s',X.A.units+64<cLine,bW cells names acc,(upd H p (.dK [])),(putK kvs p.1 p.2),"dict.update.loop",aoz a (a.length+1),⟨h,g,d,t+1,os⟩,Binds X.K fd ps [],starEach [a] X.env,starEach [b] X.env,(by rcases aed.mp hm with rfl|hm),
s.heap.objs.size+4,a.length<=sizeLine,X.A.units+65<cLine,(compareOp .NotIn),(xs.size==ys.size),decide_eq_true rfl,H u=some (.lst ls),itF tp x as.length,(λ_=>.ok (.rt .b_)),"least_left_sides",(by rcases aed.mp ha with rfl|ha),(cK (.str "word")),(cK (.str "same")),(l.filter t).map e,(pre++[a]).flatMap,x.write++32::afA _,(by rcases aed.mp hx with rfl|hx),(λc=>!g.contains c),⟨a,b,rfl,h1,h2⟩,("__debug__":Str),(λc=>c.kind.twice),(sb.2 b hb).trans,.seq aL.toArray n,(by simpa using hi),(by simpa using hw),(λxs=>.ok (x::xs)),(by obtain⟨hp,g,d,tk,os⟩:=s),(λa ha b hb e=>?_),(by obtain⟨tg,it,ifs,as⟩:=g),⟨rfl,rfl,rfl⟩,"are_expressions","below_condition","compared_claims",(λb hb=>.inl hb),(cK (.str "and")),(cK (.str "any")),eachOf f l=some m,some (eT (afx a)),(by rcases afC.mp hp with hp|hp),(by simpa using h3),
sizeLine=16777216,(λj=>decide (a<j)),⟨_,_,_,_,rfl⟩,rounds all ds n S,closure all ds cs,s.map λT=>T.name,.inr ⟨_,h,hf⟩,(r.drop _).take _,(.str (as2 a ys)),decide (x.1<=x.2),(TP X pins σ Q),Value->Sem Value,(λaL rv p hz=>?_),(rv.mono ex2.gg),Rd H b (.lst zs),Def K mg x st ps,(UY K b1 b2 a b),⟨G,env,s,er,h⟩,(by obtain⟨G0,l,s0,r,h⟩:=h),(a.ok.none _ b1),xm i=some (x,ps),"twos_not_fixed","rows_not_found","groups_outside","rows_not_alone",(by rcases hl with z|⟨o,z⟩),h0.step hC (p+1),(by cases e;rfl),(by erw[one];simp),(by simp[afH]at h),(s₁.heap).get?,(exec st X.env),⟨v,H,I,r,h⟩,(.If c a b pos),Nat->Heap->Prop,(compareOp .In),(xs.length:Int),(by rw[afS,hlen]),(by rw[<-C6];rfl),A.units+1<cLine,
"StopIteration",.FormattedValue,A.units+8<cLine,(I.bq d _ hd).1,amm _ (aoU _ _),apW x "(" " ( ",(MS K E H (-1)),s0.heap.get? e2,"check_measure","what_it_fixes","filled_claims","rising_claims","refers_claims",outF (g2 se')=r,l.map (aic two),(λcol h1 h2=>?_),(by split<;>simp),aaV _ (h2 x hx),akX c.name used,ds.length<=5000,kT hS ht (k:=k),(by rcases hx U hU with rfl|h),(sD rfl rfl hn),(by rcases afC.mp hU with h|h),s.find k.table,dg P w H h a o,h.objs.size<=a,(by obtain⟨c,rfl,q1⟩:=q1),pJ X pins H' b,⟨_,Uk,rfl⟩,(by rw[afS];lia),s'.heap.get? b,excIn K C=true,some (i_ C tp),(∀n,e n->e' n),Fi (r>>=f) R e,(λ_ _ _=>Y1 hr),(by obtain⟨a1,a2⟩:=ni h1),⟨_,hz,rfl⟩,o4 s.heap ks a,
(ls.map V.ref),GOk P w d xs o,(λb o hb e=>?_),ys.length<4000,(JU p (gm ys)),c.fld C f=true,(by obtain⟨p,rfl⟩:=cY hn),"twos_against","any_breakers","range_claims",["low","high"],"fixed_claims",(lr G H tl as),(by cases h;rfl),List (Int×tI),(by simp only[ad2,adW]at len),(λr=>!akQ cs r),p.length<=6000,alg p<=1000000,⟨x,hx,rfl⟩,(λx=>eT (vK x)),U.name==T.name,decide (x=.b_),decide (v=.b_),⟨_,hx,rfl⟩,(ano s).isSome,"table_named",.ok (.nx se'),(λb u e=>?_),wpAny_pure hQ,PE X value tv,aX N ps scope,s.heap.get? l,"list.append",IntsAre aL ns,bf X.prog X.w,some (.xd fs),(r.append r2),(aeH.mp hp).1,Ex.laid s2 hT,
(aV ex.gh hl),(h.own i l e),A.units<cLine,"dict_values",(L.map V.str),(j_ X.K E tB),(keys_cons h),(λ_ _ _ _=>bo),(S.W a _ _ _),ow.contains y,(af (top 41)),EA K R H0 E n,"are_columns","check_names","places_told","check_named","check_claim","word_claims","refers_into","refers_from","read_number","answer_call",(cK (.int 5)),(.tup (x::r)),(PV.bl false),(b::r).all pC,kG cs rs=true,⟨#[sg b]⟩,(by rw[yl];lia),(c.tree true),(g.head?).any,(by simp[VT]),(by simp[R3]),Nat×Str×Str,.ins C dx fs,(.str "col"),decide (a=b),(I.ji x c e),(λm hm=>?_),(aeH.mp hi).1,
(λf s1 q=>?_),oj X body tb,cW K H1 a xs,apT K C=true,IsPart vl lo,IsPart vu hi,(by rw[nums_intItems]at hn),.int (j:Nat),uE K H xs ds,ae (az e hn),aI K G xs ps,absurd rfl h,alY (h:=hlt),(tP X.K E g),(by show wpAny _ _ _ _ _ _),ex.hh _ _ h4,Bs sc x=true,absurd rfl z,(by simp only[abk,afI]at h),gC (aJ hb).1,"begin_list","all_differ","is_measure","neighbours","key_claims",mX ?_ ?_ rfl,D1 x as ts o,.ok (.tup r),(λi hi e=>?_),k.tree false,amd T c.name,c.length<=20,x.length<=20,uo ns _ hall,T.hasCols ns,⟨i,hi,e⟩,X.fn x=true,Option Expr,l.flatMap f,eT x.1.tree,
ip hS ht hf,Value->Bool,(by injection e with e1 _),h.Ns1 dx mA,(upd H x o),tn i s.heap,(AU I.bq e),af1 (anL _),r.append hd,i<vs.length,CV xs lo hi,(ks.map kV),List (V×V),strValues l,(λv p h=>?_),(λ_ _=>.inl),Rep K G x p,sA K E n H0,.seq #[x,y],(λb o q=>?_),(by simp[hb]),g7 acc cs n,(λa o q=>?_),st.length=1,(I3.sk).len,i<as.length,(by obtain⟨t,rfl⟩:=ru),Gc K mg x p,⟨t,rfl⟩,S.B a _ _ _,(afu.mp hz),eq_of_beq b,"read_leaf","is_column","is_refers","is_groups","read_word","with_rows",(λ_ _ z=>?_),(brs K C E),
xs.length-p,(λt x=>nF),amL (a:Int),(alg p:Nat),(λi=>nT [i]),(adX.mp hp),s∈ahQ n l,nX p kept s,(B8 rfl gQ),s.length<=3,(aid.mp hk),qb col.kind,.ins aT fs,(λ_ _ q=>q),b*l.length,Ex.refl s2,(aaV _ ha),1<=s'.toks,(alG C dx),(id I.loc),s'.os=s.os,(λ_ _ x=>x),tb σ H1 Q,K.lookup a,x.length=1,backTo _ _,Dp K H x d,A4 I.bq eb,⟨q,hq⟩,x.length+1,false=true,(by obtain⟨rfl,z⟩:=z),H' ea=none,(λ_ _ z=>z),wpAny_bind (lg (h1.keep λo e=>hs.extBut _ _ D.i1z e) (hl1.keep λo e=>hs.extBut _ _ D.l1z e) hx λh₂ Z8 hs₂=>wpAny_pure (wpAny_pure (wpAny_bind (wpAny_bind (wpAny_holding ?_))))),(by have e':c=s1.heap.objs.size+4\/c=s1.heap.objs.size+2\/c=s1.heap.objs.size+3\/c=s1.heap.objs.size\/c=s1.heap.objs.size+1:=by simpa using E8),(by rw[agD,decide_eq_true_eq,decide_eq_true_eq]at z;rcases z with rfl|rfl<;>rcases r with _|_<;>first|rfl|exact alx.symm),⟨λp hp=>(ag (r.get hp) λu h1 h2=>⟨⟨xs,u,hq,h1⟩,λx H' y=>?_⟩),λhi=>⟨xs,hq,by simp_all[r.length]⟩⟩,⟨o.mod,o.kind,o.glob,o.blt,o.above,o.inj,o.has,o.TZ,o.hd,o.frames,o.WL,o.WM,o.bs,o.KR,o.Ff,o.Fg,o.oV,o.O2⟩,.seq ((items.toList.drop (k8 items.size 0 lo)).take (k8 items.size items.size hi-k8 items.size 0 lo)).toArray,
Ov (b:=false) rfl nofun λ_=>Pe ⟨_,_,_,_,congrArg (λl=>[_,_,Slot.ow l,_,_,_,_,_,_,_,_]) (afM _).symm⟩,(if amD c=true then flush run++ml [] r else if nI c=true then flush run++[c]::ml [] r else ml (run++[c]) r),wpAny_passesOwn hp (ck (T.item X rfl rfl rfl hc i _ _ _ _ _ I3 (stat XB) EZ go) λr s4⟨u,hr,h4⟩=>?_),(∀acc se,acc.length+b<=m->St acc se->∃mP ox,ft (en a) se=.ok mP/\gb mP=.ok (.nx ox)/\St (acc++f a) ox),⟨λb o e n hb hx=>?_,λb o e n hb hx=>?_,I.base.free,λb o e hx=>?_,I.base.u9,I.base.sG,I.base.u_⟩,(h2.keep λo e=>hs₃.extBut _ _ D.TOi2.symm (hs₂.extBut _ _ D.i12.symm (hs₁.extBut _ _ D.i2z e))),(by have h1:=mv (two:=two) a;have h2:=mv (two:=two) b;simp only[ain,akD];rw[eG,aS,aS,aS,iS,adW];lia),(by have h1:=mv (two:=two) a;have h2:=mv (two:=two) b;simp only[agw,aic];rw[eG,aS,aS,aS,iS,adW];lia),wpAny_call (codeAny_mono (F.run _ _ s H _ _ _ Q E hr I.Pr (hb s _ I.qv hl) r2 h) λr s' hq=>?_),(hl2.keep λo e=>hs₃.extBut _ _ D.l2TO (hs₂.extBut _ _ D.l2i1 (hs₁.extBut _ _ D.l2z e))),s.heap.get? p.1=some p.2/\H p.1=none/\p.1≠X.env.locals/\p.1∉X.fs/\∀v,p.2.data≠.cell v,(λm' hm=>by refine mB hm λo' Xn Xo Co r'=>?_;rw[ho]at Co;cases Co;exact⟨_,Xn,Xo,hL,r'⟩),(hcc λx hx=>by simp[amg,agw,ags,aho,ain]at hx;rcases hx with rfl|rfl|rfl|rfl<;>assumption),(ck (h _ _ s σ H _ I hq) λus s1⟨xs,H1,I1,r,z,q⟩=>⟨by rw[<-r.length];exact z,?_⟩),(by have Mj:¬(!aL.toArray.isEmpty&&ak5 (aL.toArray.size+ka.toArray.size))=true:=by rw[C0 hsz,akd];exact ago),wpAny_bind (wpAny_field hz rfl (x:=.ref TI) rfl (wpAny_bind (wpAny_seqItems F0 rfl ?_))),(λb hb=>⟨(hf b hb).2.2.2.1,(hf b hb).2.1,(hf b hb).2.2.2.2.1,(hf b hb).2.2.2.2.2⟩),I2.turned (h':=h3) (t':=tk) (λb o hb q=>b3 b o hb q) g.hT g.tl (.inr g.t0) g.tc g.tp,(λz=>if l.length+z.length<=sizeLine then .ok (.nx (se.set i (.ow (l++z))))else .bad),((CB P w K mg base Rk (aee "answers") (af (top 173)) f cdv A outer s H E).K),(T6 ha hb I h λv u s2 x y H2 I2 rx ry q=>ho _ _ σ _ x y v u Q I2 rx ry q),.str "abcdefghijklmnopqrstuvwxyzABCDEFGHIJKLMNOPQRSTUVWXYZ0123456789-.()",(λaL r pl hz=>pI (AZ he) λj h1 h2 h3 h4 h5=>ag (r.get h2) λw ew Jr=>?_),(I.bq b _ e).wm (λc w' hc q=>(hs.2 c ?_).trans q) (λ_ q=>q) λ_ _ q=>q,(if b.length<sizeLine then fh leaf r (c.reverse++[b++[.tup a]])else .bad),(by obtain⟨⟨oc,od,cd,sl,hC,e1,e2,e4,e5⟩,made,base,self,exc,LR,Uj,noN,call,typ⟩:=Y),(hb _ _ _ _ (wpAny_newFunctionEnv_cells S.kind Lv λenv he s1 x=>?_)),(by have hlx:T.hasCols x.cols=true/\T.hasCols y.cols=true:=by simpa[ag5,ain,aof]using hl),(h2.keep λo e=>hs₂.extBut _ _ D.i12.symm (hs.extBut _ _ D.i2z e)),["__module__","__name__","__qualname__","__doc__","__annotations__"],(∀l,F l=.bad\/(l.length=ps.length/\F l=outF (g (init N.length l)))),wpAny_bind (wpAny_pure (wpAny_bind (wpAny_dictEntries hod hdd ?_))),o9 (I.pin p hp) λe n ne nf d=>⟨(hs.2 _ ne).trans e,n,ne,nf,d⟩,(.lst ((T.rows.map λr=>Tree.list ((afG T ns r).map ag4)).map eT)),(.bl (if neg then !(ds.any λy=>ahm y d)else ds.any λy=>ahm y d)),(hl2.keep λo e=>hs₂.extBut _ _ D.l2i1 (hs.extBut _ _ D.l2z e)),wpAny_bind (wpAny_pure (wpAny_bind (wpAny_dictEpoch hod hdd ?_))),(by have Mu:IsPair h₂ TO a b:=hs₂.extBut _ _ D.TOi1 (hs₁.extBut _ _ D.TOz Ic)),wpAny_passesOwn hp (ck h4 λ_ s5⟨x,H5,I5,r5,y5,wu,fr5⟩=>?_),(by have gd:∀{T:afr},s.find k.table=some T->k.good s=_:=λh=>by unfold anI;rw[h]),
Inv X pins σ H' {s with heap:=h',gens:=g',drawn:=d',toks:=t'},wpAny_mono (ht [] _ _ H _ I hq) (λfl s' hs=>?_) λe s' hs=>hs,xs.length+zs.length<=sizeLine/\Q .b_ (upd H l (.lst (xs++zs))),(hs₃.extBut _ _ D.TOz.symm (hs₂.extBut _ _ D.i1z.symm Sz)),[.Name "self" p3,.UnaryOp .USub (.Constant (.int m) j p4) p5],(∀b ps,H b=some (.TU ps)->∃more,H' b=some (.TU (ps++more))),(λ{σ' H' v u}J rv q=>⟨v,H',J.os,J.bare,J.base,J.bq,rv,q⟩),wpAny_bind (isFree hz hf (λf0 f1 hz=>?_) (λh' T hz hs=>?_)),(I.bq b u e).wm (λc v hc q=>k c v ?_ q) (λ_ q=>q) λ_ _ q=>q,(by have hl:(us++ds).length=ps.length:=by rw[<-r2.length];exact F.len _ _ _ _ h),(ck (ho pins s σ H _ I h) λv s1⟨x,H1,I1,r1,ty,q1⟩=>?_),(λd hdd=>⟨by cases d<;>simp[rt];exact hnd,(hd d hdd).rk⟩),(by have h1:=yQ (two:=two) l;simp only[agw,aic];rw[eG,aS];lia),(as.isEmpty&&ks.isEmpty&&!DJ o&&(apos.endLine==q.line))=true,amW (c::r)=(amK c&&(r.all afT&&decide ((c::r).length<=20))),HT.k8 l.length 0 lo=0/\HT.k8 l.length l.length hi=l.length,⟨λz=>by rw[z];rfl,λz=>by rw[z];exact⟨_,rfl,_,rfl⟩⟩,p.1=q.1/\H q.2.1=some (.tup (p.1.map kV))/\RelV p.2 q.2.2,(λenv=>ge env>>=λp=>gl env>>=λa=>gu env>>=λb=>KZ p a b),(by rintro vs H Q E ⟨r,dx,nl,p,xs,_,ev,_⟩;rw[ev];rfl),(by cases b<;>obtain⟨o,e,r⟩:=x<;>exact⟨o,k o e,r⟩),(by have hy:ys[k]?=none:=by rcases hend with h|h;rw[hx]at h;cases h;exact h),gX q7 λx7 σ7 H7 I7 r7 q7=>⟨x7,σ7,H7,I7.jF,r7,q7⟩,⟨len,λA outer s H args us vs Q E hr e0 hb r hsp=>?_⟩,(by try simp only[one,two,E5,wN,P1,uH,vg,opt,FP,E7,w9,wY,Du,k_,sY,akB,aia]),o.data=.seq aL n/\aL.size<=sizeLine/\Vals xs aL.toList,(by have I2:Inv X pins σ H1 {s1 with heap:=h'}:=I1.kept (t':=s1.toks) hk),(A.deeper (envOfC qual scope s.heap.objs.size f cdv)),ah r.yW λa xs h1 h2 h3=>⟨a,xs,l,h1,.inr h2,h3,h⟩,ah r.FO λa xs h1 h2 h3=>⟨a,xs,l,h1,.inl h2,h3,h⟩,(adY.mpr λz hz=>adY.mp hl z (aid.mpr ⟨c,hc,hz⟩)),(B8 (rT (B8 rfl bK) rfl (tT (by rw[ad0,h2];rfl))) nE),(by obtain⟨⟨vs,sl,he,h1,h2⟩,⟨oT,ts,hT,JA,h3⟩,hne,ge,gT⟩:=hF),(λk E2=>⟨(hk k E2).1,by have:=(hk k E2).2;lia⟩),(by have hlt:cq T d<T.cols.length:=ag (jg RL) λcol h1 _=>(aeH.mp h1).1),aG (id hit) λo ho hc hd=>kc hl λol Ms _ nl Ql=>?_,wpAny_bind (wpAny_field ho hd (x:=.int i 0) rfl ?_),(c1 (cK (.str "pairs")) (c1 (cK (.str "next")) c0)),(λb u e z=>by have q:=(hf b z).1;rw[q]at e;cases e),((afs 26).map λi=>97+i)++((afs 26).map λi=>65+i),
(by have hl:(putK kvs k v).length<=sizeLine:=by have:=m9 kvs k v;lia),wpAny_bind (wpAny_field ho hd (x:=.ref c) rfl ?_),gX hs λv σ' H' J rv q=>⟨v,σ',H',xn J,rv,q⟩,rounds all ds all.length (all.filter cs.contains),(by cases r with|cons h r=>exact⟨_,_,rfl,h,r⟩),(λpins s σ H D I q=>h _ s σ H D I (i D σ H q)),(wpAny_call_entry amk hit.typeIs apt ?_ (ao4 _)),alf b=true->afT b=true/\48<=b.toNat/\b.toNat<=57,I.kept λb o eo=>hk b o (λhmem=>?_) (aba _ eo),(by rw[I.ok.glob];exact I.mod.glob.keeps I.bk),⟨o,es,ep,k _ o (λz=>(hf _ z).2.1 rfl) ho,r⟩,((h1.step hC (p+1+1+t.length)).laid (t:=t) hl),.inr ⟨az (k1 _ _ hn) NL,az (k1 _ _ hn) NO⟩,(kvs.map λkv=>if kv.1=k then(kv.1,y)else kv),wpAny_bind (wpAny_specialOf hT aoA.lookup ?_),(by rintro vs H Q E ⟨u,ls,e,_⟩;rw[e];rfl),(λvs H1 I1 r1 q1=>hc _ _ σ _ _ _ Q I1 r1 q1),(λb o _ _ hc e _=>⟨o.slots,k b o hc e⟩),(Builtin.«zip.__next__» ⟨[.ref z],[]⟩),gt dt=.ok (t a)/\(t a=true->ge dt=.ok (e a)),W.item i s _ _ hg st λv h' tk hv vR kk=>?_,⟨0,σ,H2,I2,st2,λb hb=>(f2 b hb).1,w0⟩,bR q7 λσ7 H7 I7 q7=>⟨σ7,H7,I7.jF,q7⟩,wj (I.bq p _ hk) λ_ _ _ _ o _ _ e ex _=>?_,(by rcases sS e with e|⟨z,q,e⟩<;>cases e),Dz K G0 H0 a u L σ H G (as++[l]) (st++[b]),(1<=c.length/\c.length<=asi)/\r.length<=aoX,wpAny_bind (wpAny_bind (wpAny_holding ?_)),cH (h.own j _ z) λc us k1 k2 k3 k4 k5=>?_,[none,none,none,some (.ins aT (rJ a b d))],(fY ?_ (fY ?_ (fY ?_ (fY ?_ (fY ?_ nn))))),start (evSet (~~~(hr)) (mj (~~~(hc)) rfl)),bR hs λσ' H' J q=>fin (v:=V.b_) J rfl q,ae (λz=>by rw[z,h]at q;cases q;exact mu),sb.at (ag (afv.mp xc.ty) λoC WV hcC=>?_),(λv s'=>1<=s'.toks/\EP X pins σ Q v s'),(show S6 P w K mg base 89 []from trivial),(show p+1+1+t.length=p+(2+t.length) by lia),.each T.name (am7 c.name (akq l) (akR l)),(by rcases g with⟨kvs,k,e,ey,l⟩|⟨kvs,k,b,e,ey,eb,l⟩),
(∀σ',jB K G0 H0 P G H σ' se'->Q σ' H),(by obtain⟨⟨f0,f1,hz,hf⟩,F0,⟨a,b,Ic⟩,h1,h2⟩:=st),bR q λσ' H' I' q=>h2 _ _ _ _ D k1 I' q,⟨(h2 g hg).1,by have:=(h2 g hg).2;lia⟩,forall_congr' λc=>forall_congr' λ_=>?_,bI (I2.after HA) λv H' I3 rv ev q3=>?_,(λh' c' kp e=>fin aL r' hz h' c' kp e),HN hfr hl hf hF gs λh' T z a b c d=>?_,wpAny_pure ⟨plainId_quiet m_ _,key⟩,(λq h1 h=>⟨w,k,_,q,_,rfl,h1,h.symm⟩),wpAny_pure (wpAny_pure (wpAny_pure q)),(by rcases bg hv with⟨j,u,rfl,rfl⟩|⟨y,u,rfl,rfl⟩),wpAny M A (storeName X.env x u) Q E s,bR q λσ' H' I' q=>h2 _ _ _ _ D I' q,(ck (ha _ s σ H Q I h) λc s1 e=>?_),(upd H s.heap.objs.size (.tup [x,y])),(dC (n+1) c X.N X.env.scope x ops bs),(λdx fs z=>st.S9 b dx fs (by rw[e,z])),(by have:=sz;have:=hT.Ct;rw[apI];lia),(λm' hm w3=>⟨m',hm,σ3,H3,I3,w3⟩),(λhn b hb=>⟨hn b hb,(f2 b hb).2⟩),Un (Ho outer) [] H H' s.heap s'.heap,mT (hB.ok I.bq) λz2 ka n2 r2 e2=>?_,wpAny_bind (wpAny_seqItems Ms Ql ?_),a.length+x.length+b.length<=sizeLine,(by obtain⟨as,r1⟩:=Dp.reads I _ _ u (.tup hq hx) ry),wpAny_bind (wpAny_fieldsOf ho hd ?_),(λb o z=>by rw[ae (az z hl)];exact z),(by dsimp only[aU,UI];rw[L2.A0 h];rfl),show(Tree.list [])=anR.tree from rfl,T.hasCols k=true/\k.length<=sizeLine,⟨h1,by simp at h2;exact afh h2 Sg⟩,I5.pinned (stat fr5) (T.obj _ _ wu),gX hs λv σ' H' J rv q=>fin J rv q,(C3 hl.isList λs₂ e2 st hne=>?_),⟨o,e,λv z=>by rw[d]at z;cases z⟩,h'.DictOfH knd d (xs++[(k,a,dflt)]),agZ b=true->(sg b=63<->afT b=false),amK b=true->afT b=true/\alf b=false,(show Tree.list []=anR.tree from rfl),
wpAny_execs_nil ⟨σ3,H3,I4,qn⟩,(λx y H Q=>r x y H Q\/r' x y H Q),(∀name,apz name od=some (mA name)),backTo cpos (starEach [e,f] X.env),(upd H hh.objs.size (.xd [(f,y)])),(zH2 s.heap b1 b2 c1 c2).objs.size,(zH3 s.heap b1 b2 c1 c2).objs.size,s.heap.IsValIter it d i es.size ep,ag (A8 h rv) λc e h=>⟨c,e,?_⟩,(Iq (Iv hs) (show 1<30 by decide)),(by simp only[ai2,decide_eq_true_eq,bne_iff_ne,ne_eq]),(by have hn2:agm T d c≠[]:=by rw[lD];simpa using hn),(aoH T).flatMap λx=>aiW T x.1 x.2,(by rcases bg hb with⟨j,u,rfl,e⟩|⟨y,u,rfl,e⟩),⟨_,H1,I1,by rw[r1.CD];rfl,q1⟩,⟨rv,⟨V.ref _,H',I3,rfl,q3⟩⟩,(((akP ..).extBut.push _).push _),ZS h' z TI TO i1 i2 b1 b2 c1 c2 k,wpAny_pure (by simpa[ama]using h),(dC n c X.N X.env.scope a ops bs),(by simp only[akD]at h;cases h;lia),(λs a c=>⟨s,(tU h).trans a,c⟩),(by unfold aa4;rw[aa_];exact hT.c6),aq5 [T.cols.length,T.rows.length],(by rw[agD,decide_eq_true_eq,decide_eq_true_eq]at z),decide_eq_false (λq=>nomatch q),(by rw[rangeSize_one];split<;>lia),gz P w K mg base CX k f fd ps sp,holding [ov] (getMethod ov m pl),(λv hv=>(agA.mp nd).1 (aoc hv).1),sE (I.Pz hH) λz aL n r hl e=>?_,ag (any_some hov) λcd hc ho=>?_,s1.heap.get? ea=some (lQ C tp d),((Expr.Name x p2).Call [] [] p3),bB hk λo items n ho _ hd hi=>?_,(if b=t then H5 t else eI aT G1 b),H' l=some (.lst (out.map V.int)),agZ b=true->sg b≠40/\sg b≠41,(λa b=>cq T a.name<cq T b.name),o9 (yK hT hs h3) λa b c d e=>?_,
(agx _ (adX.mpr ⟨k,h1,rfl⟩)),aL.toArray.size+ka.toArray.size,wpAny_truthy_bool ⟨H1,I1,q⟩,T7 λ_ _ _ _ _ _ _ q=>sub_int q,.inr ⟨q,aos _ _ _ (.inl q)⟩,(λi h=>h.IsStrIter it ty x t i),(looks_clsIn X hc).andThen .now,(show A.in1.handled=none from hh),arU s1.heap.objs.size a b la lb,st.length+(r.length+1)<sizeLine,(by show wpAny _ A.in1 (pyNext (.ref I)>>=_) _ _ s),(cs.zip a).all λx=>x.1.has x.2,(λa e h=>ag (Ew h) λx h1 q=>?_),l.length+rest.length<=ps.length,g6 p2=.ok ((ms.map agV).map eT),(List.range' i rs.length).foldl,hT.has hr h2 (cell_in hT h1 hr),(λx hx=>h2 x (hsub.subset hx)),(λz=>(hch c z).2.2.1 x c e rfl),(by simpa using congrArg asR d1),(cW X.K H p ys\/j9 X.K H p ys),⟨G0,P,G,se,h.keep ex.hh,q⟩,IsPair h' s.heap.objs.size x y,ge (env2.set 1 (some (.vf O_))),L2.Inv (Iz X v xe) pins σ H s,(ih λa ha=>k a (by simp[ha])),(c1 (dM n own gi ft bT ge) c0),(by conv=>lhs;unfold Tree.write),.ok (.bl (c.holds T.cols a b)),(by have:=sz;simp at hlen;lia),(T.colNo col.name).isSome=true,(λx=>!decide (anR∈[x.1,x.2])),afF _ (adX.mpr ⟨f,h1,rfl⟩),fj (by erw[one];rw[h];rfl) rfl,⟨⟨o,e,ex.1⟩,λa e2=>?_⟩,((aL.toArray.size:Nat):Int)-1,h _ _ s σ H Q I (i σ H Q q),jq.length=env.length->Q σ' H,(s1.trans ex.gg).trans ex3.gg,(λj k l1 l2 c z1 z2 z3 z4=>?_),
wpAny_bind (wpAny_standAt ?_),aG (id hit) λoi ho hc hd=>?_,(by rw[ae tl2,ae n2];exact hl2),nn ((if_neg hm).symm.trans h),(by have:=sz;have:=hT.Ct;lia),(x++((y.length:Int)::(y++t))),⟨z.1,ht _ _ z.2.1,z.2.2⟩,(λx H'=>∃k,x=.bl k/\Q k H'),A.depth+3*k+5<recursionLimit,HT.k8 xs.length xs.length hi,h h' tk _ t hk ?_ λa ha=>?_,cH h λd e hd he sd se q=>?_,jy x λ_ _ _ _ o _ _ e _=>?_,wpAny_bind (hm A _ E s k ?_),(other e (ahI hne)).trans he,(λenv=>bOr (ta env) (tb env)),oj X body (iu X.K E X.kW gb),(zH1 s.heap b1 c1).objs.size,PD X E pos keys values ks gs,σ[2]?=some (some (V.str p)),hb.imp (aV ex.gh) (bF ex.gh),p->PS X st (iu X.K E X.kW f),.inr (.inr (.inl (z▸tin))),(by delta akx aiF aqB;simp[h]),(T.cols.map λc=>agV c.name),(decide (t=a)||decide (t=b)),.ok (eV (e.eval T.cols a b)),(by erw[one];simp[g6,vj,jI]),(by rw[acM,decide_eq_true_eq,decide_eq_true_eq]),(∀c d,(aiW T c d).length<=1),(k.length::k.map (cq T)).map,⟨t,by rw[eq_of_beq h.1]⟩,k8 items.size items.size hi,(by rintro rfl;exact h v adP),(by have fin:EP X _ σ Q w s:=⟨z,H,I,Jr,q⟩),(by unfold Builtin.«object.__getattribute__»),(λenv=>Y3 (ta env) (tb env)),a.length+b.length<=sizeLine,ag (map_some q) λs e q=>?_,h.sep j k _ _ c z1 z2 z3 z4,
c=z\/c=TI\/c=TO\/c=i1\/c=i2,l.length+m.length<=sizeLine,(by cases t<;>exact Tc h rfl),dv ft gb ((a::r).map en) se,ag (hh.2 hb) λse' h1 _=>?_,ah (ym h) λx y h1 h2 q=>?_,(se.set i (.ow (acc++[p]))),(λx hx=>by have:=h x hx;lia),(λi σ3 H3 I3 EZ XB w3=>?_),(by rw[hj];simpa using ew),(by obtain⟨bs,r2⟩:=Dp.reads I e y u he ry),(by rw[l];exact rel.val k),gX dd λob _ _ h1 h2 _=>?_,M2 X o "get" apos e f cpos,(ha pos pins s σ H _ I h),(by show 2<=sizeLine;decide),some (lQ C tp h.objs.size),(by rw[aoT]at hb;exact hb),(by rcases b7 e with⟨rfl,e,hi⟩|⟨hj,e⟩),(λa _ q=>k _ P G _ a h q),(dy hN hi hx he hs hf).imp,(by intro pins s σ H R I ⟨G,env,sm,er,h⟩),xs.map (·.2.2)=ls.map afZ,⟨_,s2 _ _ (s1 _ _ hd)⟩,(upd H l (.lst (ys++[v]))),(by show 1<=sizeLine;decide),(dE n c X.N X.env.scope e),bR fl.obj λvs sl vd _=>?_,aw (b0 ((snd 60).E at0 _)),(by cases a<;>cases b<;>rfl),h.sub (t:=t) (by simp[ht]),((if_pos hm).symm.trans h),(tS run).length=run.length,eT (asU t cs x lo hi).tree,Tw T k/\d∉k/\k.length<=2,(um (by simpa[uk]using h)),es.toList.any (·.refKey),(CR CX outer P w H s Q E),aps (x.above y c (agp h)),lim.keeps x.toInCall.keep,
(∃as,Reads s.heap u d as),ok.free _ (agp hfr.1) rfl,[⟨target,iter,ifs,0⟩],(λx H1=>cP i x σ H1 D.nx),PPs X pos keys values trs,keys.all (·.isSome)=true,keys.length=values.length,mE K E (f se a) G0 H0 P D,aj_ _ ho (aoO (amj hd _)),(acc.map λx=>PV.lst x.2),(by rw[aa_];exact I.sk.len),(t.length:Int)::(t++tail),ag (h3 hb) λox h4 h5=>?_,l.any λx=>decide (x.1=a),(true&&(_&&false)&&false),(show false=true from z2.1),(show false=true from z2.2),(by rw[afP]at e;rw[e];simp),(Xe (sC rfl (jh hT)) rfl),(oI (rT rfl rfl (IZ hT))),(aiW T c.name d.name).map,(λd hd acc se ha hy=>?_),(lf d).all f.contains=true,s.heap.Ns X.env.locals m,h'.get? s.heap.objs.size,(by intro pins s σ H x vs v us Q I rx rv h),asA (by rw[aa_,akO];lia),mB hm λo es ep ho r=>?_,LI.get? s.heap.objs.size,Heap.ExtBut it s.heap h',xs[k]?=none\/ys[k]?=none,(a.lG s H scope cl C fp),(λs H C cl fp=>ac4 S a),ag g.fl λhg0 fl hsz=>?_,(λa ha se⟨x,e⟩=>?_),decide (p.head?=some 48),Bd gb mP (St (acc++f a)),T.cols.filterMap (amX T),T.cols.filterMap (amT T),T.cols.filterMap (aj0 T),
if_neg (by simp[afG,e1]),T.cols.flatMap (anT s T),rs.all (akQ T.cols)=true,i8 (qg ha) λa1 a2 _=>?_,nsIn K mainGlobals p.2.1,z.sameBut hs (R5 y c e),(.ins C dx (oY f y fs)),ag (m6 hk) λk' e r=>?_,(by rcases mem e with⟨h1,_⟩|⟨h1,_⟩),(by simp[valueAt,ahu,e']),(.Dict keys values pos),(by rw[arc];exact lP r),((other x q2).trans q4),s.heap.FunFrames base l,"type.__getattribute__",(by obtain⟨sl,r⟩:=u.slot b o q n hb hx),-1000000<=j/\j<=1000000,(by rcases b7 e with⟨_,e,_⟩|⟨hj,e⟩),mE K E (g se) G0 H0 P D,jB K G0 H0 P' G H σ se,(s1.trans ex3.gg).trans,(rawInt h₅.objs.size),(hs₁.extBut _ _ c1 x),(.ins C dx (fs.zip vs)),(he pins s σ H _ I h2),s.heap.DictOfH knd d xs,(by simp only[aed,afO,af3,or_false,not_or]),(by obtain⟨⟨⟨h1,h2⟩,h3⟩,h4⟩:=h),(by rcases gens with _|⟨g,_|⟨_,_⟩⟩),aw (HI Js ?_ ?_ ?_ rfl),(by unfold eT dT dat;rfl),(by erw[one];exact ecn),(by erw[one];exact hp2),(T.colNo a).isSome=true,(by unfold Pc;rw[hp];rfl),c.cols.length<=sizeLine,(rW k).length<=sizeLine,(by conv=>lhs;unfold afA),alG C s.heap.objs.size,(keywordEach [] X.env),
(λz=>(hch _ z).2.1 rfl),holding [v] (truthy v),(.While c body [] pos),A.units+16*k+200<cLine,(λw hw=>h w (aaV _ hw)),(λb z=>absurd z (Uj b)),(.Slice lo hi none p2),(by intro pins s σ H x y v u Q I rx ry h),.inr ⟨aaV _ h1,h2⟩,X.env.cells.lookup y.1,(u.keep b o q n hb hx),(if n=-13 then-3 else n),env.length<=X.N.length,wpAny_pure (p1 _ _ hz),codeAny_builtin an0 ?_,"zip.__getattribute__",(h5.mono ex.gg).append,(λs H C cl fp=>ac3 S a),dv ft gb (r.map en) ox,BX hr (adY.mp hc c WO),of_decide_eq_true z2.1,(by erw[one];exact tc),(by rw[aqL,apL,afM];rfl),(jg (adY.mp h.1 c hc)),(by rw[hc,hb.2.1];rfl),codeIn K cdv qual=true,("__classdict__":Str),(λr s4⟨hr,I4⟩=>?_),hx _ σ _ _ e _ I2 HA,(show b∈([])from z),((k8 n 0 lo:Nat):Int),cellsFrom n names acc,(by simp[atKey,ahu,e']),⟨_,hT2,rfl,_,rfl⟩,hb _ _ _ σ _ Q I1 q1,(by rw[<-q];exact k1),(aqj vd).andThen .now,(.ref h₅.objs.size),some (some (V.ref d)),(ho _ s σ H _ k I h),
codeAny_builtin C_ ?_,(by simpa using hend),xj X E elt g scope ge,PD X E pos ks vs l sB,(by rcases vs with _|⟨v,_|⟨w,r⟩⟩),(by rcases ts with _|⟨t,_|⟨_,_⟩⟩),(VG n c N sc ow body),(λ_ _ _ _ _ h=>h.elim),q _ _ v (h.ret ex) rv,decide (xs.length<=p),(by show 2<1000;decide),(by rw[ae hld];exact c),decide (l.length<=40),kG T.cols T.rows=true,of_decide_eq_false z2,(xs.flatMap g).length,(by delta aD;rw[h];rfl),(by delta eM;rw[h];rfl),.sh (.lst (s.map ay)),T.hasCols e.cols=true,(~~~(iR hT hp hl hc)),⟨_,_,_,_,_,_,rfl⟩,(λx=>decide (x.1=x.2)),(oI (rT rfl rfl hin)),(by simpa using I.len),isTrue e X.env whole,(∀a s,Q a s->Q' a s),(op==CmpOp.In)=false,(by cases b<;>simp[behindInMarks,e1,e2]),wpAny_truthy_bool ?_,Inv X pins σ' H' s7,pb X (binaryOp op) r,hx _ σ H s e _ I hq,(∀v,(x,v)∉binds),items.size<=sizeLine,HT.k8 aL.length 0 lo,env.cells.lookup y.1,(by rcases k9 hm with hm|⟨h1,h2,h3⟩),scope.names.lookup x,(upd H d (.vQ od u)),
"str_ascii_iterator",cd.mro.isEmpty=false,s1.heap.objs.size<=b,(h G H (Ex.refl sm)),res.length<=sizeLine,PT X c (j_ X.K E gt),ag he λoe UW Uv=>?_,(hs.extBut _ _ c1 x),s1.heap.objs.size<=c,(I6.gr.mem l m).elim,⟨k1,x,H1,I1,r1,q1⟩,(λf s1⟨k1,q⟩=>?_),(by rw[ad0,aft _];rfl),(strKind_is _ _ _ _),dC n c N sc a ops bs,Im c P w K mg base j,"NoKeyOrFixedColumn",(by intro q;cases q),⟨hh,gg,dd,tk,os⟩,((oth x q1).trans r),some (.ins aT dx vs),(by intro z;cases z),(by rcases c with c|⟨_,c⟩<;>cases c),ft (en a) env=.ok dt,decide (r.length<=9),decide (1<=l.length),(by simp at i2⊢;lia),(by rcases r with _|⟨x,_|⟨_,_⟩⟩),(by rw[eq_of_beq e]),(by rw[nN ht];exact h),(congrArg Rs.ok abV),s1.heap.objs.size+2,s1.heap.objs.size+3,HT.k8 l.length 0 lo,xs.length=us.length,Mod X.K X.mg X.base,s.heap.objs.size<=a,ha _ _ σ _ D I1 q1,hb _ _ σ _ D I1 q1,Inv X pins σ H' s2,
h.IsListIter it a i,(T.obj _ _ wu b hb),(.BinOp a op b pos),⟨[],H,I,.nil,h⟩,standAt apos.atName,(by rcases S.par n (aoc hy).1 with q|q),(λv h' tk hv hk=>?_),I.ok.has _ (.inl k),I.ok.has _ (.inr k),vs.length<=sizeLine,List (Value×Value),(by obtain⟨o',r⟩:=u.there b o q hx),(λb hb=>I.og b hb),fq K E (F ps) G H Q,HW is ps env=.ok jq,is.length=ps.length,comp ft gt ge env l,(.bl (decide (T=U))),(by simp;exact h.len),Be is ps se=.ok se',SS s.heap b c items,(λh₁ Sz hs₁=>?_),.bl (Txt.isdigit a),(.bl (inS neg i j)),vs.length=ks.length,(I.gr.mem l m).elim,σ.map λ_=>Slot.no,[V.ref p]=[.ref p2],ks.length=ys.length,starEach [e2] X.env,ks.length<=sizeLine,k=-1/\o.isNone=true,(JX sc y&&okN y)=true,I3.pin p (afF _ hp),TkC P w K mg base C,BE K G' H' tl vV Cs,as.length=ts.length,.lst (t.map PV.int),(.tup (x::y::z::r)),(λ_=>⟨se,rfl,h⟩),
((tU e1).trans rfl),(λl c=>putN l c c),(zz c z.cps.toList),run.length+t.length,decide (r.length=2),congrArg (·>>=F) h,cs.length<=sizeLine,(λc=>c.holds cs a b),(by simpa using hn),ms.length<=sizeLine,(by have:=ho.2;lia),afX T.cols r c.name,(by rcases Nat.le_total a x with hx|hx),T.name.all afT=true,(if s then b else a),{s1 with heap:=h'},(cK (.str "next")),v "h" (a.length+j),wpAny M A t Q' E s,(.IfExp c a b pos),(λvs H1=>r vs H1 Q),(λo ho hc n hd=>?_),(by obtain⟨t,rfl⟩:=intItems_at hv),l<s.heap.objs.size,(compareOp .NotEq),(λh' PM hs=>h _ ?_),[s.heap.objs.size],codeAny_of_tree ?_,Un fs [] H H' g h',s.heap.get? _=none,(λ_ h=>h.mono e.hh),(by rcases p with _|_|_|i|_|_|_|_|_|_),(by rcases p with _|b|_|_|_|_|_|_|_|_),(by rcases q with _|_|_|_|_|_|_|_|_|_),H D=some (.lst av),ex.gg.trans ex3.gg,x.length<=sizeLine,.ok (.int x.length),(iu X.K E X.kW g2),(by rcases p with _|_|_|_|l|_|_|_|_|_),
SI s.heap b it c i,s.heap.objs.size+2,s.heap.objs.size+3,i.natAbs.log2<1920,(.str (toString i)),(by rw[len,len];lia),(by rcases p with _|_|_|_|_|_|_|l|_|_),(ks.map (ahX)).zip,((SR,b,afZ l)::xs),ps.length+L.length,hm.heap S _ hSw ho,items.size+Bq.size,(by simp only[noStar,aik,abk,afI]at h),N.findIdx? (·==x),isSet g.iter=false,(pv i hi hv h1 h2),some (lQ C2 tp d2),(typeOf (.ref e2)),"Refusal.__init__",(zd C dx nl (p+1)),"Reader.take_list",NM P w K mg base C,(cK (.str "less")),some (.str (sB a)),(.tup [eT a,eT b]),pC u&&(jf c&&jf e),(oI (~~~(aer ha))),(a1.trans a2.symm),s.all (agt T)=true,(by rcases h with rfl|rfl|⟨hn,ha⟩),(by rw[aoF,acM,decide_eq_true_eq,afw]),((u5 hT).filter _),afw.mpr (h.1 a ha),kS hT hS.tab hS.l3,lF hT hS.tab hS.l3,some (.ins aT fs),(by simpa using E8),s.heap.IsCell c v,(by rcases I.ok.WL with e|⟨e,hf⟩),wpAny M A t Q E s,
Inv X _ σ' H' s',⟨y,H2,I2,r2,q2⟩,(λi j=>.int (i-j)),aoR K C name=true,(by have:=r.dp;lia),(by have:=r.un;lia),n_ P w H' s'.heap,(hb _ _ I2.qv hl),zU z.cps.toList i,afh (uC _ _ _) hz,.ref h'.objs.size,aL.toArray.size-1,(.bl (bs.any id)),(.bl (bs.all id)),(by simp[pK,ahu,e]),valueAt (q::qs) k,⟨y,H2,I2,ry,q2⟩,(C9 s.heap I.big),(rel.val k).getD rd,((n-1-i:Nat):Int),(by simpa using hz),Un fs [] H H' g h,L2.Inv _ _ σ _ _,(λ_ _ d e=>nn e),(ry.mono s).dp b1]
def zzA:List PP.PV→PP.Rs PP.PV:=PP.dF 60 (TC.cf zzB) zzC zzD zzE (TC.top zzF)
theorem zzG(T:TC.Txt P w K mg base):PP.fP P w K mg base zzH zzI zzD zzA:=TC.E9 (j:=zzJ) T rfl (by decide +kernel) (by decide) zzK
theorem pdL{d n:Nat}(h:1<=d)(k:d<n+1):d-1<n:=afR (Nat.sub_lt h Nat.one_pos) (Nat.le_of_lt_succ k)
open Lean in
set_option hygiene false in
local macro_rules|`(command|#check_failure [$xs,*])=>do
  let v s (n:Nat):Ident:=mkIdent (.mkSimple s!"{s}{n}")
  let rec g:List Char→Nat→List Term→Term→Term→MacroM (Term×Term×Term×List (TSyntax ``Parser.Term.bracketedBinder))
  |'E'::r,j,a,h,k=>do
    let x:=v "x" a.length
    let (p,q,e,b)←g r j (a++[(x:Term)]) (?Xr) (←`($k $x))
    return(←`(∃$x:ident,$p),←`(∀$x:ident,$q),←`(Exists.elim $h fun $x $(?Xr)=>$e),(←`(Parser.Term.bracketedBinderF|{$(v "t" a.length):ident:Sort _}))::b)
  |_::r,j,a,h,k=>do
    let mut z←`(Prop)
    for i in [0:a.length] do z←`($(v "t" (a.length-1-i))→$z)
    let c←`(Parser.Term.bracketedBinderF|{$(v "A" j):ident:$z})
    let A:=Syntax.mkApp (v "A" j) a.toArray
    if r.isEmpty then return(A,←`($A→P),←`($k $h),[c])
    let (p,q,e,b)←g r (j+1) a (←`($h.2)) (←`($k $h.1))
    return(←`($A∧$p),←`($A→$q),e,c::b)
  |[],_,_,h,_=>return(h,h,h,[])
  return mkNullNode (←xs.getElems.mapM fun y=>do
    let `($m:ident $t:str):=y|Macro.throwUnsupported
    let (p,q,e,b)←g (t.getString++"A").toList 0 [] (v "h" 99) (v "k" 0)
    let bs:=b.toArray
    `(theorem $m {P:Prop} $bs* (h99:$p) (k0:$q):P:=$e))
#check_failure [i8 "AA",Cu "AAA",o9 "AAAA",fO "AAAAA",qw "AAAAAAAAAAA",Pf "AAAAEA",K6 "AAAAEAA",K7 "AAAEEAA",mS "AAEA",jy "AAEAEEEA",wj "AAEAEEEAA",AN "AAEAEEEAAAA",vO "AAEEAA",Pg "AAEEEA",K8 "AAEEEAA",Jf "AAEEEAAA",K9 "AAEEEEA",uq "AAEEEEAAAA",Fc "AEA",K_ "AEAEAAE",mT "AEEA",sE "AEEAA",ag "EA",aG "EAA",Hm "EAAA",pI "EAAAA",kc "EAAE",La "EAE",R4 "EAEA",uu "EE",bR "EEA",ah "EEAA",bI "EEAAA",cH "EEAAAA",qx "EEAAAAA",Jg "EEAAEEAA",Jh "EEE",mB "EEEA",gX "EEEAA",bB "EEEAAA",cJ "EEEAAAA",sF "EEEAAAAA",lH "EEEAAAAAA",uv "EEEAAAAAAA",dw "EEEEA",vP "EEEEAA",Cv "EEEEAAA",gf "EEEEAAAA",jD "EEEEAAAAA",uw "EEEEAAAAAA",lJ "EEEEAAAAAAA",ux "EEEEEAAAAA",wk "EEEEEAAAAAAAA",o_ "EEEEEAAAAAEA",Fd "EEEEEEAAA",kf "EEEEEEAAAAAAAAAA",bU "EEEEEEEEEAA"]
set_option backward.match.sparseCases false
namespace L2
open PySem PySem.Spec PyProof.Rows
abbrev Key:=Sum Int Str
def mU:Key->?KL
 |.inl k,v=>asY k v
 |?kb,v=>arn x v
def agv(w:World):Key->Int
 |.inl k=>hashInt k
 |?kb=>hashStr w x
theorem bg:∀{k}{v},mU k v=true->(∃i t,k=amL i/\v=asO i t)\/(∃x t,k=ahX x/\v=ar2 x t)
 |?nR,v,h=>by obtain⟨t,e⟩:=Value.isInt_shape h;exact .inl ⟨i,t,rfl,e⟩
 |?kb,v,h=>by obtain⟨t,e⟩:=Value.isStrOf_shape h;exact .inr ⟨x,t,rfl,e⟩
theorem Ji i t:mU (?nR) (?nv)=true:=by simp[mU,asY]
theorem Jj x t:mU (?kb) (.str x t)=true:=by simp[mU,arn]
theorem TM a b:decide ((amL a:Key)=amL b)=(a==b):=?M
theorem TN a b:decide ((ahX a:Key)=ahX b)=?JS:=?J
theorem TQ a b:decide ((amL a:Key)=ahX b)=false:=?PP
theorem TR a b:decide ((ahX a:Key)=amL b)=false:=?PP
def bf prog w:PySem.KeyKind prog w Key where
 is:=mU
 hash:=agv w
 inj:=λv a b ha hb=>by
  rcases bg ha with⟨i,t,rfl,rfl⟩|⟨x,t,rfl,rfl⟩
  ·show ?PD
   ·show ?KM;rw[e1]
   ·show ?qF
  ·show ?PD
   ·show ?qF
   ·show ?KM;rw[e1]
 byValue:=λk v h=>by rcases bg h with⟨i,t,rfl,rfl⟩|⟨x,t,rfl,rfl⟩<;>rfl
 pyHash:=λhv h=>by
  rcases bg hv with⟨i,t,rfl,rfl⟩|⟨x,t,rfl,rfl⟩
  ·exact wpAny_pyHash_int h
  ·exact wpAny_pyHash_str h
 eqBool:=λhu hv h=>by
  rcases bg hu with⟨i,t,rfl,rfl⟩|⟨x,t,rfl,rfl⟩
  ·show ?ON
   ·rw[TM]at h;exact wpAny_eqBool_int h
   ·rw[TQ]at h;exact ary i t y u _ _ _ _ h
  ·show ?ON
   ·rw[TR]at h;exact arz x t j u _ _ _ _ h
   ·rw[TN]at h;exact wpAny_eqBool_str h
 «strs»:=λk x t v h=>by
  rcases bg h with⟨i,u,rfl,e⟩|⟨y,u,rfl,e⟩
  ·show ?qF
  ·show ?KM
   subst e1;cases v<;>rfl
theorem Cw prog w i t:(?hu).is (?nR) (?nv)=true:=Ji i t
theorem Cy prog w x t:(?hu).is (?kb) (.str x t)=true:=Jj x t
#where
namespace L2
open PySem PySem.Spec PyProof.Rows
inductive V where
 |b_|bl (b:Bool)|int (i:Int)|str (x:Str)|Xj (b:Array UInt8)|Xk (b:UInt64)|ref (a:Addr)|ty (n:String)
 deriving DecidableEq
def RelV:V->Value->Prop
 |.b_,u=>u=ajC
 |?bP,u=>u=aoQ b
 |?O,u=>∃t,u=asO i t
 |?cW,u=>∃t,u=ar2 x t
 |.Xj b,u=>∃t,u=Value.bytes b t
 |.Xk b,u=>∃t,u=Value.float b t
 |?C,u=>u=afZ a
 |.ty n,u=>u=arA n
abbrev Vals:?B->?az->Prop:=Paired RelV
theorem Vals.length(r:?ee):?Wg:=aro r
theorem Vals.get:∀{xs}{us}{i:Nat}{x},?ee->?hI=?F->∃u,us[i]?=?Q/\?lv
 |_,_,_,_,.nil,e=>?zI
 |_,_,0,_,?p r _,e=>by simp at e;subst e;exact⟨_,rfl,r⟩
 |_,_,i+1,x,?p _ t,e=>ag (Vals.get t ?bM) λu h1 h2=>⟨u,by simpa using h1,h2⟩
theorem Vals.append:∀{xs ys}{us ws},?ee->Vals ys ws->Vals (xs++ys) (us++ws)
 |_,_,_,_,.nil,s=>s
 |_,_,_,_,?p r t,s=>?p r (Vals.append t s)
theorem Vals.take:∀{xs}{us}n,?ee->Vals (xs.take n) (us.take n)
 |_,_,0,_=>.nil
 |_,_,_+1,.nil=>.nil
 |_,_,n+1,?p r t=>?p r (Vals.take n t)
theorem Vals.drop:∀{xs}{us}n,?ee->Vals (xs.drop n) (us.drop n)
 |_,_,0,r=>r
 |_,_,_+1,.nil=>.nil
 |_,_,n+1,?p _ t=>Vals.drop n t
theorem Vals.none_of:∀{xs}{us}{i:Nat},?ee->?hI=none->us[i]?=none:=λ{xs us i}r e=>by have h1:=r.length;simp_all
def mV:?jO->?mG->Prop
 |?V,?Q=>?dg
 |none,none=>True
 |_,_=>False
def KV:?fA->?pa->Prop:=Paired λ(p:κ×V)(q:κ×Value)=>p.1=q.1/\RelV p.2 q.2
def kV:Key->V
 |?nR=>?O
 |?kb=>?cW
inductive HO where
 |lst (xs:?B)
 |tup (xs:?B)
 |dK (kvs:?dZ)|dT (kvs:?jh)
 |set (S:Int->Bool) (n:Nat)
 |ins (C dx:Addr) (fs:?jr)
 |own (x:Addr)
 |xd (fs:?jr)
 |met (f x:Addr)
 |Lb (lo hi:Int)
 |vQ (o:Obj) (u:HO)
 |TU (ps:?ec)
 |ext (φ:Heap->Prop)
abbrev Hp:=Addr->Option HO
def upd(H:Hp)(a:Addr)(o:HO):Hp:=λb=>if b=a then ?d else H b
theorem aa:upd H a o a=?d:=?bV
theorem ae(h:b≠a):upd H a o b=H b:=?fK
theorem lK:upd ?pK a u=upd H a u:=by funext b;unfold upd;split<;>rfl
theorem Hn{H:Hp}(h:H a=?d)(h':H b=?Q)(d:o≠u):a≠b:=by intro e;subst e;rw[h]at h';exact d (afE h')
theorem az{H:Hp}(h:H a=?d)(h':?bL):a≠b:=?M
section
variable(P:Program)(w:World)
def dg(H:Hp)(h:Heap)(a:Addr):HO->Prop
 |.lst xs=>?ev/\∃(aL:?az)(n:Nat),?pX/\?gt=some {cls:=?n ?aC,data:=?GA}
 |.tup xs=>?ev/\∃aL,?pX/\IsTup h a aL.toArray
 |.dK kvs=>?CM
 |.dT kvs=>?wS/\?oz/\∃xs,
  Paired (λ(p:?jN×V)(q:?jN×Addr×Value)=>?Nr) kvs xs/\
  ∃o es ep,?gt=?d/\o.ExactDict/\?eO/\es.toList=xs.map (entryOfKey (?su))/\(xs.map ?aT).Nodup
 |.set S n=>h.SetOf (intKind P w) a S n
 |?JQ=>H dx=?tl/\fs.length<=1000/\dx≠a/\?gt=some ?LQ/\
  ∃mA,?KN/\(∀f,mV (?jC) (mA f))/\arN mA (fs.map ?aT)
 |.own _=>∃o,?gt=?d
 |.xd fs=>∃mA,h.Ns1 a mA/\∀f,mV (?jC) (mA f)
 |.Lb lo hi=>∃t u v,?gt=some {cls:=?n ?cR,data:=?aO ?vZ}
 |.vQ o u=>?gt=?d/\dg H h a u
 |.TU ps=>?gt=some {cls:=?P,data:=?aO ps}
 |.met f x=>?gt=some (PySem.W.methodObj ?aH (?gF))
 |.ext φ=>φ h/\(∃o,?gt=?d)/\∀h1 h2,φ h1->(∀o,h1.get? a=?d->h2.get? a=?d)->φ h2
def n_(H:Hp)(h:Heap):Prop:=∀a o,H a=?d->?If
#where
section
theorem dg.lt(x:?If):a<h.objs.size:=by
 cases o with
 |lst xs=>exact mT x λ_ _ _ _ e=>?bO
 |tup xs=>exact Fc x λ_ _ _ p=>p.lt
 |dK kvs=>exact jy x λ_ _ _ _ o _ _ e _=>?bO
 |dT kvs=>exact jy x λ_ _ _ _ o _ _ e _=>?bO
 |set S n=>exact dw x λo _ _ _ e _=>?bO
 |ins C dx fs=>exact o9 x λ_ _ _ e _=>?bO
 |own y=>obtain⟨_,e⟩:=x;exact ?bO
 |xd fs=>refine ag x λ_ oz1 _=>?_;obtain⟨_,_,_,e,_⟩:=oz1;exact ?bO
 |Lb lo hi=>exact Jh x λ_ _ _ e=>?bO
 |vQ ob u=>obtain⟨e,_⟩:=x;exact ?bO
 |TU ps=>exact ae8 (x)
 |met f y=>exact ae8 (x)
 |ext φ=>refine i8 x λ_ oz2 _=>?_;obtain⟨_,e⟩:=oz2;exact ?bO
theorem Paired.TV:∀{l₁:?aa}{l₂},Paired F l₁ l₂->(∀a b,F a b->G a b)->Paired G l₁ l₂
 |_,_,.nil,_=>.nil
 |_,_,?p r t,f=>?p (f _ _ r) (Paired.TV t f)
theorem dg.wm(x:?If)(k:∀b u,(b=a\/H b=?tl)->?co=?Q->?aY=?Q)
  (ho:∀b,H b=?tl->H' b=?tl) (ht:?Db):dg P w H' h' a o:=by
 induction o with
 |lst xs=>exact mT x λz aL n r e=>⟨z,aL,n,r,k _ _ (?y) e⟩
 |tup xs=>obtain⟨z,aL,r,ob,e,c⟩:=x;exact⟨z,aL,r,ob,k _ _ (?y) e,c⟩
 |dK kvs=>exact jy x λz y vs r ob es ep e c=>⟨z,y,vs,r,ob,es,ep,k _ _ (?y) e,c⟩
 |dT kvs=>
  exact jy x λz y xs r ob es ep e c=>⟨z,y,xs,Paired.TV r λp q z=>?QY,ob,es,ep,k _ _ (?y) e,c⟩
 |set S n=>exact dw x λob es ep t e c=>⟨ob,es,ep,t,k _ _ (?y) e,c⟩
 |ins C dx fs=>
  refine Pf x λd z ne e mA oz3 r=>?_;obtain⟨od,es,ep,e2,c⟩:=oz3;exact⟨ho _ d,z,ne,k _ _ (?y) e,mA,⟨od,es,ep,k _ _ (.inr d) e2,c⟩,r⟩
 |own y=>obtain⟨ob,e⟩:=x;exact⟨ob,k _ _ (?y) e⟩
 |xd fs=>refine ag x λmA Xl r=>?_;obtain⟨od,es,ep,e,c⟩:=Xl;exact⟨mA,⟨od,es,ep,k _ _ (?y) e,c⟩,r⟩
 |Lb lo hi=>exact Jh x λt u v e=>⟨t,u,v,k _ _ (?y) e⟩
 |vQ ob u ih=>obtain⟨e,q⟩:=x;exact⟨k _ _ (?y) e,ih q⟩
 |TU ps=>
  have e:?gt=?bk:=x;exact k a _ (?y) e
 |met f y=>
  have e:?gt=?bk:=x;exact k a _ (?y) e
 |ext φ=>refine i8 x λp oz5 st=>?_;obtain⟨o,e⟩:=oz5;exact⟨st _ _ p λo q=>k _ _ (?y) q,⟨o,k _ _ (?y) e⟩,st⟩
theorem n_.lt(x:?fe)(e:H a=?d):a<h.objs.size:=(x a o e).lt
theorem n_.fresh{a:Addr}(x:?fe)(e:?Ig):?qG:=by
 cases q:H a with
 |none=>rfl
 |some u=>exact absurd (afR (x.lt q) e) ?hG
theorem n_.kept(x:?fe)(k:∀b u,?co=?Q->?aY=?Q):n_ P w H h':=λa o e=>
 (x a o e).wm (λb u _ q=>?nD) (λ_ q=>q) ?LL
theorem n_.laid{a:Addr}(x:?fe)(k:∀b u,?co=?Q->?aY=?Q)(hp:?Ig)(new:dg P w ?pK h' a o):n_ P w ?pK h':=λb u e=>by
 have hn:=x.fresh hp;by_cases hb:b=a
 ·grind [aa]
 ·rw[ae hb]at e;exact(x b u e).wm (λc v _ q=>k c v q) (λc q=>?oo) λc xs q=>?oo
#where
def Rd(H:Hp)(a:Addr)(u:HO):Prop:=H a=?Q\/∃o,H a=?gV
theorem Rd.of(h:H a=?Q):Rd H a u:=?fm
theorem Rd.ok(r:Rd H a u)(x:?fe):dg P w H h a u:=by
 rcases r with r|⟨o,r⟩
 ·exact x a u r
 ·obtain⟨_,q⟩:=x a _ r;exact q
def WK:Option HO->Prop
 |some (?fn)=>True
 |some (.dK _)=>True
 |some (.dT _)=>True
 |some (.set _ _)=>True
 |some (.ins _ _ _)=>True
 |some (.ext _)=>True
 |_=>False
section
theorem n_.write(ok:?fe)(mu:WK (H x))(he:?Ew)(k:∀b u,?fU->?co=?Q->?aY=?Q)(heo:∃u,?ql=?Q)
  (new:dg P w (upd H x o') h' x o'):n_ P w (upd H x o') h':=λb u q=>by
 have nown:∀c y,H c=some (.own y)->c≠x:=λc y r z=>by subst z;rw[r]at mu;exact mu
 have ntup:∀c xs,H c=some (.tup xs)->c≠x:=λc xs r z=>by cases z;rw[r]at mu;exact mu
 by_cases hb:b=x
 ·grind [aa]
 ·rw[ae hb]at q;by_cases hbe:b=e
  ·have q':H b=some ?uY:=by
    rcases he with z|z
    ·exact absurd (hbe.trans z) hb
    ·rw[hbe];exact z
   rw[q]at q';cases q';obtain⟨v,hv⟩:=heo;exact⟨v,by rw[hbe];exact hv⟩
  ·refine(ok b u q).wm (λc v hc r=>k c v ?_ r) (λc r=>by rw[ae (nown c b r)];exact r) λc xs r=>by rw[ae (ntup c _ r)];exact r
   grind
#where
structure Un(fs ex:?X)(H H':Hp)(h h':Heap):Prop where
 keep:∀b o,?co=?d->?bL->b∉fs->b∉ex->?aY=?d
 slot:∀b o,?co=?d->?bL->b∈fs->b∉ex->∃sl,?aY=?El
 free:∀b o,?co=?d->?bL->b∉ex->?uy
 there:∀b o,?co=?d->b∉ex->∃o',?aY=some o'
 u9:?Db
 sG:∀b o u,H b=?gV->H' b=?gV
 u_:?Nf
section
theorem Un.any(u:Un fs ex H H1 h h1)(q:?co=?rc)(n:?bL)(hx:b∉ex):∃sl,h1.get? b=some {ob with slots:=sl}:=by
 by_cases hb:b∈fs
 ·exact u.slot b _ q n hb hx
 ·exact⟨_,u.keep b _ q n hb hx⟩
theorem Un.kept(k:∀b u,?co=?Q->?aY=?Q):Un fs ex H H h h':=
 ⟨λb ob q _ _ _=>k b ob q,λb ob q _ _ _=>⟨_,k b ob q⟩,λ_ _ _ n _=>n,λb ob q _=>⟨ob,k b _ q⟩,?LL,λ_ _ _ q=>q,λ_ ps q=>⟨#[],by rw[q];simp⟩⟩
theorem Un.refl:Un fs ex H H h h:=Un.kept ?LL
theorem Un.laid{h:Heap}{a:Addr}(k:∀b u,?co=?Q->?aY=?Q)(hp:?Ig)(hn:?qG):Un fs ex H ?pK h h' where
 keep:=λb u q _ _ _=>?nD
 slot:=λb u q _ _ _=>⟨_,?nD⟩
 free:=λb u q n _=>by rw[ae (af1 (afR (ae8 q) hp))];exact n
 there:=λb u q _=>⟨u,?nD⟩
 u9:=λb xs q=>?oo
 sG:=λb u xs q=>?oo
 u_:=λb ps q=>⟨#[],by rw[ae (az q hn),q];simp⟩
theorem Un.write(mu:WK (H x))(he:?Ew)(k:∀b u,?fU->?co=?Q->?aY=?Q)(heo:∃u,?ql=?Q):Un fs ex H ?KO h h':=by
 have hx:∀b,?bL->b≠x:=λb n z=>by subst z;rw[n]at mu;exact mu
 have hb:∀b,?bL->?fU:=λb n z=>by simp_all[n]
 have hm:∀b u,H b=?Q->¬WK (?Q)->b≠x:=λb u q nm z=>by simp_all[q]
 refine⟨λb u q n _ _=>k b u (hb b n) q,λb u q n _ _=>⟨_,k b u (hb b n) q⟩,λb u q n _=>by rw[ae (hx b n)];exact n,λb u q _=>?_,
  λb xs q=>by rw[?EX];exact q,λb u xs q=>by rw[?EX];exact q,λb ps q=>⟨#[],by simp[?EX,q]⟩⟩
 by_cases hbe:b=e
 ·rw[hbe];exact heo
 ·exact⟨u,k b u hbe q⟩
#where
def trk(h:Heap)(H:Hp):?X:=(afs h.objs.size).filter λa=>(H a).isSome
def TY(h:Heap)(H:Hp):Heap:=PySem.W.hideAll h (trk h H)
theorem Cz(e:?co=?d)(n:?bL):(TY h H).get? b=?d:=
 PySem.W.hideAll_get _ e λhm=>by have q:(H b).isSome=true:=(afJ.mp hm).2;rw[n]at q;simp at q
#where
namespace L2
open PySem PySem.Spec PyProof.Rows
structure Mod(K:aaU)(mg:?bs)(base:Heap):Prop where
 Jk:K.In base
 glob:?Ex
 blt:∃mb,base.Ns builtinsNs mb/\∀x:Str,?id->mb x=?gW
 nolimit:base.NoLimit
structure Cx where
 prog:Program
 w:World
 K:aaU
 mg:?bs
 base:Heap
 A:Around
 N:?t
 yS:Shared
 kW:Hp
 env:Env
 outer:?dy
 stack:?dy
 ex:?X
 fn:Str->Bool
 calm:Bool
 pn:?aF
 xe:?ap
def Ho(l:?dy):?X:=l.filterMap (·.frame)
abbrev Cx.fs(X:Cx):?X:=Ho X.outer
def Cn(sc:Scope)(x:Str):Prop:=?eP=?dK\/?eP=?cl\/?eP=?hk
def Loc(sc:Scope)(x:Str):Prop:=?eP=?dK\/?eP=?cl
def Look(env:Env)(h:Heap)(m:?bs)(x:Str)(u:Value):Prop:=
 (?zJ=?dK/\m x=?Q)\/((?zJ=?cl\/?zJ=?hk)/\∃c,env.cells.lookup x=?bj/\h.IsCell c (?Q))
structure Cx.Ok(X:Cx):Prop where
 mod:?Wh
 kind:X.env.scope.kind=?na
 glob:X.env.globals=mainGlobals
 blt:X.env.builtins=builtinsNs
 above:X.yS.heap.objs.size<=X.env.locals
 inj:∀x y c,?eN->?wT=?bj->x=y
 has:∀x,(?yv=?cl\/?yv=?hk)->∃c,?eN
 TZ:∀x c,?KG->?eN->X.yS.heap.objs.size<=c
 hd:?db->X.A.handled=none
 frames:X.A.frames=some X.stack
 WL:X.stack=X.outer\/(X.stack=?pi/\?DC)
 WM:∀b∈X.ex,?jk/\∀x c,?eN->c≠b
 bs:∀b o,?tm=?d->?xS=?d/\X.kW b=none
 KR:X.base.objs.size<=X.yS.heap.objs.size
 Ff:∀b o,?tm=?d->b∉X.ex
 Fg:∀b∈X.ex,?BZ
 oV:X.yS.heap.FunFrames X.base X.outer
 O2:∀b∈X.fs,X.kW b=none
structure Inv(X:Cx)(pins:?aF)(σ:List (?jO))(H:Hp)(s:Shared):Prop where
 ok:X.Ok
 os:s.os=X.yS.os
 bare:AllBare s.gens
 base:Un X.fs X.ex X.kW H X.yS.heap s.heap
 loc:∃m,?SR/\∀(i:Nat)(x:Str)(v:V),?dh=?F->?jZ=some (?V)->?pb->∃u,?dg/\Look X.env s.heap m x u
 cell:∀x c,?eN->∃v,?Yz
 free:H X.env.locals=none
 ji:∀x c,?eN->H c=none
 pin:∀p∈?mS,?Mw
 bq:n_ X.prog X.w H s.heap
 len:σ.length=X.N.length
section
theorem Cx.Ok.agy{X:Cx}(ok:X.Ok)(e:?tm=?d):?BZ:=λhb=>by have:=(ok.oV.mem hb).1;simp_all[e]
theorem Inv.bs(I:?r):∀b o,?tm=?d->?aN=?d/\?bL:=λb o e=>
 ⟨I.base.keep b o (?zd).1 (?zd).2 (I.ok.agy e) (I.ok.Ff b o e),I.base.free b o (?zd).1 (?zd).2 (I.ok.Ff b o e)⟩
theorem Inv.bk(I:?r):∀b o,?tm=?d->?aN=?d:=λb o e=>(I.bs b o e).1
theorem Inv.mod(I:?r):?Wh:=I.ok.mod
theorem Inv.qv(I:?r):X.K.In s.heap:=I.ok.mod.Jk.keeps I.bk
theorem Inv.nolimit(I:?r):s.heap.NoLimit:=I.ok.mod.nolimit.keeps I.bk
theorem Inv.lt(I:?r):X.env.locals<s.heap.objs.size:=let⟨_,hn,_⟩:=I.loc;hn.lt
theorem Inv.sz(I:?r):X.yS.heap.objs.size<=s.heap.objs.size:=afh I.ok.above (aps I.lt)
theorem Inv.agz(I:?r){a:Addr}(h:?Wi):a∉X.fs:=λhb=>Fc (I.ok.oV.mem hb) λ_ o ho _=>absurd (afR (ae8 ho) (afh I.sz h)) ?hG
theorem Inv.R5(I:?r):∀x c,?eN->c≠X.env.locals:=λx c e z=>by refine bR (?zK) λv o ho hd=>ag I.loc λm oz6 _=>?_;obtain⟨o',es,ep,Co,EY,_⟩:=oz6;simp_all[z]
theorem Inv.oV(I:?r):s.heap.FunFrames X.base X.outer:=by
 have all:∀l,(∀b∈Ho l,b∈X.fs)->X.yS.heap.FunFrames X.base l->s.heap.FunFrames X.base l:=by
  intro l;induction l with
  |nil=>intro _ _;trivial
  |cons env r ih=>
   refineλhs hl=>i8 hl λhk oz7 hr=>?_;obtain⟨L,o,hf,hn,ho,hd⟩:=oz7;have hL:L∈X.fs:=hs L (by unfold Ho;simp only[ajH,hf];exact adP);obtain⟨sl,e⟩:=I.base.slot L o ho (I.ok.O2 L hL) hL λz=>I.ok.Fg L z hL;exact⟨hk,⟨L,_,hf,hn,e,hd⟩,ih (λb hb=>hs b (by unfold Ho;simp only[ajH,hf];exact ?BX)) hr⟩
 exact all _ (λ_ hb=>hb) I.ok.oV
theorem Inv.stack(I:?r):s.heap.FunFrames X.base X.stack:=by
 show ?YA
 ·rw[e];exact I.oV
 ·rw[e];exact ag I.loc λm hn _=>?p (by rw[I.ok.kind];decide) hf hn (ald (afh I.ok.KR I.ok.above)) I.oV
theorem Inv.Fh(I:?r):∀b∈?pY,b∈X.env.locals::X.fs:=λb hb=>by
 show ?YA
 ·rw[e]at hb;exact ?BX
 ·rw[e]at hb;unfold Ho at hb;simp only[ajH,hf]at hb;exact hb
theorem Inv.og(I:?r):∀b∈?pY,?bL:=λb hb=>by
 rcases aed.mp (I.Fh b hb)with e|hb
 ·rw[e];exact I.free
 ·exact Fc (I.ok.oV.mem hb) λ_ o ho _=>I.base.free b o ho (I.ok.O2 b hb) λz=>I.ok.Fg b z hb
theorem Inv.step{ch:?X}(I:?r)
  (hch:∀b∈ch,?vP/\?jk/\(∀x c,?eN->c≠b)/\∀p∈?mS,p.1≠b)
  (keep:∀b o,?jk->?BZ->?kc->?aN=?d->?bL->?aY=?d)
  (slot:∀b o,?jk->b∈X.fs->?kc->?aN=?d->?bL->∃sl,?aY=?El) (free:∀b o,?kc->?aN=?d->?bL->?uy)
  (there:∀b o,?kc->?aN=?d->∃o',?aY=some o')
  (u9:?Db) (sG:∀b o u,H b=?gV->H' b=?gV) (u_:?Nf)
  (ns:∀m,?SR->h'.Ns X.env.locals m) (bq:?Fr) (hg:AllBare g'):
  ?Na:=by
 have neL:∀b o,?xS=?d->?jk:=λb o e=>?rX;have neC:∀b o,?xS=?d->b∉X.ex->?kc:=λb o e hx hb=>by
  rcases(hch b hb).1 with z|z
  ·exact hx z
  ·exact absurd (afR (?bO) z) ?hG
 have cellK:∀x c,?eN->∀v,?Yz->h'.IsCell c v:=by
  refineλx c e v oz8=>ag oz8 λo ho hd=>?_;have Xm:c∉ch:=?Qw;by_cases hc:c∈X.fs
  ·obtain⟨sl,q⟩:=slot c o (I.R5 x c e) hc Xm ho ?JT;exact⟨_,q,hd⟩
  ·exact⟨o,keep c o (I.R5 x c e) hc Xm ho ?JT,hd⟩
 refine⟨I.ok,I.os,hg,⟨?Fq,?Fq,λb o e n hx=>?_,λb o e hx=>?_,λb xs e=>u9 b _ (I.base.u9 b _ e),λb o xs e=>sG b o _ (I.base.sG b o _ e),λb ps e=>?_⟩,?_,λx c e=>?_,?_,λx c e=>?_,?dc,bq,I.len⟩
 ·exact keep b o (neL b o e) hb ?yw ?wh ?Ed
 ·show ?vN;obtain⟨Cp,e2⟩:=slot b _ (neL b o e) hb ?yw e1 ?Ed;exact⟨Cp,e2⟩
 ·show ?rR;exact free b _ ?yw e1 ?Ed
 ·show ?rR;exact there b _ ?yw e1
 ·obtain⟨m1,e1⟩:=I.base.u_ b _ e;obtain⟨m2,e2⟩:=u_ b _ e1;exact⟨_,by rw[e2,Array.append_assoc]⟩
 ·refine ag I.loc λm hn hl=>⟨m,ns m hn,λi x v e1 e2 e3=>(ag (hl i x v e1 e2 e3) λu r l=>(⟨u,r,?_⟩))⟩;rcases l with l|⟨k,c,e,z⟩
  ·exact .inl l
  ·exact .inr ⟨k,c,e,cellK x c e _ z⟩
 ·obtain⟨v,z⟩:=?zK;exact⟨v,cellK x c e v z⟩
 ·refine ag I.loc λm oz9 _=>?_;obtain⟨o,_,_,ho,_⟩:=oz9;exact free _ o (?TW) ho I.free
 ·exact bR (?zK) λv o ho hd=>free c o (?Qw) ho ?JT
 ·refine o9 (?AT) λe n ne nf d=>?_;have Xm:p.1∉ch:=λz=>(hch _ z).2.2.2 p hp rfl;exact⟨keep _ _ ne nf Xm e n,free _ _ Xm e n,ne,nf,d⟩
theorem Inv.un(I:?r)(u:Un X.fs [] H H' s.heap h')(bq:?Fr):Inv X pins σ H' ?ku:=by
 refine ag ?LR λm agB _=>?_;obtain⟨o,es,ep,ho,r⟩:=agB;obtain⟨sl,hL⟩:=u.any ho I.free ?i;exact I.step (ch:=[]) ?oP (λb o _ hb _ e n=>u.keep b o e n hb ?bM) (λb o _ hb _ e n=>u.slot b o e n hb ?bM) (λb o _ e n=>u.free b o e n nofun) (λb o _ e=>u.there b o e ?bM) u.u9 u.sG u.u_ ?Mx bq I.bare
theorem Inv.call(I:?r)(u:Un (?pY) ch H H' s.heap h')(bq:?Fr)(hg:AllBare g')
  (hch:∀b∈ch,?vP/\?jk/\(∀x c,?eN->c≠b)/\∀p∈?mS,p.1≠b):
  ?Na:=by
 refine ag ?LR λm Ph _=>?_;obtain⟨o,es,ep,ho,r⟩:=Ph;obtain⟨sl,hL⟩:=u.any ho I.free ?TW;exact I.step hch (λb o hL hb hc e n=>u.keep b o e n (λz=>(aed.mp (I.Fh b z)).elim hL hb) hc) (λb o _ _ hc e n=>u.any e n hc) (λb o hc e n=>u.free b o e n hc) (λb o hc e=>u.there b o e hc) u.u9 u.sG u.u_ ?Mx bq hg
theorem Inv.turned(I:?r)(k:∀b o,b≠it->?aN=?d->?aY=?d)(hn:H it=none)(hL:it≠X.env.locals)
  (h1:it∈X.ex\/X.yS.heap.objs.size<=it) (h2:∀x c,?eN->c≠it) (h3:∀p∈?mS,p.1≠it):Inv X pins σ H ?ku:=by
 have R6:∀b u,H b=?Q->b≠it:=λb u e z=>?W
 refine I.step (ch:=[it]) (?hl) (λb o _ _ hc e _=>k b o (λz=>hc ?jx) e) (λb o _ _ hc e _=>⟨_,k b o (λz=>hc ?jx) e⟩) (λ_ _ _ _ n=>n)
  (λb o hc e=>⟨o,k b o (λz=>hc ?jx) e⟩) (λ_ _ e=>e) (λ_ _ _ e=>e) (λb ps e=>⟨#[],?tn⟩) ?JU ?IW I.bare
 ·have e:b=it:=?ds
  rw[e];exact⟨h1,hL,h2,h3⟩
 ·exact mB hm λo es ep ho r=>⟨o,es,ep,k _ o (ahI hL) ho,r⟩
 ·refine ?Ni;rcases hc with z|z
  ·rw[z];exact R6 b u e
  ·exact R6 c _ z
theorem Inv.tok(I:?r)t:Inv X pins σ H {s with toks:=t}:=I.un Un.refl I.bq
theorem Inv.kept(I:?r)(k:∀b u,?aN=?Q->?aY=?Q):Inv X pins σ H ?ku:=I.un (Un.kept k) (I.bq.kept k)
theorem Inv.laid{a:Addr}(I:?r)(k:∀b u,?aN=?Q->?aY=?Q)(hp:?Wi)(new:dg X.prog X.w ?pK h' a o):
 Inv X pins σ ?pK ?ku:=I.un (Un.laid k hp (I.bq.fresh hp)) (I.bq.laid k hp new)
theorem Inv.write(I:?r)(mu:WK (H x))(he:?Ew)(k:∀b u,?fU->?aN=?Q->?aY=?Q)(heo:∃u,?ql=?Q)
 (new:dg X.prog X.w ?KO h' x o):Inv X pins σ ?KO ?ku:=I.un (Un.write mu he k heo) (I.bq.write mu he k heo new)
theorem Inv.weak(I:?r)(hl:?EY)(w:∀(i:Nat)v,σ'[i]?=some (?V)->?jZ=some (?V)):Inv X pins σ' H s:=
 ⟨I.ok,I.os,I.bare,I.base,let⟨m,hn,Xp⟩:=I.loc;⟨m,hn,λi x v e1 e2 e3=>Xp i x v e1 (w i v e2) e3⟩,I.cell,I.free,I.ji,I.pin,I.bq,hl.trans I.len⟩
theorem Inv.qy(I:?r)(h:∀p∈CA,?Mw):Inv X CA σ H s:=
 ⟨I.ok,I.os,I.bare,I.base,I.loc,I.cell,I.free,I.ji,λp hp=>(afC.mp hp).elim (λz=>I.pin p (agx _ z)) (h p),I.bq,I.len⟩
theorem wo{N:?t}(hN:N.Nodup){i:Nat}(a:N[i]?=?F)(b:N[j]?=?F):i=j:=by obtain⟨h1,e1⟩:=aeH.mp a;obtain⟨h2,e2⟩:=aeH.mp b;exact(List.getElem_inj hN).mp (e1.trans e2.symm)
theorem zJ(I:?r)(hN:X.N.Nodup)(hi:?dh=?F)(hx:?hY)(r:?dg)
  (h:∀s',Inv X pins (σ.set i (?V)) H s'->(∃a,ai3 a s.heap s'.heap/\(a=X.env.locals\/X.env.cells.lookup x=?cr))->?vl) (hf:?lX:=by first|exact ?y|exact ?dz|show ?cJ):?OO:=by
 refine ag ?LR λm hn hl=>?_;have agC:(X.env.scope.kind==.class||(X.env.scope.kind==.module&&X.env.locals !=X.env.globals))=false:=by rw[I.ok.kind];rfl
 have hiσ:i<σ.length:=by rw[I.len];exact ?JV
 have R5:=I.R5;have tracked:∀{a}{h'},(∃o,?ze=?d/\?qG)->ai3 a _ _->n_ _ _ H h':=λ{a h'}ha hs b ob e=>by
  refine ag ha λ_ _ zK=>?MJ;rintro rfl;rcases hc with rfl|hc
  ·simp_all[zK]
  simp_all[zK]
 rcases hx with hk|hk
 ·refine wpAny_storeName_local hk hn (λh' WN hs=>(mB (id hn) λoL _ _ hoL _=>h _ ⟨I.ok,I.os,I.bare,?Mq,⟨_,WN,?EJ⟩,?Ap,I.free,I.ji,?dc,tracked ⟨oL,hoL,I.free⟩ hs,?Vi⟩ ⟨_,hs,?y⟩)) agC
  ·exact(hs.2 b (?rX)).trans ?wh
  ·show ?vN;exact⟨sl,(hs.2 b (?rX)).trans e1⟩
  ·show ?rR;exact⟨o',(hs.2 b (?rX)).trans e1⟩
  ·by_cases hj:j=i
   ·subst hj;rw[hi]at e1;cases e1;rw[ag2 hiσ]at e2;cases e2;exact⟨u,r,.inl ⟨hk,?J⟩⟩
   ·rw[afB (ahI hj)]at e2;refine ag (hl j y _ e1 e2 e3) λu' r' q=>⟨u',r',?_⟩;rcases q with⟨k,e⟩|⟨k,c,e,z⟩
    ·refine .inl ⟨k,?_⟩;have:y≠x:=λe=>hj (wo hN e1 (e▸hi));simp[this,e]
    ·exact .inr ⟨k,c,e,?Tn⟩
  ·obtain⟨w',z⟩:=I.cell y c e;exact⟨w',?Tn⟩
  ·exact ?MS
 ·have hfn:?KG:=by
   rcases hf with z|z
   ·exact z
   simp_all[z]
  obtain⟨c,hc⟩:=I.ok.has x (.inl hk);obtain⟨w',z⟩:=I.cell x c hc;refine wpAny_storeName_cell I.ok.kind hk hc z (λh' WO hs=>(ag (id z) λoc WQ am8=>(h _ ⟨I.ok,I.os,I.bare,?Mq,⟨m,hn.sameBut hs (ahI (R5 x c hc)),?EJ⟩,λy c' e=>?_,I.free,I.ji,?dc,tracked ⟨oc,WQ,I.ji x c hc⟩ hs,?Vi⟩ ⟨c,hs,.inr hc⟩)))
  ·exact ?CU ?wh
  ·show ?vN;exact⟨sl,?CU e1⟩
  ·show ?rR;exact⟨o',?CU e1⟩
  ·by_cases hj:j=i
   ·subst hj;rw[hi]at e1;cases e1;rw[ag2 hiσ]at e2;cases e2;exact⟨u,r,.inr ⟨.inl hk,c,hc,WO⟩⟩
   ·rw[afB (ahI hj)]at e2;refine ag (hl j y v' e1 e2 e3) λu' r' q=>?_;refine⟨u',r',?_⟩;rcases q with q|⟨k,c',e,z'⟩
    ·exact .inl q
    ·refine .inr ⟨k,c',e,z'.sameBut hs ?_⟩;rintro rfl;exact hj (wo hN e1 (I.ok.inj _ _ _ e hc▸hi))
  ·by_cases hcc:c'=c
   ·rw[hcc];exact⟨_,WO⟩
   ·obtain⟨w2,z2⟩:=I.cell y _ e;exact⟨w2,z2.sameBut hs hcc⟩
  ·refine o9 (?AT) λe n ne nf d=>⟨(hs.2 p.1 ?_).trans e,n,ne,nf,d⟩;intro q;rw[q,WQ]at e;have q':oc=p.2:=afE e;simp_all[q']
theorem wq(I:?r)(hN:X.N.Nodup)(hi:?dh=?F)(hx:?hY)(r:?dg)
  (h:∀s',Inv X pins (σ.set i (?V)) H s'->?vl) (hf:?lX:=by first|exact ?y|exact ?dz|show ?cJ):?OO:=
 zJ I hN hi hx r (λs' I' _=>h _ I') hf
theorem Inv.Hq(I:?r)(ho:?LS)(u:Un (?pY) ch H H' s.heap s'.heap)(bq:n_ X.prog X.w H' s'.heap)(hg:?yi)
  (hch:∀b∈ch,?vP/\?jk/\(∀x c,?eN->c≠b)/\∀p∈?mS,p.1≠b):?jf:=by
 obtain⟨h',g',d',t',o'⟩:=s';have e:o'=s.os:=ho;simp only[e];exact I.call u bq hg hch
#where
abbrev XK:=Value->?gl->?aZ
abbrev St:=List (?jO)
abbrev VK:=V->?aZ
abbrev TE:=St->?ha
abbrev TT:=St->Hp->(Bool->?aZ)->Prop
abbrev TA:=St->Hp->(?B->?aZ)->Prop
structure Ends where
 nx:St->?aZ
 rt:VK
 bk:St->?aZ:=?fb
 ct:St->?aZ:=?fb
abbrev TS:=Ends->St->?aZ
def EP(X:Cx)(pins:?aF)(σ:St)(Q:VK)(u:Value)(s':Shared):Prop:=∃v H',?jf/\?dg/\Q v H'
def TP(X:Cx)(pins:?aF)(σ:St)(Q:Bool->?aZ)(b:Bool)(s':Shared):Prop:=∃H',?jf/\Q b H'
def AP(X:Cx)(pins:?aF)(σ:St)(Q:?B->?aZ)(us:?az)(s':Shared):Prop:=∃vs H',?jf/\?hm/\Q vs H'
def SP(X:Cx)(pins:?aF)(D:Ends)(f:Flow)(s':Shared):Prop:=
 match f with
 |?km=>∃σ' H',?oD/\D.nx σ' H'
 |.brk=>∃σ' H',?oD/\D.bk σ' H'
 |.cont=>∃σ' H',?oD/\D.ct σ' H'
 |.ret u=>∃v σ' H',?oD/\?dg/\D.rt v H'
def PE(X:Cx)(e:Expr)(t:TE):Prop:=
 ∀pins s(σ:St)H Q,?r->?hy->wpAny ?K X.A (?ea) ?ge X.xe s
def PT(X:Cx)(e:Expr)(t:TT):Prop:=
 ∀pins s(σ:St)H Q,?r->?hy->wpAny ?K X.A (isTrue e X.env (?ea)) ?Hc X.xe s
def PW(X:Cx)(e:Expr)(t:TT):Prop:=
 ∀whole pins s(σ:St)H Q,?r->?hy->wpAny ?K X.A (?Vj) ?Hc X.xe s
def PA(X:Cx)(es:?bz)(t:TA):Prop:=
 ∀pos pins s(σ:St)H Q,?r->?hy->wpAny ?K X.A (spliced (backTo pos (?sw))) (AP X pins σ Q) X.xe s
def PS(X:Cx)(st:Stmt)(t:TS):Prop:=
 ∀pins s(σ:St)H D,?r->?nw->wpAny ?K X.A ?Hx ?zf X.xe s
def oj(X:Cx)(st:?uB)(t:TS):Prop:=
 ∀pins s(σ:St)H D,?r->?nw->wpAny ?K X.A (execs st X.env) ?zf X.xe s
theorem O3{σ:St}(he:?Ca)(I:?r)(h:?hy)(k:∀u s' v H',?jf->?dg->Q v H'->R u s'):wpAny ?K X.A (?ea) R X.xe s:=
 wpAny_mono (he _ s σ H Q I h) (λu s' z=>ah z λv H' a b c=>k u _ v _ a b c) ?LT
theorem ck(h:?YB)(hQ:?Vk):?Xs:=wpAny_mono h hQ ?LT
#where
namespace L2
open PySem PySem.Spec PyProof.Rows
section
def bj(i:Nat):TE:=λσ H Q=>∃v,?jZ=some (?V)/\Q v H
def tC(v:V):TE:=λ_ H Q=>Q v H
theorem T1{X}{pos}(hN:?dh=?F)(hv:?pb)(hd:?bh:=by decide)(hcd:?ok:=by decide):PE X (?o x pos) (bj i):=by
 refineλpins s σ H Q I h=>ag h λv e h=>ag I.loc λm hn hl=>ag (hl i x v hN e hv) λu r l=>?_;have fin:EP X _ σ Q u s:=?Hy;rcases l with⟨hk,hm⟩|⟨hk,c,hc,R7⟩
 ·exact wpAny_Name (wpAny_loadName_local I.ok.kind hk hn hm fin) hd
 ·rcases hk with hk|hk
  ·exact wpAny_Name (wpAny_loadName_cell I.ok.kind hk hc R7 fin) hd
  ·exact wpAny_Name (wpAny_loadName_free I.ok.kind hk hc R7 fin hcd) hd
theorem lL:PE X (?cu (?O) j pos) (tC (?O)):=λ_ _ _ H _ I h=>wpAny_Constant_int ⟨?O,H,?cG,?ad,h⟩
theorem Lc:PE X (?cu ?ag j pos) (tC ?ag):=λ_ _ _ H _ I h=>apx ⟨?cW,H,?cG,?ad,h⟩
def Gl(X:Cx)(x:Str):Prop:=?yv=?wU
theorem lM{σ:St}(I:?r)(hg:?cX)(hm:?lM=?Q)(h:Q u s)
  (hd:?bh:=by decide):wpAny ?K X.A (eval (?o x pos) X.env) Q E s:=
 apy I.ok.kind hg (Calls.loadGlobal_global ?NX hm h) hd
theorem i9{E}{σ:St}{pos}(I:?r)(hg:?cX)(hm:?pL)(hv:?gW=?Q)(h:Q u s)
 (hn:?id:=by decide) (hd:?bh:=by decide):wpAny ?K X.A (eval (?o x pos) X.env) Q E s:=ag I.mod.blt λmb h1 h2=>apy I.ok.kind hg (Calls.loadGlobal_builtin ?NX hm (by rw[I.ok.blt];exact h1.keeps I.bk) ((h2 x hn).trans hv) h) hd
theorem Hr(hg:?cX)(hm:?lM=?Q)(r:?dg)(hd:?bh:=by decide):PE X (?o x pos) (tC v):=
 λ_ _ _ H _ I h=>lM I hg hm ?Hy hd
theorem Pj{pos}(hg:?cX)(hm:?pL)(hv:?gW=?Q)(r:?dg)(hn:?id:=by decide)(hd:?bh:=by decide):PE X (?o x pos) (tC v):=
 λ_ _ _ H _ I h=>i9 I hg hm hv ?Hy hn hd
def PC(X:Cx)(op:CmpOp)(a b:Expr)(t:TE):Prop:=
 ∀pins s(σ:St)H Q,?r->?hy->
  wpAny ?K X.A (eval a X.env) (λv s₁=>wpAny ?K X.A (?zL) (λu s₂=>wpAny ?K X.A (compareOp op v u) ?ge X.xe s₂) X.xe s₁) X.xe s
theorem CC b(h:op≠.In)(h2:op≠.NotIn):?ja:=by
 have e1:?Vl:=?W
 have e2:(op==asZ)=false:=?W
 show ?Vm
def agE(ta:TE):TE:=λσ H Q=>ta σ H λx H1=>Q (.bl (?IQ)) H1
def Xq(ta:TE):TE:=λσ H Q=>ta σ H λx H1=>Q (.bl (! ?IQ)) H1
theorem RelV.CD(r:?hA):(v==ajC)=?IQ:=by
 cases x with
 |b_=>cases r;rfl
 |bl _=>cases r;rfl
 |int _=>show ?eV;rfl
 |str _=>show ?eV;rfl
 |Xj _=>show ?eV;rfl
 |Xk _=>show ?eV;rfl
 |ref _=>cases r;rfl
 |ty _=>cases r;rfl
theorem Ld(ha:?gp):PC X .Is a (?cu ?P j pos') (agE ta):=λpins s σ H Q I h=>ck ?fx λv s1 ?fy=>Constant_none (is_none_gen ?PE)
theorem Hs(ha:?gp):PC X .IsNot a (?cu ?P j pos') (Xq ta):=λpins s σ H Q I h=>ck ?fx λv s1 ?fy=>Constant_none (isnot_none_gen ?PE)
def tB(t:TE):TT:=λσ H Q=>t σ H λx H1=>∃c,x=.bl c/\Q c H1
theorem Le(h:PC X op a b t)(h1:?ja:=by first|exact CC _ (?c) (?c)|rfl):PE X ?mc t:=λpins s σ H Q I hw=>wpAny_Compare1 (h _ s σ H Q I hw) h1
theorem Lf(h:PC X op a b t)(h1:?ja:=by first|exact CC _ (?c) (?c)|rfl):PT X ?mc (tB t):=by refineλpins s σ H Q I hw=>wpAny_isTrue_Compare1 (ck ?Fs λv s1 h1=>ck h1 λu s2 h2=>ck h2 λc s3 ?fy=>(ag q1 λd agF q=>?_)) h1;clear q1;subst agF;cases r1;exact ?Qg
theorem Lg(h:?Ca)(he:∀whole,?Vj=(do let v<-whole;standAt e.pos;?TX):=by intro _;rfl):PT X e (tB t):=by refineλpins s σ H Q I hw=>isTrue_plain (ck ?Fs λv s1 ?fy=>(ag q1 λd T2 q=>?_)) (he _);clear q1;subst T2;cases r1;exact ?Qg
def agG(t u:TT):TT:=λσ H Q=>t σ H λc H1=>if ?iK then u σ H1 Q else Q false H1
def tOr(t u:TT):TT:=λσ H Q=>t σ H λc H1=>if ?iK then Q true H1 else u σ H1 Q
def Xr(t:TT):TT:=λσ H Q=>t σ H λc H1=>Q (!c) H1
theorem Lh(ha:PT X a tA):PT X (?qD .Not a pos) (Xr tA):=λpins s σ H Q I h=>isTrue_not ?fx
def Xs(ta tb:TE):TE:=λσ H Q=>ta σ H λx H1=>∃c,x=.bl c/\if ?iK then ?LU else Q ?la H1
def agH(ta tb:TE):TE:=λσ H Q=>ta σ H λx H1=>∃c,x=.bl c/\if ?iK then Q ?lm H1 else ?LU
def Xt(ta:TE):TE:=λσ H Q=>ta σ H λx H1=>∃c,x=.bl c/\Q (.bl (!c)) H1
theorem T3{rest}(ha:?gp)(hb:PE X (?eD .And (?lD) pos) tb):PE X (?eD .And (a::?lD) pos) (Xs ta tb):=by
 refineλpins s σ H Q I h=>BoolOp_and (ck ?fx λv s1 ?fy=>?_);show ?Ih;cases r1;refine ?Vn;cases c with
 |true=>exact ?Ft
 |false=>exact⟨?bY,H1,I1,rfl,q1⟩
theorem Xu{rest}(ha:?gp)(hb:PE X (?eD .Or (?lD) pos) tb):PE X (?eD .Or (a::?lD) pos) (agH ta tb):=by
 refineλpins s σ H Q I h=>BoolOp_or (ck ?fx λv s1 ?fy=>?_);show ?Ih;cases r1;refine ?Vn;cases c with
 |false=>exact ?Ft
 |true=>exact⟨?bY,H1,I1,rfl,q1⟩
theorem T4(ha:?gp):PE X (?qD .Not a pos) (Xt ta):=by refineλpins s σ H Q I h=>UnaryOp_ (ck ?fx λv s1 ?fy=>?_);show ?Ih;cases r1;exact not_of (wpAny_truthy_bool ⟨?bY,H1,I1,rfl,q1⟩)
def tIf(t:TT)(ta tb:TE):TE:=λσ H Q=>t σ H λc H1=>if ?iK then ta σ H1 Q else ?LU
theorem Li(hc:PT X c tA)(ha:?gp)(hb:?nc):PE X ?Xt (tIf tA ta tb):=by
 refineλpins s σ H Q I h=>wpAny_IfExp (ck ?Fu λd s1 ?pw=>?_);cases d with
 |true=>exact ha _ _ σ _ Q I1 q1
 |false=>exact ?Ft
#where
#where
namespace L2
open PySem PySem.Spec PyProof.Rows
def cW(K:aaU)(H:Hp)(a:Addr)(xs:?B):Prop:=
 Rd H a ?cm\/
  ∃(o:Obj)(aL:?ec)(n:Nat),?LV=?d/\o.cls=?n ?aC/\o.dict=none/\?Nz
def j9(K:aaU)(H:Hp)(a:Addr)(xs:?B):Prop:=
 Rd H a (.tup xs)\/
  ∃(o:Obj)(aL:?ec)(n:Nat),?LV=?d/\o.cls=?n ?be/\?Nz
def agI:Value->?jO
 |?P=>some .b_
 |?eI b=>some (?bP)
 |.int i _=>some (?O)
 |.str x _=>some ?ag
 |.bytes b _=>some (.Xj b)
 |.float b _=>some (.Xk b)
 |?C=>some (?C)
 |?n n=>some ?rd
 |_=>none
theorem RelV.abs(r:?lv):agI u=?F:=by
 cases x with
 |b_=>cases r;rfl
 |bl _=>cases r;rfl
 |int _=>show ?eV;rfl
 |str _=>show ?eV;rfl
 |Xj _=>show ?eV;rfl
 |Xk _=>show ?eV;rfl
 |ref _=>cases r;rfl
 |ty _=>cases r;rfl
theorem RelV.inj(r:?lv)(q:?eB):x=y:=afE (r.abs.symm.trans q.abs)
theorem Vals.inj:∀{xs ys}{us},?ee->Vals ys us->xs=ys:=by
 intro xs ys us h;induction h generalizing ys with
 |nil=>intro h;cases h;rfl
 |cons r t ih=>intro h;cases h with|cons r' t'=>rw[r.inj r',ih t']
section
theorem cW.of{K}(h:H a=some ?cm):?fc:=.inl (?fm)
theorem j9.of{K}(h:H a=some (.tup xs)):?hg:=.inl (?fm)
theorem Inv.list{σ:St}(I:?r)(h:cW X.K H a xs):∃aL,?pX/\PlainL s.heap a aL.toArray/\?ev:=by
 rcases h with h|⟨o,aL,n,hk,hc,hd,hs,hz,r⟩
 ·exact mT (h.ok I.bq) λz aL n r e=>⟨aL,r,⟨_,n,e,rfl,rfl,rfl⟩,z⟩
 ·refine⟨_,r,⟨o,n,I.qv a o hk,hc,hd,?qH⟩,?_⟩;have e:=r.length;simp_all
theorem Inv.tuple{σ:St}(I:?r)(h:j9 X.K H a xs):∃aL,?pX/\IsTup s.heap a aL.toArray/\?ev:=by
 rcases h with h|⟨o,aL,n,hk,hc,hs,hz,r⟩
 ·exact Fc (h.ok I.bq) λz aL r p=>⟨aL,r,p,z⟩
 ·refine⟨_,r,⟨o,I.qv a o hk,hc,n,?qH⟩,?_⟩;have e:=r.length;simp_all
theorem Inv.qz{σ:St}(I:?r)(h:cW X.K H a xs)(h':cW X.K H a ys):xs=ys:=by
 refine aG (I.list h) λaL r agJ _=>?_;obtain⟨o,n,e,_,_,d⟩:=agJ;refine aG (I.list h') λits' r' agK _=>?_;obtain⟨o',n',e',_,_,d'⟩:=agK;rw[e]at e';cases e';rw[d]at d';injection d' with d1 _
 have:aL=its':=?Qx
 subst this;exact r.inj r'
theorem Inv.zL{σ:St}(I:?r)(h:j9 X.K H a xs)(h':j9 X.K H a ys):xs=ys:=by
 refine aG (I.tuple h) λaL r agL _=>?_;obtain⟨o,e,_,n,d⟩:=agL;refine aG (I.tuple h') λits' r' agM _=>?_;obtain⟨o',e',_,n',d'⟩:=agM;rw[e]at e';cases e';rw[d]at d';injection d' with d1 _
 have:aL=its':=?Qx
 subst this;exact r.inj r'
#where
section
def mW:TS:=λD σ H=>?uC
def dN(t u:TS):TS:=λD σ H=>t {D with nx:=u D} σ H
theorem cg:oj X [] mW:=λ_ _ σ H _ I h=>wpAny_execs_nil ⟨σ,H,I,h⟩
theorem aq{st}{rest}(h1:PS X st t)(h2:oj X rest u):oj X ?ue ?Cb:=by
 refineλpins s σ H D I h=>wpAny_execs_cons (ck ?Fv ?JW);cases f with
 |next=>
  exact ?OP
 |ret v=>exact q
 |brk=>exact q
 |cont=>exact q
theorem aw{st}(h1:PS X st t):oj X [st] t:=by
 refineλpins s σ H D I h=>wpAny_execs_cons (ck (h1 _ s σ H D I h) ?JW);cases f with
 |next=>exact wpAny_execs_nil q
 |ret v=>exact q
 |brk=>exact q
 |cont=>exact q
theorem Inv.quiet{σ:St}(I:?r):interactive X.env=false:=by simp[interactive,I.ok.kind]
def mC(te:TE):TS:=λD σ H=>te σ H λ_ H1=>D.nx σ H1
theorem eu(he:?nd)(hs:swapsWith e none pos.line X.env=?ff:=by rfl):PS X (?kn e pos) (mC te):=λpins s σ H D I h=>wpAny_Expr_any (ck ?sr (λv s1 agN=>ah agN λx H1 I1 r1 q1=>⟨σ,H1,I1,q1⟩)) I.quiet hs
def oW(te:TE):TS:=λD σ H=>te σ H D.rt
theorem b0(he:?nd):PS X (?nE (?gG) pos) (oW te):=λpins s σ H D I h=>wpAny_Return_some (ck ?sr (λv s1 agO=>ah agO λx H1 I1 r1 q1=>⟨x,σ,H1,I1,r1,q1⟩))
def Xv:TS:=λD _ H=>D.rt .b_ H
theorem Pk:PS X (?nE none pos) Xv:=λ_ _ σ H _ I h=>wpAny_Return_none ⟨.b_,σ,H,I,rfl,h⟩
def qA(c:TT)(t u:TS):TS:=λD σ H=>c σ H λb H1=>if ?dQ then t D σ H1 else u D σ H1
theorem gj(hc:PT X c tc)(ha:oj X a t)(hb:oj X b u):PS X ?Hz (qA tc t u):=by
 refineλpins s σ H D I h=>wpAny_If (ck ?Fu λd s1 ?pw=>?_);cases d with
 |true=>exact ?Wj
 |false=>exact ?Wk
#where
abbrev TG:=V->St->Hp->(St->?aZ)->Prop
abbrev WR:=?B->St->Hp->(St->?aZ)->Prop
def PG(X:Cx)(target:Expr)(t:TG):Prop:=
 ∀pins s(σ:St)H v u Q,?r->?dg->t v σ H Q->
  wpAny ?K X.A (assign target X.env u) (λ_ s'=>∃σ' H',?oD/\Q σ' H') X.xe s
def PGs(X:Cx)(ts:?bz)(t:WR):Prop:=
 ∀pins s(σ:St)H vs us Q,?r->?hm->t vs σ H Q->
  wpAny ?K X.A (assignInOrder ((assignEach ts X.env).map ?nO) us) (λ_ s'=>∃σ' H',?oD/\Q σ' H') X.xe s
section
def cP(i:Nat):TG:=λv σ H Q=>Q (σ.set i (?V)) H
theorem jm(hN:X.N.Nodup)(hi:?dh=?F)(hx:?hY)(hf:?lX:=by first|exact ?y|exact ?dz|show ?cJ):PG X (?o x pos) ?rp:=λpins s σ H v u Q I r h=>wpAny_assign_Name (wq I hN hi hx r (λs' I'=>⟨_,H,I',h⟩) hf)
def Xw:WR:=λvs σ H Q=>vs=[]/\Q σ H
def R8(t:TG)(u:WR):WR:=λvs σ H Q=>∃v r,vs=v::r/\t v σ H λσ' H'=>u r σ' H' Q
theorem AO:PGs X [] Xw:=by show ?me;obtain⟨e,h⟩:=h;exact assignInOrder_nil ⟨σ,H,I,h⟩
theorem kX(h1:PG X e t)(h2:PGs X es u)
  (hs:(assignEach ?bp X.env).map ?nO=assign e X.env::(?Fw).map ?nO:=by rfl):PGs X ?bp (R8 t u):=by
 show ?me;obtain⟨v,vr,e1,h⟩:=h;subst e1;cases r with
 |cons r rr=>
  rw[hs];exact assignInOrder_cons (ck (h1 _ s σ H _ _ _ I r h) λ_ s1⟨σ1,H1,I1,q1⟩=>(h2 _ _ _ _ _ _ Q I1 rr q1))
def Pl(K:aaU)(n:Nat)(t:WR):TG:=λv σ H Q=>∃a xs,v=?C/\?hg/\xs.length=n/\t xs σ H Q
theorem Fj{pos}{k}(hc:?db)(h:PGs X es t)
  (hn:(?Fw).length=n:=by rfl) (hst:(?Fw).findIdx? ?aT=none:=by rfl):PG X (?ka es k pos) (Pl X.K n t):=by
 intro pins s σ H v u Q I r hw;obtain⟨a,xs,e1,hq,hl,hw⟩:=hw;subst e1;cases r;obtain⟨aL,rv,ht,hz⟩:=?is;refine assign_Tuple_tuple ?cL ht (by simp[hn,<-hl,rv.length]) hst λh' hx=>?_;have I1:Inv X _ σ H ?bw:=I.kept λb o e=>hx b o (af1 (?bO)) e;exact h _ _ σ H _ _ Q I1 ?bM hw
def oX(te:TE)(g:TG):TS:=λD σ H=>te σ H λx H1=>g x σ H1 D.nx
theorem dy{pos}{i}(hN:X.N.Nodup)(hi:?dh=?F)(hx:?hY)(he:?nd)(hs:swapsWith e (some (?o x pos')) pos.line X.env=?ff:=by rfl)(hf:?lX:=by first|exact ?y|exact ?dz|show ?cJ):
 PS X (?di [?o x pos'] e pos) (oX te ?rp):=λpins s σ H D I h=>wpAny_Assign_Name (ck ?sr λv s1⟨y,H1,I1,r1,q1⟩=>(wq I1 hN hi hx r1 (λs2 I2=>⟨_,H1,I2,q1⟩) hf)) hs
#where
section
def Lj(c:TT)(tb:TS):TS:=λD σ H=>∃W:Nat->St->?aZ,(∃m,W m σ H)/\∀m σ H,W m σ H->
 c σ H λb H1=>if ?dQ then∃N,(∀σ' H',N σ' H'->∃m',m'<m/\W m' σ' H')/\tb ?DD σ H1 else D.nx σ H1
theorem CG(hp:PassesOwn ?K X.A X.env X.xe)(hc:PT X c tc)(hb:?JX):PS X ?TY (Lj tc tb):=by
 refineλpins s σ H D I h=>ag h λW agP turn=>?_;obtain⟨m0,w0⟩:=agP;refine wpAny_While (codeAny_whileLoop _ (λn s1 agQ=>bR agQ λσ1 H1 I1 w1=>wpAny_passesOwn hp (ck (hc _ _ _ _ _ I1 (turn n σ1 H1 w1)) λb s2⟨H2,I2,q2⟩=>?_)) _ ⟨σ,H,I,w0⟩);cases b with
 |true=>
  refine ag q2 λN hN q2=>wpAny_passesOwn hp (ck (hb _ _ _ _ _ I2 q2) λf s3 q3=>?_);cases f with
  |next=>
   exact bR q3 λσ3 H3 I3 n3=>ag (hN _ _ n3) ?OV
  |cont=>
   exact bR q3 λσ3 H3 I3 n3=>ag (hN σ3 H3 n3) ?OV
  |brk=>exact q3
  |ret v=>exact q3
 |false=>
  exact wpAny_execs_nil ⟨σ1,H2,I2,q2⟩
#where
structure It where
 go:Nat->?aZ
 Ht:Nat->Hp->V->?aZ
 stop:Nat->?aZ
def pJ(X:Cx)(pins:?aF)(H:Hp)(b:Addr):Prop:=
 ?bL/\?jk/\?BZ/\?vP/\(∀x c,?eN->c≠b)/\∀p∈?mS,p.1≠b
theorem Inv.AQ{σ:St}{b:Addr}(I:?r)(hb:s.heap.objs.size<=b)(hn:?uy):?Ii:=by
 refine⟨hn,alS (afR I.lt hb),I.agz hb,.inr (afh I.sz hb),λx c e z=>?_,λp hp z=>?_⟩
 ·obtain⟨v,q⟩:=?zK;exact absurd (afR q.lt (?W)) ?hG
 ·exact absurd (afR (ae8 (?AT).1) (?W)) ?hG
structure Turn(P:Program)(w:World)(K:aaU)(tg:Expr)(J:It)(fp:?X)(it:Addr)(tn:?HA):Prop where
 mem:it∈fp
 obj:∀i h,tn i h->∀b∈fp,∃o,?co=?d/\∀v,o.data≠?dD v
 keep:∀i h h',tn i h->(∀b∈fp,∀o,?co=?d->?aY=?d)->tn i h'
 item:∀(X:Cx),X.prog=P->X.w=w->X.K=K->?db->∀(i:Nat)(pins:?aF)(s:Shared)(σ:St)(H:Hp)(E:?ap),?r->(∀b∈fp,?po)->?KP->?Cc->
  wpAny ?cF X.A (pyNext ?eA) (λr s1=>∃u,r=?Q/\
   wpAny ?cF X.A (letOwnedTupleGo tg ?eA u) (λ_ s2=>∃x H',?Wl/\?lv/\?zg/\tn ?bf s2.heap/\∀b∈fp,?uy) E s1) E s
 done:∀(X:Cx),X.prog=P->X.w=w->X.K=K->?db->∀(i:Nat)(pins:?aF)(s:Shared)(σ:St)(H:Hp)(E:?ap),?r->(∀b∈fp,?po)->?KP->?AW->
  wpAny ?cF X.A (pyNext ?eA) (λr s1=>r=none/\Inv X pins σ H s1) E s
 self:∀(A:Around)(i:Nat)(s:Shared)(Q:?ap)(E:?ap),?KP->Q ?eA s->wpAny ?cF A (pyIter ?eA) Q E s
abbrev TI:=St->Hp->(It->?aZ)->Prop
def Xx(X:Cx)(pins:?aF)(σ:St)(tg:Expr)(R:It->?aZ)(itv:Value)(s2:Shared):Prop:=
 ∃(it:Addr)(fp:?X)(tn:?HA)(J:It)(H':Hp),itv=.ref it/\?Wl/\Turn X.prog X.w X.K tg J fp it tn/\tn 0 s2.heap/\(∀b∈fp,?Ii)/\R J H'
def PI(X:Cx)(tg iter:Expr)(wi:TI):Prop:=
 ∀pins s(σ:St)H R,?r->wi σ H R->
  wpAny ?K X.A ?xH (λv s1=>wpAny ?K X.A (pyIter v) ?xd X.xe s1) X.xe s
theorem zM(ho:s.heap.get? it=?d)(hc:o.cls=?n n)(hd:o.data=?aO vs)
  (hn:?vz n=false) (hQ:Q () s):wpAny M A (letOwnedTupleGo tg ?eA u) Q E s:=by
 cases tg<;>first
  |exact ?IX
  |(cases u<;>first
   |exact ?IX
   |(refine wpAny_bind (wpAny_load ho ?_);simp only[hc,hd];rw[if_neg (by intro h;rw[hn,Bool.false_and]at h;show ?aR)];exact ?IX))
def Pm(K:aaU)(a:Addr):It:=
 ⟨λi H=>∃xs x,?fc/\?hI=?F,λi H x H'=>H'=H/\∀xs,?fc->?hI=?F,λi H=>∃xs,?fc/\?zM⟩
def Itt(K:aaU)(a:Addr):It:=
 ⟨λi H=>∃xs x,?hg/\?hI=?F,λi H x H'=>H'=H/\∀xs,?hg->?hI=?F,λi H=>∃xs,?hg/\?zM⟩
def Xy(lo:Int)(n:Nat):It:=⟨λi _=>i<n,λi H x H'=>H'=H/\x=.int (lo+i),λi _=>n<=i⟩
theorem sI{K}a it:Turn P w K tg (?rq) [it] it (λi h=>?Wm)where
 mem:=?jS
 obj:=λi h st b hb=>by
  have e:b=it:=?ds
  rw[e];exact aG st λo e c d=>⟨o,e,λv z=>?M⟩
 keep:=λi h h' st k=>st.at λo e=>k _ ?ct o e
 item:=by show ?dU;show ?ej;refine bR hg λxs x hq hx=>aG ?jD λaL rv p hz=>ag ?Al λu hu ru=>fO (hf it ?ct) λf0 f1 f2 f3 f4 f5=>wpAny_pyNext_list_item st p.isList ?oH ?yx;have I1:Inv X _ σ H ?bw:=I.turned ?vS f0 f1 f3 f4 f5;exact aG ?vm λo e c d=>⟨u,rfl,zM e c d ?ko ⟨x,H,I1,ru,⟨rfl,?Dq⟩,vR,?oI⟩⟩
 done:=by show ?dU;show ?ej;refine ag hg λxs hq hx=>aG ?jD λaL rv p hz=>fO (hf it ?ct) ?gc;show ?ua;exact wpAny_pyNext_list_end ?cL st p.isList ?FR ?CO
 self:=λ_ _ _ _ _ st h=>wpAny_pyIter_listiter st h
theorem Fo{K}a it:Turn P w K tg (Itt K a) [it] it (λi h=>h.IsTupleIter it a i)where
 mem:=?jS
 obj:=λi h st b hb=>by
  have e:b=it:=?ds
  rw[e];exact aG st λo e c d=>⟨o,e,λv z=>?M⟩
 keep:=λi h h' st k=>st.at λo e=>k _ ?ct o e
 item:=by show ?dU;show ?ej;refine bR hg λxs x hq hx=>aG (?is) λaL rv p hz=>ag ?Al λu hu ru=>fO (hf it ?ct) λf0 f1 f2 f3 f4 f5=>wpAny_pyNext_tuple_item st (p) ?oH ?yx;have I1:Inv X _ σ H ?bw:=I.turned ?vS f0 f1 f3 f4 f5;exact aG ?vm λo e c d=>⟨u,rfl,zM e c d ?ko ⟨x,H,I1,ru,⟨rfl,λys hy=>by rw[I.zL hy hq];exact hx⟩,vR,?oI⟩⟩
 done:=by show ?dU;show ?ej;refine ag hg λxs hq hx=>aG (?is) λaL rv p hz=>fO (hf it ?ct) ?gc;show ?ua;exact wpAny_pyNext_tuple_end ?cL st (p) ?FR ?CO
 self:=λ_ _ _ _ _ st h=>wpAny_pyIter_tupleiter st h
theorem Fp{K}it lo n:Turn P w K tg (Xy lo n) [it] it (λi h=>IsRangeIter h it (lo+?bd*1) (?cV-?bd) 1)where
 mem:=?jS
 obj:=λi h st b hb=>?W
 keep:=λi h h' st k=>k _ ?ct _ st
 item:=by show ?dU;show ?ej;refine fO (hf it ?i) ?gc;have W:=Walks.range (prog:=X.prog) (w:=X.w) ?cL it lo 1 n;refine ?Oi;obtain⟨t,rfl⟩:=hv;have I1:Inv X _ σ H ?gO:=I.turned (λb o hb e=>kk b o (?ds) e) f0 f1 f3 f4 f5;refine⟨_,rfl,zM vR rfl rfl rfl ⟨?bB,H,I1,⟨t,?_⟩,?jv,vR,?oI⟩⟩;rw[Int.mul_one]
 done:=by show ?dU;show ?ej;exact fO (hf _ ?i) λf0 f1 f2 f3 f4 f5=>wpAny_pyNext_range_end ?cL st (by have:n<=i:=hg;lia) ?CO
 self:=λ_ _ _ _ _ st h=>wpAny_pyIter_rangeiter st h
#where
namespace L2
open PySem PySem.Spec PyProof.Rows
section
def Hu(K:aaU)(tl:TE):TI:=λσ H R=>tl σ H λx H1=>∃a,x=?C/\(∃xs,?JY)/\R (?rq) H1
theorem Pn(hl:PE X l tl):PI X tg l (Hu X.K tl):=by
 refineλpins s σ H R I h=>ck (hl _ s σ H _ I h) λv s1 ?fy=>aG q1 λa e agS q=>?_;clear q1;obtain⟨xs,hq⟩:=agS;subst e;cases r1;refine aG ?px λaL rv p hz=>wpAny_pyIter_list p.isList (⟨_,_,_,_,H1,rfl,I1.kept ?ib,sI a _,?gb,?hl,q⟩);have e:?xe:=?ds
 subst e;exact I1.AQ ?A (I1.bq.fresh ?A)
theorem CH{σ:St}{lo hi}(I:?r)(h1:?nF<=lo)(h2:lo<2^62)(h3:?nF<=hi)(h4:hi<2^62)
  (q:R (Xy lo (hi-lo).toNat) H):wpAny ?K X.A (pyIter (?bT)) ?xd E {s with heap:=s.heap.push {cls:=?n ?cR,data:=?aO ?vZ},toks:=tk}:=by
 refine wpAny_pyIter_range (IsRange.new ..) (small_one h1 h2 h3 h4) ?_;have I1:Inv X _ σ H {s with heap:=s.heap.push {cls:=?n ?cR,data:=?aO ?vZ},toks:=tk}:=I.kept ?ib;refine⟨_,_,_,_,H,rfl,
  I1.kept ?ib,Fp _ _ _,?_,?hl,q⟩
 ·have e1:lo+((0:Nat))*1=lo:=?J
  have e2:(((hi-lo).toNat))-((0:Nat))=aqa lo hi 1:=?PQ
  simp only[e1,e2];exact ?de
 ·have e:b=(s.heap.push {cls:=?n ?cR,data:=?aO ?vZ}).objs.size:=?ds
  subst e;exact I1.AQ ?A (I1.bq.fresh ?A)
def Xz(ta:TA):TI:=λσ H R=>ta σ H λvs H1=>∃j,vs=[?fP]/\?nF<=j/\j<2^62/\R (Xy 0 j.toNat) H1
def XA(ta:TA):TI:=λσ H R=>ta σ H λvs H1=>∃i j,vs=[?O,?fP]/\(?nF<=i/\i<2^62/\?nF<=j/\j<2^62)/\R (Xy i (j-i).toNat) H1
def CI(wi:TI)(g:TG)(tb:TS):TS:=λD σ H=>wi σ H λJ H1=>∃W:Nat->Nat->St->?aZ,(∃m,W 0 m σ H1)/\∀i m σ H,W i m σ H->
 (?AW/\?uC)\/(?Cc/\∃N,(∀σ' H',N σ' H'->∃m',m'<m/\W ?bf m' σ' H')/\∀x H',?zg->g x σ H' λσ2 H2=>tb ?DD σ2 H2)
def AR(fp:?X)(h:Heap):?aF:=fp.filterMap λb=>(?co).map λo=>(b,o)
theorem jE(hb:b∈fp)(e:?co=?d):(b,o)∈AR fp h:=ahi.mpr ⟨b,hb,by rw[e];rfl⟩
theorem Jl(hp:p∈AR fp h):p.1∈fp/\h.get? p.1=some p.2:=by
 refine ag (ahi.mp hp) λb hb e=>?_;cases q:?co with
 |none=>rw[q]at e;simp at e
 |some o=>
  rw[q]at e;have e':(b,o)=p:=afE e;rw[<-e'];exact⟨hb,q⟩
theorem Inv.pinned{σ:St}(I:?r)(hf:∀b∈fp,?po)(ho:∀b∈fp,∃o,?aN=?d/\∀v,o.data≠?dD v):Inv X (pins++AR fp s.heap) σ H s:=
 I.qy λp hp=>(afC.mp hp).elim (λz=>I.pin p (afF _ z)) λz=>by obtain⟨hb,e⟩:=Jl z;refine Cu (hf _ hb) λf0 f1 f2 _=>ag (ho _ hb) λo e' d=>?_;simp_all[e]
theorem Inv.jF{σ:St}(I:Inv X (pins++pl) σ H s):?r:=I.qy λp hp=>I.pin p (afF _ ?AX)
theorem wt(hp:PassesOwn ?K X.A X.env X.xe)(hc:?db)(hi:?yj)(hg:?Bz)(hb:?JX)
  (hs:?kr:=by intro _;rfl):PS X ?DQ (CI wi g tb):=by
 refineλpins s σ H D I h=>wpAny_For (ck (hi _ s σ H _ I h) λv s1 h1=>ck h1 λitv s2 h2=>(o_ h2 λit fp tn J H2 e I2 T st2 f2 W agT turn=>?_)) hs;clear h2;obtain⟨m0,w0⟩:=agT;subst e;have stat:∀{H'},?jc->∀b∈fp,pJ X _ H' b:=?OW;refine codeAny_forLoop_any (λn s'=>∃i σ' H',?YC/\?zN/\?jc/\W i n σ' H') (λn s3 T5=>bB T5 ?RO) _ ?Oj;rcases turn i n _ _ w3 with⟨stop,qn⟩|⟨go,N,hN,step⟩
 ·refine wpAny_passesOwn hp (ck (T.done X rfl rfl rfl hc i _ _ _ _ _ I3 (stat XB) EZ stop) ?Ux);rw[hr];exact ?Pq
 ·refine ?Mo;subst hr;refine ?MY;have I5':=?Pi;refine wpAny_passesOwn hp (ck (hg _ _ _ _ x u _ I5' r5 (step x _ y5)) λ_ s6⟨σ6,H6,I6,q6⟩=>(wpAny_passesOwn hp (ck (hb _ _ _ _ _ I6 q6) λf s7 q7=>?_)));have again:∀{σ7}{H7},Inv X _ _ H7 _->N _ _->∃m,m<n/\∃i σ' H',?Vo/\tn i _/\?jc/\W i m σ' H':=λ{σ7 H7}I7 n7=>ag (hN _ _ n7) λm' hm w7=>⟨m',hm,_,σ7,H7,I7.jF,T.keep _ _ _ wu λb hb o e=>(?vQ).1,λb hb=>(ag ?Wn λo e d=>(?vQ).2.1),w7⟩;cases f with
  |next=>exact ?vT
  |cont=>exact ?vT
  |brk=>exact ?Ok
  |ret v=>exact ?Nw
#where
#where
namespace L2
open PySem PySem.Spec PyProof.Rows
abbrev R2:=V->V->?ha
def pb(X:Cx)(f:Value->?Hd)(r:R2):Prop:=
 ∀pins s(σ:St)H x y v u Q,?r->?hA->?eB->r x y H Q->
  wpAny ?K X.A (f v u) ?ge X.xe s
def UnR(X:Cx)(f:?Hd)(r:V->?ha):Prop:=
 ∀pins s(σ:St)H x v Q,?r->?hA->r x H Q->
  wpAny ?K X.A (f v) ?ge X.xe s
def eJ(X:Cx)(f:Value)(r:?bD):Prop:=
 ∀pins s(σ:St)H xs us Q,?r->?ee->r xs H Q->
  wpAny ?K X.A (call f us) ?ge X.xe s
def zN(r:R2)(ta tb:TE):TE:=λσ H Q=>ta σ H λx H1=>tb σ H1 λy H2=>r x y H2 Q
def tUn(r:V->?ha)(ta:TE):TE:=λσ H Q=>ta σ H λx H1=>r x H1 Q
def E1(g:Int->Int->V):R2:=λx y H Q=>∃i j,x=?O/\y=?fP/\Q ?re H
def rU(g:Int->V):V->?ha:=λx H Q=>∃i,x=?O/\Q (g i) H
section
theorem T6(ha:?gp)(hb:?nc){σ:St}{R:V->V->?aZ}(I:?r)
 (h:ta σ H λx H1=>tb σ H1 λy H2=>R x y H2) {f:Value->?Hd}
 (hf:∀v u s2 x y H2,Inv X pins σ H2 s2->?hA->?eB->R x y H2->wpAny ?K X.A (f v u) Q X.xe s2):
 wpAny ?K X.A (eval a X.env) (λv s₁=>wpAny ?K X.A (?zL) (λu s₂=>wpAny ?K X.A (f v u) Q X.xe s₂) X.xe s₁) X.xe s:=ck ?fx λv s1 ?fy=>ck ?EK λu s2 ?YD=>hf v u _ x y _ I2 r1 r2 q2
theorem Lk(ho:?Vp)(ha:?gp)(hb:?nc):PE X ?Wo ?tB:=λpins s σ H Q I h=>wpAny_BinOp ?MG
theorem Hv(ho:UnR X (unaryOp op) r)(ha:?gp):PE X (?qD op a pos) (tUn r ta):=λpins s σ H Q I h=>UnaryOp_ (ck ?fx (λv s1 agX=>ah agX λx H1 I1 r1 q1=>ho _ _ σ _ x v Q I1 r1 q1))
theorem T7{g:Int->Int->Int}
  (rule:∀(i j:Int)(t u:Tok)(s:Shared)(Q:?ap)(E:?ap),Q (.int ?re s.toks) ?ou->wpAny ?K X.A (f (?nv) (.int j u)) Q E s):
  pb X f (E1 λi j=>.int ?re):=by
 refineλpins s σ H x y v u Q I rx ry h=>ah h λi j T8 T9 q=>?_;clear h;subst T8;subst T9;show ?cC;show ?jn;exact rule i j t _ s _ _ ⟨?bB,H,?cG,?ad,q⟩
theorem Po{g:Int->Int->Bool}
  (rule:∀(i j:Int)(t u:Tok)(s:Shared)(Q:?ap)(E:?ap),Q (?eI ?re) s->wpAny ?K X.A (f (?nv) (.int j u)) Q E s):
  pb X f (E1 λi j=>.bl ?re):=by
 refineλpins s σ H x y v u Q I rx ry h=>ah h λi j T_ Ua q=>?_;clear h;subst T_;subst Ua;show ?cC;show ?jn;exact rule i j t _ s _ _ ?jd
theorem Fq:pb X ?yk (E1 ?xI):=T7 λ_ _ _ _ _ _ _ q=>add_int q
theorem agY:pb X (binaryOp .Sub) (E1 ?YE):=?Qh
theorem unI{g:Int->Int}
  (rule:∀(i:Int)(t:Tok)(s:Shared)(Q:?ap)(E:?ap),Q (.int (g i) s.toks) ?ou->wpAny ?K X.A (f (?nv)) Q E s):
  UnR X f (rU λi=>.int (g i)):=by
 refineλpins s σ H x v Q I rx h=>ag h λi Ub q=>?_;clear h;subst Ub;show ?cC;exact rule i t s _ _ ⟨?bB,H,?cG,?ad,q⟩
theorem AS:UnR X (unaryOp .USub) ?xf:=unI λ_ _ _ _ _ q=>neg_int q
#where
section
theorem Ll{σ:St}(I:?r)(q:Q (.bl k) H)(e:k=k'):EP X pins σ Q (?eI k') s:=by subst e;exact⟨.bl k,H,I,rfl,q⟩
theorem R9:pb X (compareOp .Lt) (E1 λi j=>.bl (?py)):=Po λ_ _ _ _ _ _ _ q=>lt_int q
theorem R_:pb X (compareOp .LtE) (E1 λi j=>?Fx):=Po λ_ _ _ _ _ _ _ q=>le_int q
theorem Hw:pb X (compareOp .Gt) (E1 λi j=>?xw):=Po λ_ _ _ _ _ _ _ q=>gt_int q
theorem Lm:pb X (compareOp .GtE) (E1 λi j=>?xg):=Po λ_ _ _ _ _ _ _ q=>ge_int q
theorem Jm:pb X ?HB (λx y H Q=>∃i j,x=?nS/\y=.str j/\Q (.bl (?wa)) H):=by refineλpins s σ H x y v u Q I rx ry h=>ah h λi j Uc Ud q=>?_;clear h;subst Uc;subst Ud;show ?cC;show ?jn;exact in_str (Ll I q rfl)
theorem pb.or(h:pb X f r)(h':pb X f r'):pb X f ?Pr:=by
 intro pins s σ H x y v u Q I rx ry q;show ?BR
 ·exact h _ s σ H x y v u Q I rx ry q
 ·exact h' _ s σ H x y v u Q I rx ry q
theorem dz b{op}(h:op≠.In:=by decide)(h2:op≠.NotIn:=by decide):?ja:=by
 have e1:?Vl:=?W
 have e2:(op==asZ)=false:=?W
 show ?Vm
theorem Hx(ho:?se)(ha:?gp)(hb:?nc)(hm:?ja):PE X ?mc ?tB:=λpins s σ H Q I h=>wpAny_Compare1 ?MG hm
def uz(t:TE):TT:=λσ H Q=>t σ H ?QZ
theorem dD{r}(ho:?se)(ha:?gp)(hb:?nc)(hm:?ja):PT X ?mc (uz ?tB):=by
 refineλpins s σ H Q I h=>wpAny_isTrue_Compare1 (ck ?fx λv s1 ?fy=>ck ?EK λu s2 ?YD=>
  ck (ho _ _ σ H2 x y v u _ I2 r1 r2 q2) λc s3⟨z,H3,I3,r3,k,e,q3⟩=>?_) hm
 subst e;cases r3;exact wpAny_truthy_bool ⟨H3,I3,q3⟩
theorem sJ:(sizeLine:Nat)<2^63:=?c
theorem vals1(r:Vals [x] us):∃u,us=[u]/\?lv:=by
 cases r with
 |cons r1 r2=>cases r2;exact⟨_,rfl,r1⟩
theorem CJ:eJ X (?U "ord") (λxs H Q=>∃x,xs=[?cW]/\?LW/\Q ?DP H):=by refineλpins s σ H xs us Q I r h=>aG h λx XD hz q=>?_;clear h;subst XD;refine La ?iy λu XE t Ln=>?_;subst XE;subst Ln;exact ord_of_one hz ⟨?bB,H,?cG,?ad,q⟩
#where
#where
namespace L2
open PySem PySem.Spec PyProof.Rows
structure Fs(h:Heap)(x dx C:Addr)(mA:?bs):Prop where
 obj:h.get? x=some ?LQ
 ns:?KN
 ne:dx≠x
theorem Jn{h:Heap}(n:?KN):∃od,h.get? dx=some od/\?Ps:=by
 refine cJ n λo es ep ho hd hk _ hm=>⟨o,ho,λname=>?_⟩;have e:=hm name;unfold nsFind findBy at e;rw[<-Array.find?_toList]at e;unfold apz;rw[hd];dsimp only;split
 ·rename_i y q;rw[q]at e;exact congrArg _ e
 ·rename_i q;rw[q]at e;have a:?Sq=false:=by
   rw[amM];refineλy hy=>uu (hk y (Array.mem_toList_iff.mp hy)) λz t hkey=>?_;simp[DictEntry.refKey,hkey]
  have a':¬?Sq=true:=by simp[a]
  rw[if_neg a'];exact congrArg _ e
theorem Fs.look(I:Fs h x dx C mA):∃od,PySem.W.InstAt h x ?LQ C (some od)/\?Ps:=
 let⟨od,ho,hl⟩:=Jn I.ns
 ⟨od,⟨I.obj,rfl,rfl,ho⟩,hl⟩
section
theorem get_map{K}(X:?tO)(I:?Fy)(hg:?YF)(hh:?JZ)
 (ha:ag7 K ?u name=?cv) (hv:mA name=?V) (Ue:aqb v=true) (h:Q v ?ou):
 wpAny ?E A (getAttr (?gF) name expr) Q E s:=ag I.look λod J hl=>PySem.W.get_value X J (apn hg).1 (PySem.W.findObj_own hh ha rfl (by rw[hl,hv])) Ue h
theorem Lo{K}(X:?tO)(I:?Fy)(hg:?YF)
 (hf:ag7 K ?u name=some (some ?aH)) (ht:aor K ?aH=true) (hv:mA name=none) (h:Q (.ref f,[?gF]) s):
 wpAny ?E A (getMethod (?gF) name pl) Q E s:=ag I.look λod J hl=>PySem.W.method_fn X J (apn hg).1 (apn hg).2 hf (beq_iff_eq.mp ht) (by show(apz _ _).map _=?bk;simp_all) h
theorem Pp{K}(X:?tO)(I:?Fy)
  (hs:ag7 K ?u ?kS=some (some (?U ?mi))) (hp:arO K C=true) (ht:ao2 K C name=?cv) (hh:?JZ)
  (hw:arN mA ns) (hsz:?gQ)
  (h:∀h',Fs h' x dx C (λy=>if y=name then ?V else mA y)->ai3 dx s.heap h'->Q () {s with heap:=h',toks:=s.toks+2}):
  wpAny ?E A (setAttr (?gF) name v) Q E s:=by
 refine ag I.look λod J hl=>PySem.W.set_plain X J hs (PySem.W.osa_open X J hp ht λb=>(ag (PySem.W.any_some hh) λcd hc EY=>?_));have hx:?to=?bk:=I.obj;refine wpAny_bind (wpAny_pure (wpAny_bind (wpAny_bind (wpAny_loadPart hx (wpAny_bind (PySem.W.Looks.here (PySem.W.looks_clsIn X hc) ?_))))));rw[EY];exact wpAny_pure (wpAny_bind (wpAny_pure (wpAny_bind (wpAny_nsSet1 I.ns λh' hn2 hs2=>(gX (hn2.count (PySem.Within.cons _ v hw)) λoD esD epD hoD Pq hcD=>wpAny_bind (wpAny_lookBehind hoD (by rw[Pq];exact pastItsLine_dict (afh hcD ?FR)) (wpAny_pure (h _ ⟨(hs2.2 _ (ahI I.ne)).trans I.obj,hn2,I.ne⟩ hs2))))))))
theorem Lp{s:Shared}{K}(X:?tO)(hm:asn K C=true)
  (hi:ag7 K ?u ?ck=some (some ?aH)) (hf:asy K ?aH=some (?n "function"))
  (h:codeAny ?E (A.under (?U ?ic ⟨?cw::vs,kw⟩)) (?kp ?aH ⟨.ref (?ca)::vs,kw⟩) (PySem.W.InitBack (?ca) R)
   {s with heap:=?Dc}):
  codeAny ?E A (?kp ?u ⟨vs,kw⟩) R s:=by
 obtain⟨hh,g,d,t,os⟩:=s;exact PySem.W.make_core (PySem.W.makes_of X hm) (aqT X hi) (λself=>aso X _ hf) (?y) h
#where
def oY(f:Str)(v:V):?jr->?jr
 |[]=>[(f,v)]
 |(g,x)::r=>if g=f then(g,v)::r else(g,x)::oY f v r
theorem uA f g v:∀fs,(?BA).lookup g=if g=f then ?V else fs.lookup g
 |[]=>by
  show apU g [(f,v)]=_;by_cases h:g=f
  ·simp_all
  ·have hb:(g==f)=false:=?wm;simp only[apU,hb,?fK]
 |(k,x)::r=>by
  have ih:=uA f g v r;rw[?CQ];by_cases hk:k=f
  ·rw[?jH];by_cases h:g=k
   ·simp_all
   ·have hb:(g==k)=false:=?wm;simp[apU,hb,if_neg (λe:g=f=>h (e.trans hk.symm))]
  ·rw[?ne];by_cases h:g=k
   ·simp_all
   ·have hb:(g==k)=false:=?wm;simp only[apU,hb];exact ih
theorem sL f v:∀fs,f∈(?BA).map ?aT/\∀g,g∈fs.map ?aT->g∈(?BA).map ?aT
 |[]=>⟨?jS,λg h=>?ik⟩
 |(k,x)::r=>by
  obtain⟨i1,i2⟩:=sL f v r;rw[?CQ];by_cases hk:k=f
  ·rw[?jH];grind
  ·rw[?ne];refine⟨?_,λg h=>?_⟩
   ·exact aaV _ i1
   ·rcases ?BV with e|e
    ·exact aed.mpr (.inl e)
    ·exact aaV _ (i2 g e)
theorem uB f v:∀fs,(?BA).length<=fs.length+1
 |[]=>ak4 _
 |(k,x)::r=>by
  have ih:=uB f v r;rw[?CQ];by_cases hk:k=f
  ·simp_all
  simp_all
theorem mV.some_of(r:mV (?V) o):∃u,o=?Q/\?dg:=by
 cases o with
 |none=>exact(r).elim
 |some u=>exact⟨u,rfl,r⟩
theorem mV.none_of(r:mV none o):o=none:=by
 cases o with
 |none=>rfl
 |some u=>exact(r).elim
theorem Jo(r:?dg):aqb u=true:=by
 cases v with
 |b_=>cases(r);rfl
 |bl b=>cases(r);rfl
 |int i=>show ?Ah;cases e;rfl
 |str x=>show ?Ah;cases e;rfl
 |Xj b=>show ?Ah;cases e;rfl
 |Xk b=>show ?Ah;cases e;rfl
 |ref a=>cases(r);rfl
 |ty n=>cases(r);rfl
section
theorem AU(bq:?fe)(e:H a=?gR):∃mA,Fs h a dx C mA/\(∀f,mV (?jC) (mA f))/\arN mA (fs.map ?aT)/\fs.length<=1000/\H dx=?tl:=K6 ((bq a _ e)) λd z ne ob mA n r q=>⟨mA,⟨ob,n,ne⟩,r,q,z,d⟩
#where
structure CL(K:aaU)(C:Addr):Prop where
 pg:aoR K C asP=true
 hd:?JZ
 po:arO K C=true
 sa:ag7 K ?u ?kS=some (some (?U ?mi))
theorem CL.get{K}(c:?rr)f:aoR K C f=true:=c.pg
def fi(K:aaU)(C:Addr)(f:Str):Prop:=ag7 K ?u f=?cv
theorem fi.XG{K}(n:?Cd):ao2 K C f=?cv:=by unfold ao2;rw[n];rfl
structure Meth(K:aaU)(C:Addr)(m:Str)(f:Addr):Prop where
 at_:ag7 K ?u m=some (some ?aH)
 fn:aor K ?aH=true
 kp:aiT K ?aH=true
section
theorem Fu{σ:St}(I:?r)(e:H a=?gR)(c:?qI)(n:?AY)(l:?jC=?V)
 (h:∀u s',?FS->?dg->Q u s'):wpAny ?K A (getAttr (?C) f b) Q E s:=pI ?KQ λmA O r _ _ _=>ag (mV.some_of (by rw[<-l];exact r f)) λu hu ru=>get_map I.qv O (c.get f) c.hd n hu (Jo ru) (h u _ (?cG) ru)
theorem Fv{σ:St}(I:?r)(e:H a=?gR)(c:?qI)(k:Meth X.K C m g)(l:fs.lookup m=none)
  (h:Q (.ref g,[?C]) s):wpAny ?K A (getMethod (?C) m pl) Q E s:=by
 refine pI ?KQ λmA O r _ _ _=>?_;have hn:mA m=none:=mV.none_of (by rw[<-l];exact r m);exact Lo I.qv O (c.get m) k.at_ k.fn hn h
theorem Fw{σ:St}(I:?r)(e:H a=?gR)(c:?qI)(n:?AY)(hl:fs.length<1000)(ry:?eB)
  (h:∀s',Inv X pins σ (upd H a ?To) s'->?vl):wpAny ?K A (setAttr (?C) f u) Q E s:=by
 refine pI ?KQ λmA O r wi _ ho=>?_;have hz:(fs.map ?aT).length<=sizeLine:=by simp only[aa_,sizeLine_eq];lia
 refine Pp I.qv O c.sa c.po n.XG c.hd wi hz λh' O' sb=>h _ ?_;have hd:∃o,h'.get? _=?d:=let⟨o,_,_,e',_⟩:=O'.ns;⟨o,e'⟩;refine I.write ?wV (.inr ho) (λb q hb z=>?Gz z) hd (⟨by rw[ae O.ne];exact ho,?_,O.ne,O'.obj,_,O'.ns,λg=>?_,λg hg=>?_⟩)
 ·have:=uB f y fs;lia
 ·rw[uA];by_cases q:g=f
  ·rw[?nx,?nx];exact ry
  simp_all
 ·by_cases q:g=f
  ·simp only[q];exact(sL f y _).1
  ·refine(sL f y _).2 g (wi g λz=>hg ?_);grind
theorem Inv.made{σ:St}(I:?r):Inv X pins σ (upd (upd H s.heap.objs.size (.own (?ca))) (?ca) (.ins C s.heap.objs.size []))
  {s with heap:=?Dc}:=by
 have e1:(s.heap.push anx).get? _=?bk:=?de;have e2:(?Dc).get? (?ca)=some (?TU):=by have:=aeq (s.heap.push anx) (o:=?TU) rfl;rwa[agl]at this
 have e3:(s.heap.push _).Ns _ _:=⟨_,#[],_,e1,rfl,(λe he=>absurd he ?i),?ar⟩;have I1:=I.laid (o:=.own (?ca)) (t':=s.toks) (λb u q=>?eE) ?A ⟨_,e1⟩;refine I1.laid (λb u q=>?eE) (ang (agl _ _)) ?_;have ne:s.heap.objs.size≠?ca:=?KR;refine⟨by rw[ae ne,aa],?bg,ne,e2,_,(arP e3).at λo q=>?eE,λ_=>ajN,λy hy=>absurd rfl hy⟩
theorem Hy(hb:attributeBase e f env (?AZ)=?AZ)
  (h:wpAny ?E A (?AZ) (λo s₁=>wpAny ?E A (getAttr o f true) Q E s₁) E s):wpAny ?E A (eval (?aq e f pos) env) Q E s:=
 Attribute_any_ h (by simp only[arm_eval_Attribute,hb])
#where
def AV(K:aaU)(ta:TE)(f:Str):TE:=λσ H Q=>ta σ H λx H1=>∃a C dx fs v,x=?C/\H1 a=?gR/\?rr/\?Cd/\?jC=?V/\Q v H1
def Jp(K:aaU)(ta tv:TE)(f:Str):TS:=λD σ H=>tv σ H λy H1=>ta σ H1 λx H2=>∃a C dx fs,x=?C/\H2 a=?gR/\?rr/\?Cd/\fs.length<1000/\
 D.nx σ (upd H2 a ?To)
section
theorem kM(he:PE X e ta)(hb:attributeBase e f X.env (?ea)=?ea):PE X (?aq e f pos) (AV X.K ta f):=by refineλpins s σ H Q I h=>Hy hb (O3 he I h (λu s1 x H1 I1 rx Sa=>ux Sa λa C dx fs v Lq ea c n l q=>?_));clear Sa;subst Lq;show ?yX;exact Fu I1 ea c n l λu' s2 I2 ru=>⟨v,H1,I2,ru,q⟩
theorem mX(ha:PE X o ta)(hv:?IY)(hs:swapsWith value (some (?aq o f pos')) pos.line X.env=?ff):PS X (?di [?aq o f pos'] value pos) (Jp X.K ta tv f):=by refineλpins s σ H D I h=>plainObj_wpAny_Assign_Attribute (O3 hv I h λu s1 y H1 I1 ry q=>O3 ha I1 q (λov s2 x H2 I2 rx Sb=>jD Sb λa C dx fs Lr ea c n l q2=>?_)) hs;clear Sb;subst Lr;obtain rfl:ov=afZ a:=rx;exact Fw I2 ea c n l ry λs3 I3=>⟨σ,_,I3,q2⟩
#where
#where
namespace L2
open PySem PySem.Spec PyProof.Rows
structure dP(k:Nat)(A:Around):Prop where
 hd:?eW
 dp:?Ra
 un:?TZ
theorem dP.mono(r:dP k A)(h:j<=k):dP j A:=⟨r.hd,?YG,?YH⟩
theorem dP.deeper(r:dP ?cz A)env:dP k (A.deeper env):=
 ⟨r.hd,by have:=r.dp;show A.depth+1+3*k+5<_;lia,by have:=r.un;show A.units+3+16*k+200<_;lia⟩
theorem wx{A:Around}:(A.under (?U ?ic ⟨?cw::us,kw⟩)).depth=A.depth+1:=rfl
theorem wy{A:Around}:(A.under (?U ?ic ⟨?cw::us,kw⟩)).units=A.units+1:=rfl
theorem dP.make(r:dP ?cz A)C us kw:dP k (A.under (?U ?ic ⟨?cw::us,kw⟩)):=
 ⟨r.hd,by have:=r.dp;simp only[wx];lia,by have:=r.un;simp only[wy];lia⟩
theorem dP.depth(r:dP k A):A.depth<recursionLimit:=?YG
theorem dP.units(r:dP k A):A.units+64<cLine:=?YH
def ee:TA:=λ_ H Q=>Q [] H
def bL(ta:TE)(tr:TA):TA:=λσ H Q=>ta σ H λx H1=>tr σ H1 λxs H2=>Q (x::xs) H2
section
theorem aP:PA X [] ee:=λ_ _ _ _ H Q I h=>anz ?Wp
theorem ak(ha:?nd)(hr:PA X es t)(hs:?ft:=by rfl):PA X ?bp (bL te t):=by intro pos pins s σ H Q I h;rw[hs];show wpAny _ _ (spliced ((false,eval e _)::?LX)) _ _ s;exact akv (ck ?fx λu s1 ?fy=>(ck (hr _ _ _ σ _ _ I1 q1) (λus s2 XH=>ah XH λxs H2 I2 r2 q2=>⟨_,H2,I2,?p r1 r2,q2⟩)))
def ag1(t:TA):TE:=λσ H Q=>t σ H λxs H1=>?ev/\∀p,?jI->Q (?af) (upd H1 p (.tup xs))
def Jq(t:TA):TE:=λσ H Q=>t σ H λxs H1=>?ev/\∀p,?jI->Q (?af) (upd H1 p ?cm)
theorem Ug(h:PA X es t):PE X (?ka es x1 pos) (ag1 t):=by refineλpins s σ H Q I hq=>wpAny_Tuple_spliced ?Mz;have hf:H1 _=none:=I1.bq.fresh ?A;exact⟨?fo,upd _ _ (.tup _),I1.laid (λb u e=>?gy) ?A (⟨z,us,r,⟨_,?de,rfl,_,rfl⟩⟩),rfl,q _ hf⟩
theorem lN(h:PA X es t):PE X (.List es pos) (Jq t):=by refineλpins s σ H Q I hq=>wpAny_List_spliced ?Mz;have hf:H1 _=none:=I1.bq.fresh ?A;exact⟨?fo,upd _ _ (?fn),I1.laid (λb u e=>?gy) ?A (⟨z,us,0,r,?de⟩),rfl,q _ hf⟩
#where
abbrev Sp:=?B->Hp->VK->XK->Prop
abbrev Uh:=?dy->Hp->Shared->XK->?ap
structure CM(P:Program)(w:World)(K:aaU)(mg:?bs)(base:Heap)(A:Around)(outer:?dy)(s:Shared)(H:Hp):Prop where
 frames:A.frames=some outer
 mod:Mod K mg base
 bs:∀b o,base.get? b=?d->?aN=?d/\?bL
 KR:base.objs.size<=s.heap.objs.size
 oV:s.heap.FunFrames base outer
 O2:∀b∈Ho outer,?bL
 bq:n_ P w H s.heap
 bare:AllBare s.gens
def CE(outer:?dy)(P:Program)(w:World)(H:Hp)(s:Shared)(Q:VK)(u:Value)(s':Shared):Prop:=
 ∃v H',?LS/\?yi/\?OX/\?YI/\?dg/\Q v H'
def CR(CX:Uh)(outer:?dy)(P:Program)(w:World)(H:Hp)(s:Shared)(Q:VK)(E:XK)(r:Result)(s':Shared):Prop:=
 match r with
 |.ok (.ret u)=>?Em
 |.ok _=>False
 |.error e=>CX outer H s E e s'
structure gz(P:Program)(w:World)(K:aaU)(mg:?bs)(base:Heap)(CX:Uh)(k:Nat)(f:Addr)(fd:FuncData)(ps:?t)(sp:Sp):Prop where
 len:?oe
 run:∀(A:Around)(outer:?dy)(s:Shared)(H:Hp)(args:Args)(us:?az)(vs:?B)(Q:VK)(E:XK),dP k A->?we->BindsTo s fd args ?lc->?hm->?lb->
  codeAny ?cF A (?kp ?aH args) ?Sr s
theorem gz.imp{K}(F:?PR)
  (h:∀vs H Q E,sp' vs H Q E->?lb):gz P w K mg base CX k f fd ps sp':=
 ⟨λvs H Q E q=>F.len _ H Q E (h _ _ _ _ q),λA outer s H args us vs Q E hr he hb hv hs=>F.run A _ s H _ _ _ Q E hr he hb hv (h _ _ _ _ hs)⟩
theorem CM.make{K}(e:?we)C us kw:
 CM P w K mg base (A.under (?U ?ic ⟨?cw::us,kw⟩)) outer s H:=⟨by first|exact e.frames|rfl,e.mod,e.bs,e.KR,e.oV,e.O2,e.bq,e.bare⟩
section
theorem Inv.Pr{σ:St}(I:?r):CM X.prog X.w X.K X.mg X.base X.A X.stack s H:=
 ⟨I.ok.frames,I.ok.mod,I.bs,afh I.ok.KR I.sz,I.stack,I.og,I.bq,I.bare⟩
theorem Inv.after{σ:St}(I:?r)(h:CE X.stack X.prog X.w H s Q u s'):EP X pins σ Q u s':=by refine qx h λv H' os bare un bq r q=>?_;obtain⟨hh,g,d,t,os'⟩:=s';obtain rfl:os'=s.os:=os;exact⟨v,H',I.call un bq bare (λb z=>absurd z nofun),r,q⟩
#where
def kY(sp:Sp)(dvs:?B)(E:XK)(t:TA):TE:=λσ H Q=>t σ H λvs H1=>sp ?nf H1 Q E
def CN(C:Addr)(m:Str)(sp:Sp)(dvs:?B)(E:XK)(ta:TE)(t:TA):TE:=λσ H Q=>ta σ H λx H1=>∃a dx fs,x=?C/\H1 a=?gR/\fs.lookup m=none/\
 t σ H1 λvs H2=>sp (x::?nf) H2 Q E
def Sd(C:Addr)(sp:Sp)(dvs:?B)(E:XK)(t:TA):TE:=λσ H Q=>t σ H λvs H1=>∀x dx,H1 x=none->H1 dx=none->dx≠x->
 sp (?gF::?nf) (upd (upd H1 dx ?uY) x ?sW) ?Dz E
def Binds(K:aaU)(fd:FuncData)(ps:?t)(ds:?az):Prop:=
 ∀s us,?tO->(us++ds).length=ps.length->BindsTo s fd ?pM (ps.zip (us++ds))
theorem Binds.all{K}(h:∀us:?az,?xh->bindArgs fd ?pM=pure ?lc):?jl:=λs us _ hl=>by rw[afM]at hl⊢;exact .of_eq (h _ hl)
def Passes(CX:Uh)(X:Cx)(E:XK):Prop:=∀pins(σ:St)H s e s',?r->CX X.stack H s E e s'->X.xe e s'
section
theorem Ls{σ:St}(F:?rL)(hr:?Ce)(hb:?oQ)(hd:?pN)(hx:?js)
  (I:?r) (r:?hm) (h:sp ?nf H Q E):wpAny ?K X.A (call ?aH us) ?ge X.xe s:=by
 have r2:Vals _ _:=?KS;show ?Nj
 refine ?Mu;cases r with
 |error e=>exact ?Vq
 |ok fl=>
  cases fl with
  |ret u=>exact I.after hq
  |next=>exact ?rs
  |brk=>exact ?rs
  |cont=>exact ?rs
theorem Hz{sp}{dvs}{E}{p pos}(F:?rL)(hr:?Ce)(hg:?cX)(hm:?lM=some ?aH)(hk:aiT X.K ?aH=true)(hb:?oQ)(hd:?pN)(hx:?js)
 (ha:PA X ?bp t) (hdb:?bh:=by decide) (he:?ft:=by rfl) (hpl:?hO:=by rfl):
 PE X (?I (?o x p) ?bp [] pos) (kY sp dvs E t):=λpins s σ H Q I h=>wpAny_Call_Name_kw (lM I hg hm (apA I.ok.mod.Jk hk (ck ?kx λus s1⟨vs,H1,I1,r,q⟩=>⟨I1.qv,(Ls F hr hb hd hx I1 r q)⟩) he hpl) hdb)
theorem bE{m}(he:PE X o ta)(c:?qI)(hm:Meth X.K C m f)(F:?rL)(hr:?Ce)(hb:?oQ)(hd:?pN)(hx:?js)
  (ht:eval (?I (?aq o m apos) [] [] pos) X.env=(do
   let ov<-?fB
   ?Wq
   let ?CI<-?PS
   callWith pos f first (backTo pos (?eQ)) (backToKw pos ?TV)):=by rfl):
  PE X (?I (?aq o m apos) [] [] pos) (CN C m sp dvs E ta ee):=by
 refineλpins s σ H Q I h=>aqM (ck ?sr λu s1⟨x,H1,I1,rx,a,dx,fs,ex,ea,l,q⟩=>?_) ht;subst ex;show ?yX;exact Fv I1 ea c hm l (ara I1.qv hm.kp (Ls (vs:=[?C]) F hr hb hd hx I1 (?p rfl .nil) q))
structure Mk(K:aaU)(C f:Addr):Prop where
 makes:asn K C=true
 init:ag7 K ?u ?ck=some (some ?aH)
 fn:aor K ?aH=true
 kp:aiT K ?u=true
theorem Lu{σ:St}(M:Mk X.K C f)(F:?rL)(hr:dP ?cz X.A)(hb:?oQ)(hd:?pN)
  (hx:?js) (I:?r) (r:?hm)
  (h:∀x dx,H x=none->H dx=none->dx≠x->sp (?gF::?nf) (upd (upd H dx ?uY) x ?sW) ?Dz E):
  wpAny ?K X.A (call ?u us) ?ge X.xe s:=by
 have hq:=h _ _ (I.bq.fresh ?jU) (I.bq.fresh ?A) (?KR);have I2:=Inv.made (C:=C) I;have r2:Vals (V.ref (?ca)::?nf) _:=?p rfl (?KS);have hl:(afZ (?ca)::us++ds).length=ps.length:=by have e:=r2.length;rw[F.len _ _ _ _ hq]at e;exact e.symm
 refine wpAny_call (Lp I.qv M.makes M.init (beq_iff_eq.mp M.fn) (codeAny_mono (F.run _ _ _ _ _ _ _ _ E (hr.make C _ [])
  (I2.Pr.make C _ []) ?YJ r2 hq) λr s' HA=>?_))
 cases r with
 |error e=>exact ?Uy
 |ok fl=>
  cases fl with
  |ret u=>
   refine ?OH;subst ev;exact ?PF
  |next=>exact ?rt
  |brk=>exact ?rt
  |cont=>exact ?rt
theorem HB{C}{sp}{dvs}{E}{p pos}(M:Mk X.K C f)(F:?rL)(hr:dP ?cz X.A)(hg:?cX)(hm:?lM=some ?u)(hb:?oQ)(hd:?pN)(hx:?js)
 (ha:PA X ?bp t) (hdb:?bh:=by decide) (he:?ft:=by rfl) (hpl:?hO:=by rfl):
 PE X (?I (?o x p) ?bp [] pos) (Sd C sp dvs E t):=λpins s σ H Q I h=>wpAny_Call_Name_kw (lM I hg hm (apA I.ok.mod.Jk M.kp (ck ?kx λus s1⟨vs,H1,I1,r,q⟩=>⟨I1.qv,(Lu M F hr hb hd hx I1 r q)⟩) he hpl) hdb)
#where
structure aX(N P:?t)(sc:Scope):Prop where
 kind:sc.kind=?na
 co:sc.isCoroutine=false
 gen:sc.isGenerator=false
 nd:N.Nodup
 pre:N.take P.length=P
 par:∀x∈P,?eP=?dK\/?eP=?cl
 Ui:∀y∈sc.names,y.2≠?dp
theorem zO{kindOf}:∀{binds}{m},?Vr->bindL kindOf binds m x=m x
 |[],_,_=>rfl
 |(n,v)::r,m,h=>by
  unfold bindL;rw[zO ?Ua];split
  ·have:x≠n:=?Rz
   simp[this]
  ·rfl
theorem zP{kindOf}:∀{binds}{m},?Vr->bindC kindOf binds m x=m x
 |[],_,_=>rfl
 |(n,v)::r,m,h=>by
  unfold bindC;rw[zP ?Ua];split
  ·rfl
  ·have:x≠n:=?Rz
   simp[this]
theorem zQ{kindOf}{x}{v}:∀{P:?t}{vs}{i:Nat}{m},P.Nodup->P[i]?=?F->vs[i]?=?V->kindOf x=?dK->
  bindL kindOf (P.zip vs) m x=?V
 |[],_,_,_,_,h,_,_=>?ik
 |_::_,[],_,_,_,_,h,_=>?ik
 |p::P,w::vs,0,m,nd,h1,h2,hk=>by simp at h1 h2;subst h1;subst h2;show bindL _ ((p,w)::P.zip _) m p=_;unfold bindL;rw[zO ?PT,?jH];simp
 |p::P,w::vs,i+1,m,nd,h1,h2,hk=>by unfold bindL;exact zQ (agA.mp nd).2 ?bM ?bM hk
theorem zR{kindOf}{x}{v}:∀{P:?t}{vs}{i:Nat}{m},P.Nodup->P[i]?=?F->vs[i]?=?V->kindOf x≠?dK->
  bindC kindOf (P.zip vs) m x=?V
 |[],_,_,_,_,h,_,_=>?ik
 |_::_,[],_,_,_,_,h,_=>?ik
 |p::P,w::vs,0,m,nd,h1,h2,hk=>by simp at h1 h2;subst h1;subst h2;show bindC _ ((p,w)::P.zip _) m p=_;unfold bindC;rw[zP ?PT,?ne];simp
 |p::P,w::vs,i+1,m,nd,h1,h2,hk=>by unfold bindC;exact zR (agA.mp nd).2 ?bM ?bM hk
def start(N:?t)(vs:?B):St:=vs.map some++aqU (N.length-vs.length) none
def CO(CX:Uh)(P:Program)(w:World)(K:aaU)(mg:?bs)(base:Heap)(N:?t)(qual:Str)(scope:Scope)(f:Addr)(cd:Value)(A:Around)(outer:?dy)(s:Shared)(H:Hp)(E:XK):Cx where
 prog:=P
 w:=w
 K:=K
 mg:=mg
 base:=base
 A:=A.deeper (?lY)
 N:=N
 yS:=s
 kW:=H
 env:=?lY
 outer:=outer
 stack:=?lY::outer
 ex:=[]
 calm:=true
 fn:=λ_=>true
 pn:=[]
 xe:=λe s'=>wpAny ?cF (A.deeper (?lY)) (leaving (?lY) e) (λ_ XJ=>CX outer H s E e XJ) (λe' XJ=>CX outer H s E e' XJ) s'
theorem CP{sc:Scope}(h:?eP=?cl):∃c,(cellsFrom n sc.names []).lookup x=?bj:=by have q:=aos _ n [] (?fm);exact aka.mp q
theorem zS{K}
  (S:?IZ) (hd:?eW) (e0:?we) (hl:vs.length=ps.length) (r:?hm)
  (x:InCallC s s.heap.objs.size (bindL (?lY).kindOf ?lc ?iz) (cellsFrom (?ca) scope.names []) (bindC (?lY).kindOf ?lc ?iz) s1):
  Inv (?CZ) [] ?zO H s1:=by
 have hpl:ps.length<=N.length:=by have:=congrArg amN S.pre;rw[aqc]at this;lia
 refine bR x.done λh1 tk XM hk=>?_;subst XM;have Uj:∀b,b∉(?CZ).ex:=λb z=>absurd ?Uz nofun
 refine⟨⟨e0.mod,S.kind,rfl,rfl,?cs,λy z c h1 h2=>?_,?Ba,λy c _ h=>?_,λ_=>hd,Around.frames_deeper e0.frames,.inr ?jv,?Ub,e0.bs,e0.KR,λb _ _=>Uj b,?Ub,e0.oV,e0.O2⟩,
  rfl,e0.bare,Un.kept hk,⟨_,x.toInCall.ns,λi y v h1 h2 h3=>?_⟩,λy c h=>⟨_,x.cell y c h⟩,e0.bq.fresh ?A,λy c h=>?_,λp hp=>absurd (show p∈([])from hp) ?i,e0.bq.kept hk,?_⟩
 ·exact name_of_addr x.apart (agp h1) (agp h2)
 ·rcases hy with hy|hy
  ·exact CP hy
  ·exact absurd rfl (S.Ui _ (agp hy))
 ·exact ?Ss
 ·have hi:?KT:=by
   unfold start at h2;by_cases hi:?KT
   ·exact hi
   ·rw[aiU (?GB)]at h2;rw[aqd]at h2;simp_all
  have ha:vs[i]?=?V:=by unfold start at h2;rw[aiy (?GB),ad0]at h2;simp_all
  refine ag (r.get ha) λu hu rv=>?_;have hp:ps[i]?=?bl:=by rw[<-S.pre,List.getElem?_take_of_lt (?W)];exact h1
  have ndP:ps.Nodup:=by rw[<-S.pre];exact S.nd.sublist (List.take_sublist _ _)
  refine⟨u,rv,?_⟩;rcases S.par y (ail hp)with k|k
  ·exact .inl ⟨k,zQ ndP hp hu k⟩
  ·obtain⟨c,e⟩:=CP k;refine .inr ⟨.inl k,c,e,?_⟩;have q:=x.cell y c e;rw[zR ndP hp hu (by show scope.names.lookup y≠_;rw[k];decide)]at q;exact q
 ·exact e0.bq.fresh (?Ss)
 ·unfold start;show _=N.length;simp_all
theorem CQ{K}{kV}
    (lk:?uf=some ⟨oc,od,.func ?vB,osl⟩) (hcd:?Fz) (S:?IZ)
  (len:?oe)
  (hbody:∀(A:Around)(outer:?dy)(s:Shared)(H:Hp)(vs:?B)(Q:VK)(E:XK),dP k ?NB->?lb->
   ∃t,oj (CO CX P w K mg base N qual scope f cdv A outer s H E) body t/\t ?hR ?zO H):
  gz P w K mg base CX ?cz f ?vB ps sp:=by
 refine ?Nx;have hl:=len _ _ _ _ hsp;have KX:K.In _:=e0.mod.Jk.keeps ?wq;have lim:s.heap.NoLimit:=e0.mod.nolimit.keeps ?wq;have Lv:∀y∈ps.zip us,?oy=?dK\/(?oy=?cl/\((cellsFrom (?ca) scope.names []).lookup y.1).isSome=true):=by
  rintro⟨n,v⟩ hy;show ?Wr
  ·exact .inl q
  ·exact ?Qi
 refine codeAny_call_function hr.depth (KX _ _ lk) rfl S.co S.gen rfl (arB KX hcd) ?MM;subst he;refine⟨?St,codeAny_func (ag (hbody A outer s H _ Q E (hr.deeper _) hsp) λt ht hq=>?_)⟩;have I:Inv (CO CX P w K _ _ N qual _ f cdv A _ s H E) [] _ H _:=zS S hr.hd e0 hl r x;refine ?Nb;have fin:∀{σ'}{H'}{v}{u},Inv (CO CX P w K mg base N qual scope f cdv A _ s H E) [] σ' _ _->?dg->Q v _->?Em:=
  ?Ng
 cases fl with
 |ret u=>
  exact ?Pj
 |next=>
  exact ?Ou
 |brk=>
  exact ?wB
 |cont=>
  exact ?wB
#where
namespace L2
open PySem PySem.Spec PyProof.Rows
section
def O4(r:?bD)(t:TA):TE:=λσ H Q=>t σ H ?Xu
theorem jG{p pos}{id}(hc:eJ X (?U id) r)(hg:?cX)(hm:?pL)(hv:?gW=some (?U id))(ha:PA X ?bp t)(hn:?id:=by decide)(hdb:?bh:=by decide)
 (he:?ft:=by rfl) (hpl:?hO:=by rfl):PE X (?I (?o x p) ?bp [] pos) (O4 r t):=λpins s σ H Q I h=>wpAny_Call_Name_kw (i9 I hg hm hv (aoS (ck ?kx (λus s1 XN=>ah XN ?Oe)) he hpl) hn hdb)
theorem kZ{p pos}(hc:eJ X (?n T) r)(hg:?cX)(hm:?pL)(hv:?gW=some (?n T))(ha:PA X ?bp t)(hn:?id:=by decide)(hdb:?bh:=by decide)
 (he:?ft:=by rfl) (hpl:?hO:=by rfl):PE X (?I (?o x p) ?bp [] pos) (O4 r t):=λpins s σ H Q I h=>wpAny_Call_Name_kw (i9 I hg hm hv (agW (ck ?kx (λus s1 XO=>ah XO ?Oe)) he hpl) hn hdb)
#where
#where
namespace HT
open PySem PyProof.Rows
section
open PySem.SeqAt
open PySem.AutoSeq1 (wpAny_loadPart')
open PySem.MeetsSeq PySem.MeetsSeq2 PySem.MeetsSeq3
#where
section
theorem Pt(ht:IsTup s.heap t vs.toArray)(hb:IsTup s.heap b ws.toArray)(hv:vs≠[])
  (h1:ws=[]->Q (?dR) s) (h2:ws≠[]->Q (?bT) {s with heap:=s.heap.push {cls:=?n ?be,data:=.seq (vs++ws).toArray}})
  (hsz:vs.length+ws.length<=sizeLine):wpAny ?E A (binaryOp .Add (?dR) (?cH)) Q E s:=by
 refine kc (id ht) λXQ ho hc n hd=>?_;obtain⟨cls,dd,data,sl⟩:=XQ;refine kc (id hb) λXR Uk hc2 n2 hd2=>?_;obtain⟨ag3,dd2,data2,sl2⟩:=XR;simp only at hc hd hc2 hd2;subst hc hd hc2 hd2;have e:vs.toArray++ws.toArray=(vs++ws).toArray:=?J
 by_cases hw:ws=[]
 ·exact concat_meets ?yy ?Ij noFill_tuple_add seq_tuple_add aov aoj (an4 _ _)
   (tuple_addW1 t b _ _ n _ _ _ _ _ (?oV) (by simp[hw])) ⟨ho,Uk,h1 hw⟩
 ·refine concat_meets ?yy ?Ij noFill_tuple_add seq_tuple_add aov aoj (an4 _ _)
   (tuple_addW2 t b _ _ n _ _ _ _ _ (?oV) (?GC) ?bM) ⟨ho,Uk,?_⟩
  rw[e];exact h2 hw
def k8(n d:Nat):?cN->Nat
 |none=>d
 |?V=>if v<0 then(v+?cV).toNat else min v.toNat n
theorem CS n d:k8 n d none=d:=rfl
theorem AW(n d k:Nat):k8 n d (some (k:Int))=min k n:=rfl
theorem HC v(n d:Nat):(if v<0 then max (v+?cV) 0 else min v ?cV)=((k8 n d (?V):Nat):Int):=by show(if v<0 then max _ 0 else min v _)=(((if v<0 then(v+(n)).toNat else min _ n)));grind
theorem Fx lo hi(n:Nat):apN lo hi 1 ?cV=(?UA,((k8 n n hi:Nat):Int)):=by
 refine Prod.ext ?_ ?_
 ·cases lo with
  |none=>rfl
  |some v=>exact HC v n 0
 ·cases hi with
  |none=>rfl
  |some v=>exact HC v n n
theorem Fy(i j:Nat):anV ?lE (j:Int) 1=j-i:=by unfold anV;simp;split<;>lia
theorem wz(p:IsPart v o)(h:Q o s):wpAny ?E A (Builtin.Slice.slicePartIndex v) Q E s:=by
 cases p with
 |none=>exact slicePart_none h
 |int i t=>exact slicePart_int h
theorem sM{lo}{n:Nat}(hs:s.heap.IsSliceOf sl vl vu ?P)(pl:?Ka)(pu:?Kb)
  (h:Q (?UA,1,k8 n n hi-k8 n 0 lo) s):wpAny ?E A (Builtin.Slice.sliceApplied (.ref sl) (pure ?cV)) Q E s:=by
 refine aG (id hs) λos XS hcs zT=>wpAny_bind (wpAny_bind (wpAny_field XS zT (x:=vl) rfl (wpAny_bind (wpAny_field XS zT (x:=vu) rfl (wpAny_bind (wpAny_field XS zT (x:=?P) rfl (wpAny_pure (wpAny_bind (slicePart_none (wpAny_bind (wz pl (wpAny_bind (wz pu (wpAny_bind (?bx)))))))))))))));show wpAny _ _ (match apN _ _ 1 _ with|(lo,hi)=>pure (lo,(1:Int),anV lo hi 1)) _ _ s;rw[Fx _ _ n];show wpAny _ _ (pure _) _ _ s;rw[Fy];exact ?pz
theorem Lw(xs:?ec)(i k:Nat):((afs k).filterMap λ(m:Nat)=>xs[(?lE+(m:Int)*1).toNat]?).toArray=((xs.toList.drop i).take k).toArray:=by
 have e:(λ(m:Nat)=>xs[(?lE+(m)*1).toNat]?)=λm=>xs[i+m]?:=by
  funext m;have:((i)+(m:Int)*1).toNat=i+m:=?M
  rw[this]
 rw[e];have:=pick_run xs i k;rw[ami]at this;have e2:((λx=>xs[x]?)∘λx=>i+x)=λm=>xs[i+m]?:=rfl;rw[e2]at this;rw[this]
theorem qB{s:Shared}{lo}(ht:IsTup s.heap t items)(hs:s.heap.IsSliceOf sl vl vu ?P)(pl:?Ka)(pu:?Kb)
  (hw:¬(?FQ=0/\?Ry=items.size))
  (h:Q (?bT) {s with heap:=s.heap.push {cls:=?n ?be,data:=?Ml}})
  (hsz:?Vs):wpAny ?E A (getItem (?dR) (.ref sl)) Q E s:=by
 have XT:sizeOk (?Ml):=by show((items.toList.drop _).take _).toArray.size<=sizeLine;rw[afS,aqc,ar3,akO];omega
 refine aG (id hs) λos XS hcs zT=>?_;have hTs:s.TypeIs (?fo) _:=⟨os,XS,hcs⟩;unfold getItem;try with_reducible refine ?xR
 refine wpAny_bind (wpAny_sequenceKey ht.typeIs rfl ?_);refine wpAny_bind (wpAny_callSpecial?_slot ht.typeIs amY
  (wpAny_call_entry amY ht.typeIs entry_tuple_getitem ?_ (args_tuple_getitem _ _)))
 show wpAny _ _ (apB _>>=_) _ _ s;refine wpAny_bind (tupleItemsOf_ ht (wpAny_bind (wpAny_typeOf hTs (wpAny_bind (sM hs pl pu ?_)))));have CT:¬((((?FQ):Int)==0&&(1:Int)==1&&(?Ry-?FQ)==items.size)=true):=λq=>hw ⟨?W,?M⟩;show wpAny _ _ (if(((k8 _ 0 _):Int)==0&&(1)==1&&(k8 _ _ _-k8 _ 0 _)==items.size)=true then _ else _) _ _ s;rw[if_neg CT,Lw];first
  |exact wpAny_bind (wpAny_newObj_type (wpAny_pure ⟨_,rfl,?pz⟩) XT)
  |rfl
  |rfl
  |rfl
#where
#where
namespace L2
open PySem PySem.Spec PyProof.Rows
abbrev TO:=St->Hp->(?cN->?aZ)->Prop
def PO(X:Cx)(e:?KH)(t:TO):Prop:=
 ∀pins s(σ:St)H Q,?r->?hy->
  wpAny ?K X.A (evalPart e X.env) (λu s'=>∃o H',?jf/\IsPart u o/\Q o H') X.xe s
def Pu:TO:=λ_ H Q=>Q none H
def Lx(t:TE):TO:=λσ H Q=>t σ H λx H1=>∃i,x=?O/\Q (?fQ) H1
section
theorem AX(h:?nd):PO X (?gG) (Lx te):=by refineλpins s σ H Q I hw=>ck ?Fs λu s1 ?fy=>ag q1 λi XU q=>?_;clear q1;subst XU;show ?ti;exact⟨_,H1,I1,?nv,q⟩
def SlR(X:Cx)(r:V->?cN->?cN->?ha):Prop:=
 ∀pins s(σ:St)H x v vl vu lo hi sl Q,?r->?hA->s.heap.IsSliceOf sl vl vu ?P->?Ka->?Kb->r x lo hi H Q->
  ∃T id,typeLookup (?n T) "__getitem__"=pure (some (?U id))/\s.TypeIs v T/\wpAny ?K X.A (getItem v (.ref sl)) ?ge X.xe s
def tSl(r:V->?cN->?cN->?ha)(te:TE)(tl th:TO):TE:=λσ H Q=>te σ H λx H1=>tl σ H1 λl H2=>th σ H2 λu H3=>r x l u H3 Q
theorem CU{lo}{r}(hr:SlR X r)(he:?nd)(hl:PO X lo tl)(hu:PO X hi th):PE X (?hn e ?Uc pos) (tSl r te tl th):=by refineλpins s σ H Q I h=>Subscript_ (ck ?sr λv s1 ?fy=>(wpAny_Slice (ck (hl _ _ σ _ _ I1 q1) λvl s2⟨l,H2,I2,pl,q2⟩=>ck (hu _ _ σ _ _ I2 q2) λvu s3⟨u,H3,I3,pu,q3⟩=>(?bx))));have I4:Inv X _ σ _ {s3 with heap:=s3.heap.push {cls:=?n "slice",data:=?aO #[vl,vu,?P]}}:=I3.kept λb ob q=>?eE;exact ah (hr _ _ σ _ x v _ _ l u _ Q I4 r1 (as9 ..) pl pu q3) λT id hT ht hg=>tail_any ht hT hg ?ko
def CV(xs:?B)(lo hi:?cN):?B:=(xs.drop (?EZ)).take (?Rb-?EZ)
theorem uC xs lo hi:(?KU).length<=xs.length:=by unfold CV;simp;lia
def XW(K:aaU):V->?cN->?cN->?ha:=λx lo hi H Q=>∃a xs,x=?C/\?hg/\
 ¬(?EZ=0/\?Rb=xs.length)/\∀p,?fi->Q (?af) (upd H p (.tup (?KU)))
def Se(K:aaU):R2:=λx y H Q=>∃a b xs ys,x=?C/\y=?cH/\?hg/\j9 K H b ys/\xs≠[]/\xs.length+ys.length<=sizeLine/\
 (ys=[]->Q (?C) H)/\(ys≠[]->∀p,?fi->Q (?af) (upd H p (.tup (xs++ys))))
theorem Vals.AY(r:?ee):us=[]<->xs=[]:=by
 cases r with
 |nil=>simp
 |cons _ _=>simp
#where
#where
namespace L2
open PySem PySem.Spec PyProof.Rows
def HD(n:Nat)(i:Int):?Bb:=if 0<=i then(if i<n then some i.toNat else none)else if-?cV<=i then some (i+n).toNat else none
def zU{α:Type}(xs:?aa)(i:Int):?dL:=(HD xs.length i).bind λj=>xs[j]?
theorem Pw(h:HD n i=some j):seqIndex? i n=some j/\j<n/\-?cV<=i/\i<n:=by
 unfold HD at h;by_cases h0:0<=i
 ·rw[if_pos h0]at h;by_cases h1:i<n
  ·rw[if_pos h1]at h;have e:i.toNat=j:=afE h;exact⟨by rw[seqIndex_of h0 h1,e],?M,?M,h1⟩
  simp_all
 ·rw[?BB]at h;by_cases h1:-(n)<=i
  ·rw[if_pos h1]at h;have e:(i+n).toNat=j:=afE h;exact⟨by rw[seqIndex_neg (?W) h1,e],?M,h1,?M⟩
  simp_all
theorem AZ(h:zU xs i=?V):∃j,seqIndex? i xs.length=some j/\xs[j]?=?V/\j<xs.length/\-?HC<=i/\i<xs.length:=by
 unfold zU at h;cases e:HD _ i with
 |none=>rw[e]at h;show ?aR
 |some j=>
  rw[e]at h;exact Cu (Pw e) λh1 h2 h3 h4=>⟨j,h1,h,h2,h3,h4⟩
theorem A0{j:Nat}(h:xs[j]?=?V):zU xs (j:Int)=?V:=by
 have hj:j<xs.length:=?tC;have e:HD xs.length (j)=some j:=by unfold HD;simp_all
 unfold zU;rw[e];exact h
theorem CW xs(v:α):zU (xs++[v]) (-1)=?V:=by
 have hl:(xs++[v]).length=xs.length+1:=?J
 have e:HD (xs++[v]).length (-1)=some xs.length:=by unfold HD;rw[hl,if_neg (?c),if_pos ?a];congr 1;lia
 unfold zU;simp only[e];simp
def A1(b:Expr):Prop:=∀o i,subscripted b false o i=operate [o,i] (getItem o i)
def Ly(X:Cx)(r:R2):Prop:=
 ∀value slice pins s(σ:St)H x y v u Q,?r->?hA->?eB->r x y H Q->
  subscripted slice false v u=operate [v,u] (getItem v u)->wpAny ?K X.A (subscriptTail value slice v u) ?ge X.xe s
def O5(X:Cx)(id:String)(r:V->?bD):Prop:=
 ∀pins s(σ:St)H x xs v us Q,?r->?hA->?ee->r x xs H Q->
  wpAny ?K X.A (call (?U id) (v::us)) ?ge X.xe s
section
theorem Ly.or(h:Ly X r)(h':Ly X r'):Ly X ?Pr:=by
 intro value slice pins s σ H x y v u Q I rx ry q hs;show ?BR
 ·exact h _ _ _ s σ H x y v u Q I rx ry q hs
 ·exact h' _ _ _ s σ H x y v u Q I rx ry q hs
theorem CY(hr:Ly X r)(ha:?gp)(hb:?nc)(hs:A1 b):PE X (?hn a b pos) ?tB:=λpins s σ H Q I h=>Subscript_ (T6 ha hb I h λv u s2 x y H2 I2 rx ry q=>hr a b _ _ σ _ x y v u Q I2 rx ry q (hs _ _))
def Fz(K:aaU):R2:=λx y H Q=>∃p xs i v,x=?af/\y=?O/\cW K H p xs/\zU xs i=?V/\Q v H
def XY(K:aaU):R2:=λx y H Q=>∃p xs i v,x=?af/\y=?O/\j9 K H p xs/\zU xs i=?V/\Q v H
def XZ:R2:=λx y H Q=>∃z i c,x=?nT/\y=?O/\?xx/\?YK=?bj/\Q (.str ?gm) H
theorem qC:Ly X (Fz X.K):=by
 refineλvalue slice pins s σ H x y v u Q I rx ry h hs=>gf h λp xs i z X0 X1 hq he q=>?_;clear h;subst X0;subst X1;cases rx;obtain⟨t,rfl⟩:=ry;refine aG ?jD ?MI;have hl:=r.length;have hn:=sJ;show ?RA;by_cases h0:0<=i
 ·have hj:i.toNat=j:=by
   rw[seqIndex_of h0 h5]at h1;exact afE h1
  exact item_listR pl.isList h0 ?a ?RP fin hs
 ·have hj:(i+(aL.toArray.size)).toNat=j:=by
   rw[seqIndex_neg ?a h4]at h1;rw[afS,<-hl];exact afE h1
  exact subscriptTail_builtinR pl.isList.typeIs slot_list_getitem.lookup
   (wpAny_getItem_list_neg pl.isList ?a (?W) ?a ?RP ⟨rfl,fin⟩) hs
theorem Ul:Ly X (XY X.K):=by
 refineλvalue slice pins s σ H x y v u Q I rx ry h hs=>gf h λp xs i z X2 X3 hq he q=>?_;clear h;subst X2;subst X3;cases rx;obtain⟨t,rfl⟩:=ry;refine aG (?is) ?MI;have hl:=r.length;have hn:=sJ;show ?RA;exact subscriptTail_builtinR pl.typeIs slot_tuple_getitem.lookup
  (getItem_tuple pl ?a ?a (by rw[afS,<-hl];exact h1) (by simpa using ew) ⟨rfl,fin⟩) hs
theorem Um:Ly X XZ:=by
 refineλvalue slice pins s σ H x y v u Q I rx ry h hs=>cJ h λz i c Lz X4 hz he q=>?_;clear h;subst Lz;subst X4;show ?cC;show ?jn;refine pI (AZ he) λj h1 h2 h3 h4 h5=>?_;have hl:z.cps.toList.length=z.length:=rfl;rw[hl]at h1 h4 h5;have hn:=sJ;exact tail_any (typeIs_str s z t) slot_str_getitem.lookup (getItem_str ?a (by rw[h1];simpa using h2) ⟨?cY,H,?cG,?ad,q⟩) hs
def rIx(K:aaU):R2:=λx y H Q=>Fz K x y H Q\/XY K x y H Q\/XZ x y H Q
theorem Uo:Ly X (rIx X.K):=qC.or (Ul.or Um)
theorem A2 lo hi n:(?Ee).1=((HT.k8 n 0 lo:Nat):Int)/\(?Ee).2.1=((HT.k8 n n hi:Nat):Int)/\(?Ee).2.2=1:=by
 have go:∀i,max 0 (min (if i<0 then i+?cV else i) (n))=((if i<0 then(i+(n)).toNat else min i.toNat n)):=λi=>by
  by_cases h:i<0
  ·rw[?uZ,?uZ];lia
  ·rw[?fK,?fK];lia
 refine⟨?_,?_,rfl⟩
 ·cases lo with
  |none=>rfl
  |some i=>exact go i
 ·cases hi with
  |none=>rfl
  |some i=>exact go i
theorem yT(aL:?az)lo hi:slicePick aL.toArray lo hi none=((aL.drop (?Vt)).take (HT.k8 aL.length aL.length hi-?Vt)).toArray:=by refine i8 (A2 lo hi aL.toArray.size) ?sX;unfold slicePick;simp only[h1,h2,h3];simp only[sliceRange_one,pick_run]<;>rfl
def Up(K:aaU):V->?cN->?cN->?ha:=λx lo hi H Q=>∃a xs,x=?C/\?fc/\∀p,?fi->Q (?af) (upd H p (.lst (?KU)))
theorem HE:SlR X (Up X.K):=by refineλpins s σ H x v vl vu lo hi sl Q I rx hs pl pu h=>ah h λa xs X5 hx q=>?_;clear h;subst X5;cases rx;refine aG (I.list hx) λaL r ht hz=>?_;have hlen:=r.length;refine⟨_,_,slot_list_getitem.lookup,ht.isList.typeIs,(wpAny_getItem_list_slice ht.isList hs pl pu ?P (?c) ?_ (?W))⟩;rw[yT,<-hlen];exact⟨?fo,_,I.laid (o:=?fn) (λb ob q=>?eE) ?A (⟨?YL,_,0,?GZ,?de⟩),rfl,q _ (I.bq.fresh ?A)⟩
def qD:V->Bool
 |.b_=>true
 |?bY=>true
 |?bB=>true
 |?cY=>true
 |_=>false
def Sf:V->V->Bool
 |.b_,.b_=>true
 |.bl a,?bP=>a==b
 |.bl a,.int b=>(if a then 1 else 0)==b
 |.int a,?bP=>a==(if b then 1 else 0)
 |.int a,.int b=>a==b
 |?dC,?ru=>a==b
 |_,_=>false
theorem Uq(ry:?eB)(rx:?hA)(fy:qD y=true)(fx:qD x=true):SeqAt.EqAt A s u v (Sf y x):=by
 cases y with
 |b_=>
  cases ry;cases x with
  |b_=>cases rx;exact SeqAt.EqAt.same _
  |bl b=>cases rx;exact SeqAt.EqAt.none_bool b
  |int b=>show ?cC;exact SeqAt.EqAt.none_int b t
  |str b=>show ?cC;exact SeqAt.EqAt.none_str b t
  |_=>exact ?vL
 |bl a=>
  cases ry;cases x with
  |b_=>cases rx;exact SeqAt.EqAt.bool_none a
  |bl b=>cases rx;exact SeqAt.EqAt.bool_bool a b
  |int b=>show ?cC;exact SeqAt.EqAt.bool_int a b t
  |str b=>show ?cC;exact SeqAt.EqAt.bool_str a b t
  |_=>exact ?vL
 |int a=>
  show ?jn;cases x with
  |b_=>cases rx;exact SeqAt.EqAt.int_none a _
  |bl b=>cases rx;exact SeqAt.EqAt.int_bool a _ b
  |int b=>show ?cC;exact SeqAt.EqAt.int_int a _ b t
  |str b=>show ?cC;exact ary a _ b t
  |_=>exact ?vL
 |str a=>
  show ?jn;cases x with
  |b_=>cases rx;exact SeqAt.EqAt.str_none a _
  |bl b=>cases rx;exact SeqAt.EqAt.str_bool a _ b
  |int b=>show ?cC;exact arz a _ b t
  |str b=>show ?cC;exact SeqAt.EqAt.str_str a _ b t
  |_=>exact ?vL
 |_=>exact absurd (show false=true from fy) ago
def eqU(x:V)(u:Value):Bool:=match u with
 |?P=>Sf .b_ x
 |?eI b=>Sf (?bP) x
 |.int i _=>Sf (?O) x
 |.str z _=>Sf (?nT) x
 |_=>false
theorem FA{x y:V}{u:Value}(r:?eB)(f:qD y=true):eqU x u=Sf y x:=by
 cases y with
 |b_=>cases r;rfl
 |bl b=>cases r;rfl
 |int i=>show ?eV;rfl
 |str z=>show ?eV;rfl
 |_=>exact absurd (show false=true from f) ago
theorem CZ{A:Around}{s:Shared}{x:V}{v:Value}(rx:?hA)(fx:qD x=true):∀{xs:?B}{us:?az},?ee->xs.all qD=true->∀u∈us,SeqAt.EqAt A s u v (eqU x u)
 |_,_,.nil,_=>λu hu=>by cases hu
 |y::xs,u::us,?p r t,f=>λu' hu=>by
  rw[aik,abk]at f;rcases aed.mp hu with rfl|hu
  ·rw[FA r f.1];exact Uq r rx f.1 fx
  ·exact CZ rx fx t f.2 u' hu
theorem qE{X:Cx}:eJ X (?U ?dG) (λxs H Q=>∃p ys,xs=[?af]/\?Qy/\Q (?pj) H):=by
 show ?wz;refine ah h λp ys X6 hq q=>?_;clear h;subst X6;refine ag ?iy λu X7 rx=>?_;subst X7;cases rx;have hn:=sJ;show ?Ai
 ·refine aG ?jD ?sy;show ?pp;exact arb pl.isList ?sb ⟨?pj,H,?cG,⟨?nu,?HD⟩,q⟩
 ·refine aG (?is) ?sy;show ?pp;exact len_tuple pl ?sb ⟨?pj,H,?cG,⟨?nu,?HD⟩,q⟩
theorem eJ.or{X:Cx}{f:Value}{r r':?bD}(h:eJ X f r)(h':eJ X f r'):eJ X f (λxs H Q=>r xs H Q\/r' xs H Q):=by
 intro pins s σ H xs us Q I rs q;show ?BR
 ·exact h pins s σ H xs us Q I rs q
 ·exact h' pins s σ H xs us Q I rs q
theorem qF{X:Cx}:eJ X (?n ?aC) (λxs H Q=>∃p ys,xs=[?af]/\?Qy/\∀l,?ny->Q (?ax) (upd H l ?BS)):=by
 show ?wz;refine ah h λp ys X8 hq q=>?_;clear h;subst X8;refine ag ?iy λu X9 rx=>?_;subst X9;cases rx;have fin:∀(aL:?az),Vals ys aL->?FA->∀(h':Heap)(c':Nat),(∀b o',?aN=some o'->?aY=some o')->
   ?SS=some {cls:=?n ?aC,dict:=none,data:=.seq aL.toArray c',slots:=#[]}->EP X pins σ Q (?bT) ?bw:=λaL r' hz h' c' kp e=>
  ⟨?bT,_,I.laid (t':=s.toks) kp ?A (show dg X.prog X.w _ h' _ ?BS from⟨hz,aL,c',r',e⟩),rfl,q _ (I.bq.fresh ?A)⟩
 show ?Ai
 ·refine aG ?jD ?sy;show ?pp;refine kc pl.isList ?Xv;exact call_list_seq p (?y) ho hc hd ?OI ?sb
 ·refine aG (?is) ?sy;show ?pp;refine kc pl ?Xv;exact call_list_seq p (?dz) ho hc hd ?OI ?sb
theorem pd{X:Cx}:eJ X (?n ?be) (λxs H Q=>∃p ys,xs=[?af]/\((cW X.K H p ys/\∀l,?ny->Q (?ax) (upd H l ?ls))\/(j9 X.K H p ys/\Q (?af) H))):=by
 show ?wz;obtain⟨p,ys,rfl,h⟩:=h;obtain⟨u,rfl,rx⟩:=vals1 r;cases rx;rcases h with⟨hq,q⟩|⟨hq,q⟩
 ·obtain⟨aL,r',pl,hz⟩:=I.list hq;show ?pp;refine call_tuple_list pl.isList (λh' kp=>?_) ?sb;have I1:Inv X pins σ H ?bw:=I.kept (t':=s.toks) kp;have I2:Inv X pins σ (upd H h'.objs.size ?ls) {s with heap:=h'.push {cls:=?n ?be,data:=.seq aL.toArray}}:=
   I1.laid (t':=s.toks) (?ib) ?A (show dg X.prog X.w _ _ _ ?ls from⟨hz,aL,r',asQ _ _⟩)
  exact⟨?YM,_,I2,rfl,q _ (I1.bq.fresh ?A)⟩
 ·obtain⟨aL,r',pl,hz⟩:=?is;exact call_tuple_same pl ⟨?af,H,I,rfl,q⟩
def tyV(K:aaU)(T:String)(x:V)(H:Hp):Prop:=match x with
 |?cY=>T=?bZ
 |?bB=>T=?fW
 |?af=>(T=?aC/\∃xs,cW K H p xs)\/(T=?be/\∃o,K.lookup p=?d/\o.cls=?n ?be/\o.dict=none)\/
  (T=?gD/\((∃kvs,H p=some ?ei)\/∃kvs,H p=some ?np))\/(T=?fq/\∃S n,H p=some (.set S n))
 |_=>False
theorem LA{X:Cx}{pins:?aF}{σ:St}{H:Hp}{s:Shared}{T:String}{x:V}{v:Value}(I:?r)(r:?hA)(ty:tyV X.K T x H):
  s.TypeIs v T/\∀a,v=?C->∃ob,?ze=?rc/\ob.dict=none:=by
 cases x with
 |str z=>
  show ?eV;cases(show T=?bZ from ty);exact⟨typeIs_str s z t,?xT⟩
 |int i=>
  show ?eV;cases(show T=?fW from ty);exact⟨typeIs_int s i t,?xT⟩
 |ref p=>
  cases r;rcases ty with⟨rfl,xs,hq⟩|⟨rfl,o,hk,hc,hd⟩|⟨rfl,hk⟩|⟨rfl,S,n,hk⟩
  ·refine aG ?jD λaL _ pl _=>?_;refine⟨pl.isList.typeIs,λa e=>?_⟩;cases e;refine bI pl λo n e c hd _=>?_;exact⟨o,e,hd⟩
  ·refine⟨⟨o,I.qv p o hk,hc⟩,λa e=>?_⟩;cases e;exact⟨o,I.qv _ o hk,hd⟩
  ·have z:∃o,s.heap.get? p=?d/\o.ExactDict:=by
    rcases hk with⟨kvs,hk⟩|⟨kvs,hk⟩
    ·refine ?Ol;exact⟨o,e,ex⟩
    ·refine ?Ol;exact⟨o,e,ex⟩
   refine ag z λo e ex=>?_;refine ?QM;cases e2;exact⟨o,e,ex.2.1⟩
  ·refine vP (I.bq p _ hk) λo _ _ _ e ex _=>?_;refine ?QM;cases e2;exact⟨o,e,ex.2.1⟩
 |_=>exact ag0 ty
def X_(K:aaU)(T:String)(r:V->?bD)(to:TE):TE:=λσ H Q=>to σ H λx H1=>tyV K T x H1/\r x [] H1 Q
def Px(K:aaU)(T:String)(r:V->?bD)(to:TE)(t:TA):TE:=λσ H Q=>to σ H λx H1=>tyV K T x H1/\t σ H1 λxs H2=>r x xs H2 Q
theorem LB{X:Cx}{o:Expr}{to:TE}{name:Str}{apos cpos:Pos}{T id:String}{r:V->?bD}(pa:?zP)(slot:Slot T name id)(hty:typeOf (?U id)=pure (?n ?xi))(hm:?BC)(ho:PE X o to)
  (hbase:attributeBase o name X.env (?fB)=?fB:=by rfl) (hline:?iX:=by rfl):PE X (?I (?aq o name apos) [] [] cpos) (X_ X.K T r to):=by
 show ?yt;refine wpAny_Call_method0_late hbase hline ?Nk;obtain⟨h1,h2⟩:=LA I1 r1 ty;exact⟨T,id,pa,slot,hty,h1,h2,akG rfl (apo (hm pins s1 σ H1 x [] v [] Q I1 r1 .nil q1))⟩
theorem mY{X:Cx}{o e:Expr}{es:?bz}{to:TE}{t:TA}{name:Str}{apos cpos:Pos}{T id:String}{r:V->?bD}(pa:?zP)(slot:Slot T name id)(hty:typeOf (?U id)=pure (?n ?xi))(hm:?BC)(ho:PE X o to)(ha:PA X ?bp t)
  (hbase:attributeBase o name X.env (?fB)=?fB:=by rfl)
  (hfew:((backTo cpos (?Eu)).all ?tP&&?CR
   &&decide ((e::es).length+?wr+?vG<30))=true:=by rfl)
  (hline:?iX:=by rfl) (hs:?ft:=by rfl) (hplain:(backTo cpos (?sw)).any ?aT=false:=by rfl):
  PE X (?I (?aq o name apos) ?bp [] cpos) (Px X.K T r to t):=by
 show ?yt;refine wpAny_Call_method_late hbase hfew hline rfl ?Nk;obtain⟨h1,h2⟩:=LA I1 r1 ty;refine⟨T,id,pa,slot,hty,h1,h2,?_⟩;have hA:=ha cpos pins s1 σ H1 _ I1 q1;rw[hs]at hA⊢;refine akG (by show(false||(backTo cpos (?sw)).any ?aT)=false;rw[hplain]<;>rfl) (anC ?_);exact ck hA (by intro us s2 Ya;refine ah Ya λvs H2 I2 r2 q2=>?_;exact hm pins s2 σ H2 x vs v us Q I2 r1 r2 q2)
#where
#where
namespace L2
open PySem PySem.Spec PyProof.Rows
def MtM(X:Cx)(id:String)(r:V->?bD):Prop:=
 ∀(pins:?aF)(s:Shared)(σ:St)(H:Hp)(x:V)(xs:?B)(v:Value)(us:?az)(Q:VK),?r->?hA->?ee->r x xs H Q->
  wpAny ?K X.A (call (?U id) (v::us)) ?ge X.xe s
theorem Vals.one:∀{x:V}{us:?az},Vals [x] us->∃u,us=[u]/\?lv:=by
 intro x us h;rcases h with _|⟨r,h⟩
 cases h;exact⟨_,rfl,r⟩
theorem Vals.two:∀{x y:V}{us:?az},Vals [x,y] us->∃u v,us=[u,v]/\?lv/\RelV y v:=by
 intro x y us h;rcases h with _|⟨r,h⟩
 rcases h with _|⟨q,h⟩
 cases h;exact⟨_,_,rfl,r,q⟩
theorem Vals.zero:∀{us:?az},Vals [] us->us=[]
 |_,.nil=>rfl
theorem Vals.dropLast{xs:?B}{us:?az}(h:?ee):Vals xs.dropLast us.dropLast:=by
 induction h with
 |nil=>show ?bJ
 |cons r t ih=>
  cases t with
  |nil=>show ?bJ
  |cons q t'=>exact ?p r ih
theorem Vals.eraseIdx:∀{xs:?B}{us:?az}(i:Nat),?ee->Vals (xs.eraseIdx i) (us.eraseIdx i)
 |_,_,_,.nil=>.nil
 |_,_,0,?p _ t=>t
 |_,_,i+1,?p r t=>?p r (Vals.eraseIdx i t)
theorem Vals.reverse{xs:?B}{us:?az}(h:?ee):Vals xs.reverse us.reverse:=by
 induction h with
 |nil=>show ?bJ
 |cons r t ih=>rw[aow,aow];exact Vals.append ih (?p r .nil)
theorem FE{α:Type}(l:?aa):l.eraseIdx (l.length-1)=l.dropLast:=by
 induction l with
 |nil=>rfl
 |cons a r ih=>
  cases r with
  |nil=>rfl
  |cons b r=>
   have e:(?nG).length-1=((b::r).length-1)+1:=by have h1:(?nG).length=r.length+2:=rfl;have h2:(b::r).length=r.length+1:=rfl;lia
   rw[e,List.eraseIdx_cons_succ,ih];all_goals rfl
section
theorem Inv.Py{X:Cx}{pins:?aF}{σ:St}{H:Hp}{s:Shared}{l:Addr}{xs ys:?B}{aL its':?az}{n:Nat}{f:?ec->?ec}{t':Nat}(I:?r)(hH:H l=some ?cm)
  (e:?Ja=some {cls:=?n ?aC,data:=?GA}) (hf:f aL.toArray=its'.toArray) (hv:Vals ys its') (hz:?FA):
  Inv X pins σ (upd H l ?BS) {s with heap:=s.heap.update l (asz f),toks:=t'}:=by
 have q:=PySem.IsL.update e f;rw[hf]at q;refine I.write (x:=l) (e:=l) (by rw[hH];exact trivial) (?y) (λb' u hb hu=>(aiC s.heap (asz f) (ahI hb)).trans hu) ⟨_,q⟩ ?_;exact⟨hz,its',_,hv,q⟩
theorem Inv.Pz{X:Cx}{pins:?aF}{σ:St}{H:Hp}{s:Shared}{l:Addr}{xs:?B}(I:?r)(hH:H l=some ?cm):?ev/\∃(aL:?az)(n:Nat),?pX/\xs.length=aL.length/\?Ja=some {cls:=?n ?aC,data:=?GA}:=by refine mT (I.bq l _ hH) λz aL n r e=>?_;exact⟨z,aL,n,r,r.length,e⟩
theorem C0{n:Nat}(h:n<=sizeLine):ak5 n=false:=by unfold ak5;exact decide_eq_false ?a
#where
section
def lO:V->?bD:=λx vs H Q=>∃l xs y,x=?ax/\vs=[y]/\H l=some ?cm/\?xy/\Q .b_ (upd H l (.lst (xs++[y])))
theorem gY{X:Cx}:MtM X ?Jb lO:=by show ?ST;refine cJ h λl xs y Yb Yc hH hz q=>?_;clear h;subst Yb;subst Yc;cases rx;refine ag rv.one λu Yd ru=>?_;subst Yd;refine ?PU;refine call_meets F.slot_list_append ?zh F.entry_list_append (F.args_list_append_2 _ _) (PySem.list_append l aL.toArray n u (?Ik)) ⟨e,?_⟩;refine⟨.b_,_,I.Py (its':=aL++[u]) hH e ?i (r.append (?p ru .nil)) ?_,rfl,q⟩;rw[adW,aoM];lia
def Ye:V->?bD:=λx vs H Q=>∃l xs y,x=?ax/\vs=[]/\H l=some ?cm/\xs[xs.length-1]?=?bl/\Q y (upd H l (.lst xs.dropLast))
theorem Ur{X:Cx}:MtM X "list.pop" Ye:=by
 show ?ST;refine cJ h λl xs y Yf Yg hH hy q=>?_;clear h;subst Yf;subst Yg;cases rx;have hus:=rv.zero;subst hus;refine ?PU;refine ag (r.get hy) λu hu ru=>?_;have O6:aL.toArray[?YN]?=?Q:=by show aL.toArray[aL.length-1]?=?Q;rw[<-amG,<-hl];exact hu
 refine call_meets F.slot_list_pop ?zh F.entry_list_pop (F.args_list_pop_1 _) (MeetsSeq.list_pop_last l aL.toArray n u O6 (?Ik)) ⟨e,?_⟩;refine⟨y,_,I.Py (its':=aL.dropLast) hH e ?_ r.dropLast ?_,ru,q⟩
 ·show aL.toArray.eraseIdxIfInBounds (?YN)=aL.dropLast.toArray;rw[afS,List.eraseIdxIfInBounds_toArray,FE]
 ·rw[List.length_dropLast];lia
#where
#where
namespace L2
open PySem PySem.Spec PyProof.Rows
theorem Vals.ints:∀{ns:?Z}{us:?az},Vals ?mx us->IntsAre us ns
 |[],us,h=>by rw[agn]at h;cases h;exact IntsAre.nil
 |n::ns,us,h=>by
  rw[abL]at h;cases h with
  |cons r t=>
   obtain⟨k,rfl⟩:=r;exact IntsAre.cons n k (Vals.ints t)
theorem Vals.bls:∀{bs:?ng}{us:?az},Vals (bs.map V.bl) us->us=bs.map aoQ
 |[],us,h=>by rw[agn]at h;cases h;rfl
 |b::bs,us,h=>by
  rw[abL]at h;cases h with
  |cons r t=>
   cases r;rw[Vals.bls t,abL]
theorem Vals.LC{a:Addr}{us:?az}(r:Vals [?lC] us):us=[afZ a]:=by
 cases r with
 |cons r t=>
  cases t;cases r;rfl
section
theorem PB{prog:Program}{w:World}{A:Around}{E:?ap}{s:Shared}{l:Addr}{aL:?az}{ns:?Z}{Q:?ap}(hh:?eW)(hl:?DR)(hi:?Jc)
  (h:∀h' tk t',(∀b o,?aN=?d->?aY=?d)->Q (.int ns.sum t') ?gO):wpAny ?E A (call (?U "sum") [?ax]) Q E s:=by
 show ?Ef;show ?CT
 show ?Kc;rw[e]at hl;refine PySem.sum_intListG hh hl λh' tk t' hk=>?_;have:=h h' tk t' hk;rw[preSum_eq,aqt ?i,hn];show ?eM
theorem PF{prog:Program}{w:World}{A:Around}{E:?ap}{s:Shared}{l:Addr}{aL:?az}{ns:?Z}{Q:?ap}(hh:?eW)(hl:?DR)(hi:?Jc)(hne:?Aq)
  (h:∀h' tk M t',(∀b o,?aN=?d->?aY=?d)->M∈ns->(∀a,a∈ns->a<=M)->Q (.int M t') ?gO):wpAny ?E A (call (?U "max") [?ax]) Q E s:=by
 show ?Ef;show ?CT
 show ?Kc;subst hn;rw[e]at hl;have hsz:0<xs.size:=?xz
 refine PySem.max_intList hh hl hsz ?Ws;show ?Xw;obtain⟨h1,h2⟩:=argBest_gt (numAt xs) (xs.size-1);refine ?Rc
 ·rw[numAt_eq];exact ?SU
 ·refine ag (mem_getD ha) λj hj Yh=>?_;subst Yh;rw[aa_,akO]at hj;rw[<-numAt_eq];exact h2 j ?a
theorem PH{prog:Program}{w:World}{A:Around}{E:?ap}{s:Shared}{l:Addr}{aL:?az}{ns:?Z}{Q:?ap}(hh:?eW)(hl:?DR)(hi:?Jc)(hne:?Aq)
  (h:∀h' tk M t',(∀b o,?aN=?d->?aY=?d)->M∈ns->(∀a,a∈ns->M<=a)->Q (.int M t') ?gO):wpAny ?E A (call (?U "min") [?ax]) Q E s:=by
 show ?Ef;show ?CT
 show ?Kc;subst hn;rw[e]at hl;have hsz:0<xs.size:=?xz
 refine PySem.min_intList hh hl hsz ?Ws;show ?Xw;obtain⟨h1,h2⟩:=argBest_lt (numAt xs) (xs.size-1);refine ?Rc
 ·rw[numAt_eq];exact ?SU
 ·refine ag (mem_getD ha) λj hj Yi=>?_;subst Yi;rw[aa_,akO]at hj;rw[<-numAt_eq];exact h2 j ?a
#where
section
def ag8(K:aaU):?bD:=λvs H Q=>∃(a:Addr)(ns:?Z),vs=[?lC]/\cW K H a ?mx/\Q (.int ns.sum) H
def ag9(K:aaU):?bD:=λvs H Q=>∃(a:Addr)(ns:?Z),vs=[?lC]/\cW K H a ?mx/\?Aq/\∀m,m∈ns->(∀y,y∈ns->y<=m)->Q (.int m) H
def ag_(K:aaU):?bD:=λvs H Q=>∃(a:Addr)(ns:?Z),vs=[?lC]/\cW K H a ?mx/\?Aq/\∀m,m∈ns->(∀y,y∈ns->m<=y)->Q (.int m) H
#where
section
def LD(K:aaU):V->?bD:=λx xs H Q=>∃(a:Addr)(ys:?B)(y:V)(j:Nat)(z:V),x=?lC/\xs=[y]/\cW K H a ys/\qD y=true/\ys.all qD=true/\ys[j]?=?kd/\Sf z y=true/\
 (∀(m:Nat)(z':V),m<j->ys[m]?=some z'->Sf z' y=false)/\Q (?Kd) H
theorem HF{ys:?B}(f:ys.all qD=true){j:Nat}{z:V}(h:ys[j]?=?kd):qD z=true:=adY.mp f z (ail h)
theorem LF{X:Cx}:O5 X "list.index" (LD X.K):=by
 intro pins s σ H x xs v us Q I rx rxs h;refine wk h λa ys y j z Yj Yk hs fy fys hz hzj CT q=>?_;clear h;subst Yj;subst Yk;cases rx;cases rxs with
 |cons ry rt=>
  rename_i uy ut;cases rt;refine aG (I.list hs) λaL rv Yl hlen=>?_;obtain⟨⟨cls,dd,data,sl⟩,n,ho,hc,hdn,hd⟩:=Yl;simp only at hc hd;subst hc hd;refine ag (rv.get hz) λu hu ru=>?_;obtain⟨hjl,hje⟩:=aeH.mp hu;have hvl:=rv.length;have hj:j<aL.toArray.size:=by simpa using hjl
  have Sg:=sizeLine_eq;refine call_meets aqe ?yy PySem.F.entry_list_index (PySem.F.args_list_index_2 _ _)
   (SeqAt.list_indexAt a aL.toArray n dd sl uy (eqU y) j hj ?a ?_ ?_) ⟨ho,λu' hu'=>CZ ry fy rv fys u' (by simpa using hu'),?_⟩
  ·have e1:aL.toArray[j]=u:=by simpa using hje
   rw[e1,FA ru (HF fys hz)];exact hzj
  ·intro m hm hmj;have hml:m<aL.length:=by simpa using hm
   have hmy:m<ys.length:=?M
   have O6:ys[m]?=some ys[m]:=aft hmy;refine ag (rv.get O6) λu2 Js Ym=>?_;obtain⟨_,hme⟩:=aeH.mp Js;have e1:aL.toArray[m]=u2:=by simpa using hme
   rw[e1,FA Ym (HF fys O6)];exact CT m _ hmj O6
  ·exact⟨?Kd,H,?cG,?ad,q⟩
#where
theorem C3{prog:Program}{w:World}{A:Around}{E:?ap}{s:Shared}{l:Addr}{items:?ec}{Q:?ap}(hl:s.heap.IsList l items)
  (h:∀s₂:Shared,s₂={s with heap:=s.heap.push {cls:=?n "list_iterator",data:=?aO #[?ax,.int 0 0]}}->
   (s₂.heap.IsListIter s.heap.objs.size l 0/\s₂.heap.IsList l items)->l≠s.heap.objs.size->Q (?bT) s₂):wpAny ?E A (pyIter (?ax)) Q E s:=by
 have hlt:?Xx:=by refine ag hl λ_ e _=>?_;exact ?bO
 exact wpAny_pyIter_list hl (h _ rfl ⟨?gb,hl.push _⟩ (af1 hlt))
theorem uD{prog:Program}{w:World}{A:Around}{bs:?ng}{aL:?az}(e:aL=bs.map aoQ):
  TruthOf prog w A (λi v=>aL.toArray[i]?=?V) (λi=>?sJ):=λi v s Q E hv hq=>by
 have Ue:aL[i]?=?V:=?oV
 rw[e,ad0]at Ue;refine ag (afv.mp Ue) λb hb Yn=>?_;subst Yn;have hg:?sJ=b:=by rw[ah7,hb]<;>rfl
 have HA:Q (?sJ) s:=hq;rw[hg]at HA;exact wpAny_truthy_bool HA
theorem any_range:∀bs:?ng,(afs bs.length).any (λi=>?sJ)=bs.any id
 |[]=>rfl
 |b::bs=>by rw[ad2,aqu,amU,arQ,amU,<-any_range bs];all_goals rfl
theorem all_range:∀bs:?ng,(afs bs.length).all (λi=>?sJ)=bs.all id
 |[]=>rfl
 |b::bs=>by rw[ad2,aqu,aik,aox,aik,<-all_range bs];all_goals rfl
section
def ahb(K:aaU):?bD:=λvs H Q=>∃(a:Addr)(bs:?ng),vs=[?lC]/\?Ey/\Q ?YO H
def ahc(K:aaU):?bD:=λvs H Q=>∃(a:Addr)(bs:?ng),vs=[?lC]/\?Ey/\Q ?YP H
theorem Us{X:Cx}(hc:?db):eJ X (?U "any") (ahb X.K):=by
 show ?me;refine ah h λa bs Yo hs q=>?_;clear h;subst Yo;refine ?rT;rw[?uD];have hb:=rv.bls;refine call_any_walk ?Pk;subst e2;refine⟨_,_,_,_,_,_,_,rfl,asC (A:=X.A.in1) ?cL _ a hne aL.toArray,st,uD hb,λh' tk hk=>?_⟩;refine⟨?bY,H,?NW,?_,q⟩
 ·rcases aed.mp hmem with e1|hmem
  ·exact absurd (e1▸ae8 eo) ?hG
  ·cases hmem
 ·show aoQ _=aoQ _;rw[<-any_range,hb,afS,aa_]
theorem Ut{X:Cx}(hc:?db):eJ X (?U "all") (ahc X.K):=by
 show ?me;refine ah h λa bs Yp hs q=>?_;clear h;subst Yp;refine ?rT;rw[?uD];have hb:=rv.bls;refine call_all_walk ?Pk;subst e2;refine⟨_,_,_,_,_,_,_,rfl,asC (A:=X.A.in1) ?cL _ a hne aL.toArray,st,uD hb,λh' tk hk=>?_⟩;refine⟨?bY,H,?NW,?_,q⟩
 ·rcases aed.mp hmem with e1|hmem
  ·exact absurd (e1▸ae8 eo) ?hG
  ·cases hmem
 ·show aoQ _=aoQ _;rw[<-all_range,hb,afS,aa_]
#where
mutual
inductive Dp(K:aaU)(H:Hp):V->PyData->Prop
 |b_:Dp K H .b_ ?P
 |bl (b:Bool):Dp K H (?bP) (?eI b)
 |int (i:Int):Dp K H (?O) (?O)
 |str (x:Str):Dp K H ?ag ?ag
 |lst {a:Addr} {xs:?B} {ds:?mN}:?fc->?Ke->Dp K H (?C) (?j ds)
 |tup {a:Addr} {xs:?B} {ds:?mN}:?hg->?Ke->Dp K H (?C) (.tuple ds)
inductive uE(K:aaU)(H:Hp):?B->?mN->Prop
 |nil:uE K H [] []
 |cons {v:V} {vs:?B} {d:PyData} {ds:?mN}:Dp K H v d->uE K H vs ds->uE K H (?eK) (d::ds)
end
section
mutual
theorem Dp.reads{X:Cx}{pins:?aF}{σ:St}{H:Hp}{s:Shared}(I:?r):∀(d:PyData)(v:V)(u:Value),Dp X.K H v d->?dg->?Su:=by
 intro d v u h;refine Dp.rec (motive_1:=λv d _=>∀u,?dg->?Su) (motive_2:=λvs ds _=>∀us,?hm->∃as,ReadsAll s.heap us ds as) ?_ ?_ ?_ ?_ ?_ ?_ ?_ ?_ h u
 ·intro u r;cases r;exact⟨_,?P⟩
 ·intro b u r;cases r;exact⟨_,?eI b⟩
 ·rintro i u ⟨t,rfl⟩;exact⟨_,?nv⟩
 ·rintro x u ⟨t,rfl⟩;exact⟨_,.str x t⟩
 ·intro a xs ds hs _ ih u r;cases r;refine aG (I.list hs) λaL rv Yq _=>?_;obtain⟨o,n,ho,hc,_,hd⟩:=Yq;obtain⟨as,hr⟩:=ih aL rv;exact⟨_,?j ho hc hd hr⟩
 ·intro a xs ds hs _ ih u r;cases r;refine aG (I.tuple hs) λaL rv Yr _=>?_;obtain⟨o,ho,hc,n,hd⟩:=Yr;obtain⟨as,hr⟩:=ih aL rv;exact⟨_,.tuple ho hc hd hr⟩
 ·intro us r;cases r;exact⟨_,.nil⟩
 ·intro v vs d ds _ _ i1 i2 us r;cases r with
  |cons r1 r2=>
   obtain⟨as,q1⟩:=i1 _ r1;obtain⟨bs,q2⟩:=i2 _ r2;exact⟨_,?p q1 q2⟩
end
#where
section
def Ys(K:aaU):R2:=λx y H Q=>∃d e,?LY/\Dp K H y e/\?ug/\anh e=true/\Q (.bl (ahm d e)) H
def Yt(K:aaU):R2:=λx y H Q=>∃d e,?LY/\Dp K H y e/\?ug/\anh e=true/\Q (.bl (!ahm d e)) H
theorem wA{X:Cx}(hu:?FT):pb X (compareOp .Eq) (Ys X.K):=by show ?Ud;refine ?Rd;obtain⟨as,r1⟩:=?wC;show ?RQ;exact SeqAt.compareEq_shaped r1 r2 sd se hu ?jd
theorem LG{X:Cx}(hu:?FT):pb X ?Xy (Yt X.K):=by show ?Ud;refine ?Rd;obtain⟨as,r1⟩:=?wC;show ?RQ;exact SeqAt.compareNe_shaped r1 r2 sd se hu ?jd
#where
#where
namespace L2
open PySem PySem.Spec PyProof.Rows
abbrev LH(h:Heap)(c:Addr)(v:?mG):Prop:=h.IsCell c v
def ahd(scope sc:Scope):Scope:=
 {scope with names:=scope.names.map λ?fX=>if(k==?dp&&?mn&&?oW==?cl)then(n,?dD)else ?fX}
def bW(cells:?aU):?hU->?aU->?aU
 |[],acc=>acc
 |?fX::r,acc=>if k==?dp then bW cells r ((n,?En)::acc)else bW cells r acc
theorem qG(env:Env)(f:Str×NameKind->?aU->Sem (ForInStep (?aU)))
  (hf:∀n k c,f ?fX c=if k==?dp then(do let a<-cellOf env n;pure (.yield ((n,a)::c)))else pure (.yield c)):
  ∀(names:?hU)(acc:?aU),(∀y∈names,y.2=?dp->∃c,?Vu=?bj)->forIn names acc f=pure (bW env.cells names acc)
 |[],acc,_=>by rw[anD];rfl
 |?fX::r,acc,h=>by
  rw[amJ,hf];have ih:=λacc=>qG env f hf r acc ?Ez;unfold bW;by_cases hk:(k==an5)=true
  ·rw[?jH,?jH];obtain⟨c,hc⟩:=h ?fX adP (?xJ);have e:cellOf env n=pure c:=by unfold cellOf;rw[hc]
   rw[e];have e2:(env.cells.lookup n).getD 0=c:=by rw[hc];rfl
   rw[e2];exact ih _
  ·rw[?ne,?ne];exact ih _
theorem FF{scope:Scope}{env:Env}(h:∀y∈scope.names,y.2=?dp->∃c,?Vu=?bj):closureFor scope env=pure (bW env.cells scope.names []):=by simp only[closureFor];rw[qG env _ (λn k c=>rfl) scope.names [] h];rfl
theorem mem_lookup{α:Type}:∀{l:List (Str×α)}{n:Str}{c:α},(n,c)∈l->∃c',l.lookup n=some c'
 |(k,v)::r,n,c,h=>by
  rw[ahf];cases hb:n==k with
  |true=>exact ?ad
  |false=>
   show ?ye
   ·cases e;simp at hb
   ·exact mem_lookup h
theorem kh{cells:?aU}:∀{names:?hU}{acc:?aU}{n:Str}{c:Addr},(n,c)∈?FU->(n,c)∈acc\/((n,?dp)∈names/\c=?En)
 |[],_,_,_,h=>?fm
 |?va,acc,n,c,h=>by
  unfold bW at h;show ?ao
  ·rename_i hk;have hk:k=?dp:=?xJ
   rcases kh h with h|⟨h1,h2⟩
   ·show ?ye
    ·cases e;exact .inr ⟨hk▸adP,rfl⟩
    ·exact ?fm
   ·exact ?Ue
  ·rcases kh h with h|⟨h1,h2⟩
   ·exact ?fm
   ·exact ?Ue
theorem mZ{cells:?aU}:∀{names:?hU}{acc:?aU}{p:Str×Addr},p∈acc->p∈?FU
 |[],_,_,h=>h
 |?va,acc,p,h=>by
  unfold bW;split
  ·exact mZ (aaV _ h)
  ·exact mZ h
theorem m5{cells:?aU}:∀{names:?hU}{acc:?aU}{n:Str},(n,?dp)∈names->(n,?En)∈?FU
 |?va,acc,n,h=>by
  unfold bW;show ?ye
  ·cases e;exact mZ adP
  ·split
   ·exact m5 h
   ·exact m5 h
theorem k9:∀{names:?hU}{h:Heap}{acc:?aU}{x:Str}{c:Addr},(x,c)∈?Dx->
  (x,c)∈acc\/((x,?dD)∈names/\h.objs.size<=c/\LH (pushCells h names) c none)
 |[],_,_,_,_,h=>?fm
 |?fX::r,h,acc,x,c,hm=>by
  unfold cellsFrom at hm;unfold pushCells;split at hm
  ·rename_i hk;rw[?jH];have hk:k=?dD:=?xJ
   rw[<-agl h {cls:=?n ?hJ,data:=?dD none}]at hm;show ?Vv
   ·rcases aed.mp hm with e|hm
    ·cases e;exact .inr ⟨hk▸adP,?cs,_,pushCells_keeps r _ _ _ (?de),rfl⟩
    ·exact .inl hm
   ·rw[agl]at h2;exact .inr ⟨aaV _ h1,aoy h2,h3⟩
  ·rename_i hk;rw[?ne];show ?Vv
   ·exact .inl hm
   ·exact .inr ⟨aaV _ h1,h2,h3⟩
theorem om:∀{names:?hU}{n:Nat}{acc:?aU}{p:Str×Addr},p∈acc->p∈?UB
 |[],_,_,_,h=>h
 |?va,n,acc,p,h=>by
  unfold cellsFrom;split
  ·exact om (aaV _ h)
  ·exact om h
theorem sN:∀{names:?hU}{n:Nat}{acc:?aU}{x:Str},(x,?dD)∈names->∃c,(x,c)∈?UB
 |?va,n,acc,x,h=>by
  unfold cellsFrom;show ?ye
  ·cases e;exact⟨n,om adP⟩
  ·split
   ·exact sN h
   ·exact sN h
theorem jz:∀{names:?hU}{h:Heap}{acc:?aU}{x y:Str}{c:Addr},(∀p∈acc,p.2<h.objs.size)->(∀x y c,(x,c)∈acc->(y,c)∈acc->x=y)->
  (x,c)∈?Dx->(y,c)∈?Dx->x=y
 |[],_,_,_,_,_,_,hi,h1,h2=>hi _ _ _ h1 h2
 |?fX::r,h,acc,x,y,c,hl,hi,h1,h2=>by
  unfold cellsFrom at h1 h2;split at h1
  ·rename_i hk;rw[?jH]at h2;rw[<-agl h {cls:=?n ?hJ,data:=?dD none}]at h1 h2;refine jz (h:=h.push _) (?dc) (λx y c a b=>?_) h1 h2
   ·rw[agl];show ?xb
    ·exact anL _
    ·exact anA (hl p hp)
   ·rcases aed.mp a with e|a<;>rcases aed.mp b with e'|b
    ·cases e;cases e';rfl
    ·cases(e);exact absurd (hl _ b) ?hG
    ·cases(e');exact absurd (hl _ a) ?hG
    ·exact hi _ _ _ a b
  ·rename_i hk;rw[?ne]at h2;exact jz hl hi h1 h2
theorem C4{M:Model}{A:Around}{E:?ap}{s:Shared}{scope:Scope}{globals:Addr}{closure:?aU}{qual:Str}{func:?gl}{code:Value}{around:Env}{builtins:Addr}{Q:Env->?kY}
  (h:Q (newEnv scope s.heap.objs.size globals (cellsFrom (?ca) scope.names closure) qual func code (some around) builtins)
   {s with heap:=pushCells (s.heap.push ?es) scope.names}):
  wpAny M A (newFunctionEnv scope globals closure [] qual func code (some around) builtins) Q E s:=by
 simp only[newFunctionEnv,apC,if_true];refine wpAny_bind (wpAny_alloc ?_);refine wpAny_bind (wpAny_layCells _ (λn k c=>rfl) scope.names closure _ _ ?_);rw[show({s with heap:=s.heap.push ?es}:Shared).heap.objs.size=?ca from agl ..];rw[anD];exact wpAny_bind (wpAny_pure (?pz))
theorem m6{sc:Scope}:∀{names:?hU}{x:Str}{k:NameKind},
  (names.map λ?fX=>if(k==an5&&?mn&&?oW==?cl)then(n,ap6)else ?fX).lookup x=?as->
  ∃k',names.lookup x=some k'/\(k=k'\/(k'=?dp/\k=?dD))
 |[],_,_,h=>?ik
 |(n,k₀)::r,x,k,h=>by
  have ih:=@m6 sc r x k;have h':apU x ((if(k₀==an5&&?mn&&?oW==?cl)=true then(n,ap6)else(n,k₀))::(r.map _))=?as:=h;cases hx:x==n with
  |true=>
   simp only[ahf,hx];by_cases hc:(k₀==an5&&?mn&&?oW==?cl)=true
   ·rw[?qm]at h';show ?yY;cases h';simp only[abk,beq_iff_eq]at hc;exact⟨k₀,rfl,.inr ⟨hc.1.1,rfl⟩⟩
   ·rw[?uE]at h';show ?yY;cases h';exact⟨_,rfl,?y⟩
  |false=>
   simp only[ahf,hx];by_cases hc:(k₀==an5&&?mn&&?oW==?cl)=true
   ·rw[?qm]at h';show ?yY;exact ih h'
   ·rw[?uE]at h';show ?yY;exact ih h'
structure qH(N:?t)(sc scope:Scope)(own:?mu):Prop where
 kind:scope.kind=?na
 uniq:∀y∈scope.names,?oy=some y.2
 ix:∀p∈own,N[p.2]?=some p.1
 free:∀y∈scope.names,y.2=?dp->?xj=?cl\/?xj=?hk
 own:∀y∈scope.names,y.2=.local\/y.2=?dD->y.1∈own.map ?aT\/y.1∉N
def wipe(σ:St):?aw->St
 |[]=>σ
 |?eK=>(?it).set v none
theorem du(σ:St):∀vs:?aw,(?it).length=σ.length
 |[]=>rfl
 |?eK=>by unfold wipe;rw[alI,du σ vs]
theorem sO{σ:St}{i:Nat}{x:V}:∀{vs:?aw},(?it)[i]?=some (?F)->?jZ=some (?F)/\i∉vs
 |[],h=>⟨h,?J⟩
 |?eK,h=>by
  unfold wipe at h;by_cases hi:v=i
  ·subst hi;by_cases hv:v<(?it).length
   ·rw[ag2 hv]at h;cases h
   ·rw[akS (?oV)]at h;cases h
  ·rw[afB hi]at h;obtain⟨h1,h2⟩:=sO h;exact⟨h1,by simp only[aed,not_or];exact⟨λe=>hi e.symm,h2⟩⟩
abbrev Cx.lG(X:Cx)(s:Shared)(H:Hp)(scope:Scope)(cenv:Env)(fp:?X):Cx:={X with yS:=s,kW:=H,env:=cenv,outer:=X.stack,ex:=fp,fn:=λx=>?Vw==?cl,pn:=[],xe:=?fb}
section
theorem C5{X:Cx}{pins:?aF}{σ:St}{H:Hp}{s:Shared}{scope:Scope}{own:?mu}{fp:?X}(I:?r)(ok:?kt)(hN:X.N.Nodup)(hfp:∀b∈fp,?po/\?xA):
  Inv (X.lG s H scope (compEnvC scope (cellsFrom (?ca) scope.names (?rV)) s.heap.objs.size X.env) fp) [] (wipe σ (?dX)) H {s with heap:=pushCells (s.heap.push ?es) scope.names}:=by
 have zK:∀y∈scope.names,y.2=?dp->∃c,?Uf=?bj:=λy hy e=>by
  rcases ok.free y hy e with k|k
  ·exact ?Wt
  ·exact ?Wu
 generalize C6:compEnvC scope (cellsFrom (?ca) scope.names (?rV)) s.heap.objs.size X.env=cenv;have kp:∀b o,?aN=?d->(pushCells (s.heap.push ?es) scope.names).get? b=?d:=λb o e=>pushCells_keeps _ _ _ _ (?gy);have hL:cenv.locals=s.heap.objs.size:=?HE
 have hcl:cenv.cells=cellsFrom (?ca) scope.names (?rV):=?HE
 have hsc:cenv.scope=ahd scope X.env.scope:=?HE
 rw[<-agl s.heap ?es]at hcl;have cm:∀{y c},(y,c)∈?rV->?wT=?bj/\?xB:=λ{y c}hm=>by
  rcases kh hm with hm|⟨h1,rfl⟩
  ·cases hm
  ·obtain⟨c,hc⟩:=zK _ h1 rfl;rw[hc];obtain⟨w,z⟩:=I.cell _ _ hc;exact⟨rfl,z.lt⟩
 have mem:∀{y c},?iZ->(?wT=?bj/\?xB)\/(?ca<=c/\LH (pushCells (s.heap.push ?es) scope.names) c none):=λ{y c}e=>by
  rw[hcl]at e;rcases k9 (agp e)with hm|⟨_,h2,h3⟩
  ·exact .inl (cm hm)
  ·rw[agl]at h2;exact .inr ⟨h2,h3⟩
 have look:∀{y},?sl=?hk->∃c,?iZ/\?wT=?bj:=λ{y}hl=>by
  have hy:(y,an5)∈scope.names:=agp hl;obtain⟨c',e'⟩:=mem_lookup (om (names:=scope.names) (n:=(s.heap.push ?es).objs.size) (m5 (cells:=X.env.cells) (acc:=[]) hy));rw[<-hcl]at e';refine⟨c',e',?_⟩;rw[hcl]at e';rcases k9 (agp e')with hm|⟨h1,_,_⟩
  ·exact(cm hm).1
  ·have:=ok.uniq _ h1;rw[hl]at this;cases this
 have okB:(X.lG s H scope cenv fp).Ok:=by
  refine⟨I.ok.mod,by show cenv.scope.kind=_;rw[hsc];exact ok.kind,by show cenv.globals=_;rw[<-C6];exact I.ok.glob,by show cenv.builtins=_;rw[<-C6];exact I.ok.blt,by show s.heap.objs.size<=cenv.locals;rw[hL];exact ?cs,
   λy z c e1 e2=>?_,?Ba,λy c z e=>?_,I.ok.hd,I.ok.frames,?y,λb hb=>⟨?_,λy c e z=>?_⟩,I.bs,afh I.ok.KR I.sz,λb o e hb=>?_,λb hb z=>?_,I.stack,I.og⟩
  ·have e1:?iZ:=e1;have e2:cenv.cells.lookup z=?bj:=e2;rw[hcl]at e1 e2;refine jz (?dc) (λy z c a b=>I.ok.inj y z c (cm a).1 (cm b).1) (agp e1) (agp e2);rw[agl];exact anA (cm (y:=p.1) (c:=p.2) hp).2
  ·show∃c,?iZ;have key:∀k,?tp=?as->(k=?dD\/k=?dp)->∃c,?iZ:=λk hk E2=>by
    unfold Env.kindOf at hk;rw[hsc]at hk;refine ?Tp;have:k'=?dD\/k'=?dp:=by
     rcases r with rfl|⟨rfl,_⟩
     ·exact E2
     ·exact ?dz
    rcases this with rfl|rfl
    ·obtain⟨c,hm⟩:=sN (n:=(s.heap.push ?es).objs.size) (acc:=?rV) (agp e);obtain⟨c',e'⟩:=mem_lookup hm;exact⟨c',by rw[hcl];exact e'⟩
    ·refine ag (look e) λc h1 _=>?_;exact⟨c,h1⟩
   rcases hy with hy|hy
   ·exact key _ hy (?y)
   ·exact key _ hy (?dz)
  ·have z:(?sl==some ap6)=true:=z;have z:?sl=?cl:=?eR
   have e:?iZ:=e;rw[hcl]at e;rcases k9 (agp e)with hm|⟨_,h2,_⟩
   ·rcases kh hm with hm|⟨h1,_⟩
    ·cases hm
    ·have q:=ok.uniq _ h1;rw[z]at q;cases q
   ·rw[agl]at h2;exact aoy h2
  ·show b≠cenv.locals;rw[hL];exact af1 (?qJ).2
  ·have e:?iZ:=e;show ?Tq
   ·exact(?qJ).1.2.2.2.2.1 y c h1 z
   ·have h2:?ca<=b:=by rw[<-z];exact h1
    exact absurd (afR (?qJ).2 (aoy h2)) ?hG
  ·rcases(?qJ).1.2.2.2.1 with z|z
   ·exact I.ok.Ff b o e z
   ·exact absurd (afR (?bO) (afh I.ok.KR z)) ?hG
  ·rcases aed.mp (I.Fh b z)with z|z
   ·exact(?qJ).1.2.1 z
   ·exact(?qJ).1.2.2.1 z
 refine⟨okB,rfl,I.bare,Un.kept kp,⟨?iz,?_,λi y av e1 e2 e3=>?_⟩,?Ap,?_,?Ap,?dc,I.bq.kept kp,by rw[du];exact I.len⟩
 ·show Heap.Ns _ cenv.locals _;rw[hL];exact Heap.Ns.keeps (Heap.Ns.new ..) λb o e=>pushCells_keeps _ _ _ _ e
 ·obtain⟨e2,hne⟩:=sO e2;have hfr:?sl=?hk/\(?tp=?cl\/?tp=?hk):=by
   have key:∀k,cenv.scope.names.lookup y=?as->k=.local\/k=?dD\/k=?dp->?sl=?hk/\(?tp=?cl\/?tp=?hk):=λk hk E2=>by
    have hk0:=hk;rw[hsc]at hk;refine ?Tp;have no:¬(k'=.local\/k'=?dD):=λhh=>by
     rcases ok.own _ (agp e) hh with e'|e'
     ·refine ag (adX.mp e') λp hp hpy=>?_;have e3:=ok.ix p hp;have:p.1=y:=hpy;rw[this]at e3;exact hne (adX.mpr ⟨p,hp,wo hN e3 e1⟩)
     ·exact e' (ail e1)
    rcases r with rfl|⟨rfl,rfl⟩
    ·rcases E2 with rfl|rfl|rfl
     ·exact absurd (?y) no
     ·exact absurd (?dz) no
     ·exact⟨e,.inr hk0⟩
    ·exact⟨e,.inl hk0⟩
   have e3:Cn cenv.scope y:=e3;rcases e3 with e3|e3|e3
   ·exact key _ e3 (?y)
   ·exact key _ e3 (.inr (?y))
   ·exact key _ e3 (.inr (?dz))
  refine ag I.loc λm hn hl=>?_;have ahg:Cn X.env.scope y:=(?Sv).elim (λk=>.inr (.inl k)) (λk=>.inr (.inr k));refine ag (hl i y av e1 e2 ahg) λw r q=>?_;refine⟨w,r,.inr ⟨hfr.2,?_⟩⟩;refine ag (look hfr.1) λc h1 h2=>?_;rcases q with⟨k,_⟩|⟨_,c',e',z⟩
  ·have k:?DS=?dK:=k;rcases ?Sv with k'|k'<;>rw[show X.env.scope.names.lookup y=_ from k']at k<;>cases k
  ·rw[h2]at e';cases e';exact⟨c,h1,z.keeps kp⟩
 ·have e:?iZ:=e;rcases mem e with⟨h1,_⟩|⟨_,z⟩
  ·obtain⟨w,z⟩:=I.cell y c h1;exact⟨w,z.keeps kp⟩
  ·exact ?lA
 ·show H cenv.locals=none;rw[hL];exact I.bq.fresh ?A
 ·have e:?iZ:=e;show ?Tq
  ·exact I.ji y c h1
  ·exact I.bq.fresh (aoy h1)
 ·exact absurd (show p∈([]:?aF)++[]from hp) ?i
theorem Uu{X:Cx}{pins:?aF}{σ:St}{H:Hp}{s:Shared}{E:?ap}{D:Addr}{xs:?B}{y:V}{v:Value}{Q:?ap}(I:?r)(hD:H D=some ?cm)(hz:?xy)(r:RelV y v)
  (h:∀s',Inv X pins σ (upd H D (.lst (xs++[y]))) s'->Q ?P s'):wpAny ?K X.A (call (?U ?Jb) [.ref D,v]) Q E s:=by
 refine mT (I.bq D _ hD) λWS aL n ri e=>?_;have hl:=ri.length;refine append_at (hsz:=?Ik) e λh' sb Co=>?_;refine h ?bw (I.write (t':=s.toks) (by rw[hD];trivial) (?y) (λb u hb q=>?Gz q) ⟨_,Co⟩ ⟨by rw[adW];exact hz,aL++[v],n+1,ri.append (?p r .nil),?_⟩);rw[Co];simp
def KS(X:Cx)(ifs:?bz)(t:TT):Prop:=
 ∀(pins:?aF)(s:Shared)(σ:St)(H:Hp)(Q:Bool->?aZ),?r->?hy->
  wpAny ?K X.A (forIn ifs true λc r=>if r=true then do let ok<-isTrue c X.env (eval c X.env);pure (ao3 ok)else pure (ao3 r)) ?Hc X.xe s
def ahh:TT:=λ_ H Q=>Q true H
theorem PJ{X:Cx}:KS X [] ahh:=λ_ _ _ H _ I h=>wpAny_tests_nil ⟨H,I,h⟩
#where
theorem Jt{α:Type}{t:Sem α}{Q Q':α->?kY}{M:Model}{A:Around}{E:?ap}{s:Shared}(h:wpAny M A t Q (?fb) s)(hQ:?Vk):?Xs:=wpAny_mono h hQ λ_ _ z=>ag0 z
theorem A3{prog:Program}{w:World}{A:Around}{R:Result->?kY}{s:Shared}{elt target iter:Expr}{ifs:?bz}{scope:Scope}{pos:Pos}{it acc:Value}{env:Env}(I:Nat->?kY)
  (turn:∀n s,I n s->wpAny ?E A (pyNext it) (λr s₁=>match r with
   |none=>R (.ok ?km) s₁
   |?V=>wpAny ?E A (letOwnedTupleGo target it v) (λ_ s₁'=>wpAny ?E A (assign target env v) (λ_ s₂=>
    wpAny ?E A (forIn ifs true λc r=>if r=true then do let ok<-isTrue c env (eval c env);pure (ao3 ok)else pure (ao3 r)) (λok s₃=>
     if ok=true then wpAny ?E A (eval elt env) (λx s₄=>
      wpAny ?E A (call (?U ?Jb) [acc,x]) (λ_ s₅=>∃m,m<n/\I m s₅) (notedBy ?E A env ?ov) s₄) (notedBy ?E A env ?ov) s₃
     else∃m,m<n/\I m s₃) (notedBy ?E A env ?ov) s₂) (notedBy ?E A env ?ov) s₁') (notedBy ?E A env ?ov) s₁) (notedBy ?E A env ?ov) s)
  (n:Nat) (h:I n s):
  codeAny ?E A (.compLoop (?ln elt ?Sw scope pos) 0 it acc env) R s:=by
 refine codeAny_loop rfl I (λn s hI=>?_) n h;show wpAny _ A ((compTurn (?ln elt ?Sw scope pos) 0 it acc env).onRaise (λx=>do noteFrame x env;theTreesLotGoes x)) _ _ s;refine wpAny_noted ?_;rw[compTurn_list];refine wpAny_bind (wpAny_standAt (wpAny_bind (wpAny_mono (turn n s hI) (λr s₁ h₁=>?_) ?pA)));cases r with
 |none=>exact wpAny_pure h₁
 |some v=>
  refine wpAny_bind (wpAny_mono h₁ (λ_ s₁' h₁'=>?_) ?pA);refine wpAny_bind (wpAny_mono h₁' (λ_ s₂ h₂=>wpAny_bind (wpAny_mono h₂ (λok s₃ h₃=>?_) ?pA)) ?pA);cases ok with
  |false=>exact wpAny_pure ⟨rfl,h₃⟩
  |true=>
   exact wpAny_bind (wpAny_bind (wpAny_mono h₃ (λx s₄ h₄=>wpAny_bind (wpAny_mono h₄ (λ_ s₅ h₅=>wpAny_pure (wpAny_pure ⟨rfl,h₅⟩)) ?pA)) ?pA))
section
def Yu(wi:TI)(g:TG)(tt:TT)(te:TE)(vs:?aw):TE:=λσ H Q=>wi σ H λJ H1=>∀D,H1 D=none->∃W:Nat->Nat->?aZ,(∃m,W 0 m (upd H1 D ?bu))/\∀i m H,W i m H->
 (?AW/\Q ?gu H)\/(?Cc/\∃Nx:?aZ,(∀H',Nx H'->∃m',m'<m/\W ?bf m' H')/\∀x H',?zg->g x (?it) H' λσ2 H2=>wipe σ2 vs=?it/\tt σ2 H2 λb H3=>
  if ?dQ then te σ2 H3 λy H4=>∃acc,H4 D=some (.lst acc)/\?xk/\Nx (upd H4 D (.lst (acc++[y])))else Nx H3)
theorem HG{X:Cx}{pins:?aF}{s:Shared}{σ:St}{H:Hp}{Q:VK}{elt tg iter:Expr}{ifs:?bz}{scope:Scope}{own:?mu}{pos pos':Pos}{wi:TI}{g:TG}{tt:TT}{te:TE}{use:Option (Value->Sem Unit)}{Qf:?ap}
  (hc:?db) (hN:X.N.Nodup) (I:?r) (hi:?yj) (ok:?kt)
  (hg:∀(s:Shared)(H:Hp)(C:Addr)(cl:?aU)(fp:?X),PG ?bS tg g) (ht:∀(s:Shared)(H:Hp)(C:Addr)(cl:?aU)(fp:?X),KS ?bS ifs tt)
  (he:∀(s:Shared)(H:Hp)(C:Addr)(cl:?aU)(fp:?X),PE ?bS elt te) (hs:?kr)
  (h:Yu wi g tt te (?dX) σ H Q)
  (hRR:∀D C s' m H',?jf->Q ?gu H'->s'.heap.Ns C m->pJ X pins H' C->compPost ?K X.A X.xe use Qf ?gu C (.ok ?km) s'):
  wpAny ?K X.A (comprehension ?hP scope X.env pos' (newList []) false ?xH use) Qf X.xe s:=by
 have zK:∀y∈scope.names,y.2=?dp->∃c,?Uf=?bj:=λy hy e=>by
  rcases ok.free y hy e with k|k
  ·exact ?Wt
  ·exact ?Wu
 refine wpAny_comprehension_free (use:=use) rfl hs (FF zK) ok.kind (λy hy e=>by rw[ok.uniq y hy,e])
  (ck (hi pins s σ H _ I h) λxv s1 hx=>ck hx λitv s2 h2=>?_)
 refine ux h2 λit fp tn J H2 e I2 T st2 f2 q=>?_;subst e;refine wpAny_newObj_type (C4 ?_) (by show 0<=sizeLine;decide);generalize hD:s2.heap.objs.size=D;have hDn:H2 D=none:=I2.bq.fresh (ang hD);refine ag (q D hDn) λW Yv turn=>?_;obtain⟨m0,w0⟩:=Yv;generalize hs3:({s2 with heap:=s2.heap.push {cls:=?n ?aC,data:=.seq ([]:?az).toArray}}:Shared)=s3;have I3:Inv X pins σ (upd H2 D ?bu) s3:=by rw[<-hs3];refine I2.laid (t':=s2.toks) (?ib) (ang hD) ⟨?bg,[],0,.nil,?_⟩;rw[<-hD];exact ?de
 have h3:s3.heap=s2.heap.push {cls:=?n ?aC,data:=.seq ([]:?az).toArray}:=by rw[<-hs3]
 have sz:∀b∈fp,b<s2.heap.objs.size:=λb hb=>by refine ag (T.obj _ _ st2 b hb) ?tQ;exact ?bO
 have f3:∀b∈fp,pJ X pins (upd H2 D ?bu) b/\b<s3.heap.objs.size:=λb hb=>by have hlt:=sz b hb;refine⟨⟨?_,(f2 b hb).2⟩,by rw[h3,agl];exact anA hlt⟩;rw[ae (by rw[<-hD];exact af1 hlt)];exact(f2 b hb).1
 have EZ:tn 0 s3.heap:=T.keep _ _ _ st2 λb _ o e=>by rw[h3];exact ?gy
 have I4:=C5 I3 ok hN f3;have pg:=hg s3 (upd H2 D ?bu) s3.heap.objs.size ?rI fp;have pt:=ht s3 (upd H2 D ?bu) s3.heap.objs.size ?rI fp;have pe:=he s3 (upd H2 D ?bu) s3.heap.objs.size ?rI fp;show codeAny _ _ (.compStart ?hP 0 ?eA ?gu (compEnvC scope ?rI s3.heap.objs.size X.env)) (compPost ?K X.A X.xe use Qf ?gu s3.heap.objs.size) {s3 with heap:=pushCells (s3.heap.push ?es) scope.names};have nfp:∀b∈fp,(upd H2 D ?bu) b=none:=λb hb=>(?vn).1.1;generalize Uv:compEnvC scope ?rI s3.heap.objs.size X.env=ce at I4 pg pt pe⊢;have cL:ce.locals=s3.heap.objs.size:=by subst Uv;rfl
 generalize hH3:upd H2 D ?bu=H3 at I3 I4 pg pt pe w0 nfp f3;generalize hs4:({s3 with heap:=pushCells (s3.heap.push ?es) scope.names}:Shared)=s4 at I4⊢;have st4:tn 0 s4.heap:=T.keep _ _ _ EZ λb _ o e=>by rw[<-hs4];exact pushCells_keeps _ _ _ _ (?gy)
 have stat:∀{σ':St}{H':Hp}{s':Shared},Inv (?kw) [] σ' H' s'->?jc->∀b∈fp,pJ (?kw) [] H' b:=λ{σ' H' s'}I' hn b hb=>
  ⟨hn b hb,(I'.ok.WM b hb).1,I'.ok.Fg b hb,.inl hb,λx c e=>(I'.ok.WM b hb).2 x c e,λp hp=>absurd (show p∈([]:?aF)++[]from hp) ?i⟩
 have loop:codeAny ?K X.A (.compLoop ?hP 0 ?eA ?gu ce) (compPost ?K X.A X.xe use Qf ?gu s3.heap.objs.size) s4:=by
  refine A3 (λn s'=>∃i H',Inv (?kw) [] (wipe σ (?dX)) H' s'/\?zN/\?jc/\W i n H') ?_ m0 ⟨0,H3,I4,st4,nfp,w0⟩;intro n s5 Yw;refine bI Yw λi H5 I5 wu n5 w5=>?_;rcases turn i n H5 w5 with⟨stop,qq⟩|⟨go,Nx,hNx,step⟩
  ·have td:=T.done (?kw) rfl rfl rfl hc i [] s5 _ H5 (?fb) I5 (stat I5 n5) wu stop;refine Jt td λr s6⟨hr,I6⟩=>?_;subst hr;have I7:Inv X pins σ H5 s6:=I3.Hq (ch:=fp) I6.os I6.base I6.bq I6.bare λb hb=>⟨(?vn).1.2.2.2.1,(?vn).1.2.1,(?vn).1.2.2.2.2.1,(?vn).1.2.2.2.2.2⟩;have nC:H5 s3.heap.objs.size=none:=by
    have z:H5 ce.locals=none:=I6.free;rw[cL]at z;exact z
   refine ag I6.loc λm hn _=>?_;have hn:s6.heap.Ns ce.locals m:=hn;rw[cL]at hn;exact hRR D s3.heap.objs.size s6 m H5 I7 qq hn (I3.AQ ?A nC)
  ·have ti:=T.item (?kw) rfl rfl rfl hc i [] s5 _ H5 (?fb) I5 (stat I5 n5) wu go;refine Jt ti λr s6⟨u,hr,h6⟩=>?_;subst hr;refine Jt h6 λ_ s7⟨x,H7,I7,r7,y7,st7,n7⟩=>?_;have I7':=I7.pinned (stat I7 n7) (T.obj _ _ st7);refine Jt (pg _ s7 _ H7 x u _ I7' r7 (step x H7 y7)) λ_ s8⟨σ8,H8,I8,hw8,q8⟩=>?_;refine Jt (pt _ s8 σ8 H8 _ I8 q8) λb s9⟨H9,I9,q9⟩=>?_;have fin:∀{s':Shared}{H':Hp},Inv (?kw) ([]++AR fp s7.heap) σ8 H' s'->Nx H'->∃m,m<n/\∃i H',Inv (?kw) [] (wipe σ (?dX)) H' s'/\?zN/\?jc/\W i m H':=λ{s' H'}I' nx=>by
    refine ag (hNx H' nx) λm' hm w'=>?_;have Yx:∀b∈fp,∀o,s7.heap.get? b=?d->?Il=?d/\?uy:=λb hb o e=>
     let z:=I'.pin (b,o) (afF _ (afF _ (jE hb e)))
     ⟨z.1,?hM⟩
    have hl:(wipe σ (?dX)).length=σ8.length:=by rw[<-hw8,du]
    refine⟨m',hm,i+1,H',(I'.jF (pins:=[])).weak hl (λj v e=>?_),T.keep _ _ _ st7 λb hb o e=>(Yx b hb o e).1,?hl,w'⟩
    ·rw[<-hw8]at e;exact(sO e).1
    ·refine ag (T.obj _ _ st7 b hb) ?tQ;exact(Yx b hb o e).2
   cases b with
   |false=>
    simp only[ahn,if_false]at q9⊢;exact fin I9 q9
   |true=>
    simp only[if_true]at q9⊢;refine Jt (pe _ s9 σ8 H9 _ I9 q9) λz s10⟨yv,H10,I10,r10,acc,ahj,ahk,nx⟩=>?_;exact Uu (X:=?kw) I10 ahj ahk r10 λs11 I11=>fin I11 nx
 exact codeAny_compStart_list loop (T.self X.A 0 _ _ _ st4 loop)
theorem Yy{X:Cx}{elt tg iter:Expr}{ifs:?bz}{scope:Scope}{own:?mu}{pos:Pos}{wi:TI}{g:TG}{tt:TT}{te:TE}(hc:?db)(hN:X.N.Nodup)(hi:?yj)(ok:?kt)
  (hg:∀(s:Shared)(H:Hp)(C:Addr)(cl:?aU)(fp:?X),PG ?bS tg g) (ht:∀(s:Shared)(H:Hp)(C:Addr)(cl:?aU)(fp:?X),KS ?bS ifs tt)
  (he:∀(s:Shared)(H:Hp)(C:Addr)(cl:?aU)(fp:?X),PE ?bS elt te) (hs:?kr:=by intro _;rfl):
  PE X ?hP (Yu wi g tt te (?dX)):=by
 show ?yt;rw[eval_ListComp];refine HG hc hN I hi ok hg ht he hs h λD C s' m H' I' q hn f=>⟨m,hn,λLI sb=>?_⟩;refine fO f ?gc;exact⟨.ref D,H',I'.turned (t':=s'.toks) ?vS f0 f1 f3 f4 f5,rfl,q⟩
theorem LJ{X:Cx}{i:Nat}{y:Str}{py:Pos}{elt tg iter:Expr}{ifs:?bz}{scope:Scope}{own:?mu}{pos PK:Pos}{wi:TI}{g:TG}{tt:TT}{te:TE}(hc:?db)(hN:X.N.Nodup)(hy:?dh=?bl)(hyl:?DS=?dK)
  (hsw:swapsWith ?hP (some (?o y py)) PK.line X.env=pure true) (hi:?yj) (ok:?kt)
  (hg:∀(s:Shared)(H:Hp)(C:Addr)(cl:?aU)(fp:?X),PG ?bS tg g) (ht:∀(s:Shared)(H:Hp)(C:Addr)(cl:?aU)(fp:?X),KS ?bS ifs tt)
  (he:∀(s:Shared)(H:Hp)(C:Addr)(cl:?aU)(fp:?X),PE ?bS elt te) (hs:?kr:=by intro _;rfl):
  PS X (?di [?o y py] ?hP PK) (oX (Yu wi g tt te (?dX)) ?rp):=by
 show ?sH;rw[exec_Assign_Name_used _ _ _ _ hsw];refine wpAny_bind (wpAny_standAt (?du));show wpAny _ X.A (do let _<-comprehension ?hP scope X.env (firstIterPos [⟨tg,iter,ifs,0⟩] pos) (newList []) false ?xH (some (assign (?o y py) X.env))) _ _ s;have h:Yu wi g tt te (?dX) σ H (?Sx):=h;refine wpAny_bind (ck (HG (Qf:=λ_ s'=>SP X pins D ?km s') hc hN I hi ok hg ht he hs h λL C s' m H' I' q hn f=>?_) λ_ s' hq=>wpAny_pure (wpAny_pure hq));show wpAny _ _ (assign (?o y py) X.env (.ref L)) _ _ _;refine wpAny_assign_Name (zJ (v:=V.ref L) I' hN hy (.inl hyl) rfl (λs2 I2⟨a,sb,ha⟩=>?_) (.inr hyl));refine fO f ?gc;have haC:C≠a:=by
  rcases ha with z|z
  ·rw[z];exact f1
  ·exactλe=>f4 y a z e.symm
 refine⟨m,hn.sameBut sb haC,λh3 sb3=>?_⟩;exact⟨_,H',I2.turned (t':=s2.toks) (λb o hb e=>(sb3.2 b hb).trans e) f0 f1 f3 f4 f5,q⟩
#where
#where
namespace L2
open PySem PySem.Spec PyProof.Rows
theorem wB{σ:St}{i:Nat}:∀{vs:?aw},i∉vs->(?it)[i]?=?jZ
 |[],_=>rfl
 |?eK,h=>by have h1:v≠i:=λe=>h (by rw[e];exact adP);have h2:i∉vs:=λm=>h ?uF;unfold wipe;rw[afB h1];exact wB h2
#where
namespace L2
open PySem PySem.Spec PyProof.Rows
section
variable{κ:Type}[?sY]
def pK(kvs:?fA)(k:κ):?jO:=(kvs.find? ?gP).map ?nO
def putK(kvs:?fA)(k:κ)(v:V):?fA:=
 if(kvs.any ?gP)=true then kvs.map (?Dr)else kvs++[(k,v)]
theorem qI{p:κ×V}{r:?fA}{k:κ}(e:p.1=k):pK (p::r) k=some p.2:=?YQ
theorem qJ{p:κ×V}{r:?fA}{k:κ}(e:¬p.1=k):pK (p::r) k=pK r k:=?YQ
theorem wC(k:κ):∀kvs:?fA,(kvs.any ?gP)=(?lw).isSome
 |[]=>rfl
 |p::r=>by
  rw[amU];by_cases e:p.1=k
  ·simp only[qI e,decide_eq_true e,aqv,apC]
  ·rw[qJ e,decide_eq_false e,arp];exact wC k r
theorem m9(kvs:?fA)(k:κ)(v:V):(?zG).length<=kvs.length+1:=by
 unfold putK;split
 ·rw[aa_];lia
 ·rw[adW,ad2,aod];lia
theorem mV.Ju{o:?jO}{u:?mG}(r:mV o u):o.isSome=u.isSome:=by
 cases o with
 |none=>cases u with
  |none=>rfl
  |some _=>exact ?wA
 |some _=>cases u with
  |none=>exact ?wA
  |some _=>rfl
theorem mV.getD{o:?jO}{u:?mG}{d:V}{d':Value}(r:mV o u)(rd:RelV d d'):RelV (o.getD d) (u.getD d'):=by
 cases o with
 |none=>cases u with
  |none=>exact rd
  |some _=>exact ?wA
 |some _=>cases u with
  |none=>exact ?wA
  |some _=>exact r
theorem KV.val{kvs:?fA}{vs:?pa}(r:?nb)(k:κ):mV (?lw) (valueAt vs k):=by
 unfold KV at r;induction r with
 |nil=>exact ajN
 |@cons p q ps qs h t ih=>
  obtain⟨h1,h2⟩:=h;by_cases e:p.1=k
  ·have e':q.1=k:=?yl;have b:?YR=?Cf:=?Tr
   rw[qI e,b];exact h2
  ·have e':¬q.1=k:=?xl;have b:?YR=valueAt qs k:=?Tr
   rw[qJ e,b];exact ih
theorem KV.any{kvs:?fA}{vs:?pa}(r:?nb)(k:κ):(kvs.any ?gP)=vs.any ?gP:=by
 unfold KV at r;induction r with
 |nil=>rfl
 |cons h t ih=>rw[amU,amU,ih,h.1]
theorem KV.FH{kvs:?fA}{vs:?pa}(r:?nb)(k:κ){y:V}{u:Value}(ry:?eB):
  KV ?Ob (vs.map λkv=>if kv.1=k then(kv.1,u)else kv):=by
 unfold KV at r⊢;induction r with
 |nil=>show ?bJ
 |@cons p q ps qs h t ih=>
  rw[abL,abL];refine ?p ?_ ih;obtain⟨h1,h2⟩:=h;by_cases e:p.1=k
  ·rw[?qK,if_pos (?yl)];exact⟨h1,ry⟩
  ·rw[?qL,if_neg (?xl)];exact⟨h1,h2⟩
theorem KV.put{kvs:?fA}{vs:?pa}(r:?nb)(k:κ){y:V}{u:Value}(ry:?eB):KV (putK kvs k y) (stored vs k u):=by
 unfold putK stored;rw[r.any k];by_cases e:(vs.any ?gP)=true
 ·rw[?qK,?qK];exact r.FH k ry
 ·rw[?qL,?qL];exact as0 r ⟨rfl,ry⟩
theorem KV.length{kvs:?fA}{vs:?pa}(r:?nb):kvs.length=vs.length:=aro r
#where
theorem wD{P:Program}{w:World}{k:Key}{u:Value}(r:RelV (kV k) u):(bf P w).is k u=true:=by
 cases k with
 |inl i=>obtain⟨t,e⟩:=(show∃t,u=asO i t from r);subst e;exact Cw P w i t
 |inr x=>obtain⟨t,e⟩:=(show∃t,u=ar2 x t from r);subst e;exact Cy P w x t
theorem zV{P:Program}{w:World}:∀{ks:?jN}{us:?az},Vals ?KV us->ItemsAre (bf P w) ks us
 |[],_,r=>by rw[agn]at r;cases r;show ?bJ
 |k::ks,_,r=>by
  rw[abL]at r;cases r with
  |cons h t=>exact ?p (wD h) (zV t)
abbrev KT(H:Hp):?jh->?on->Prop:=Paired λp q=>?Nr
theorem KT.val{H:Hp}{kvs:?jh}{xs:?on}(r:?pO)(k:?jN):mV (?lw) ((?lg).map ?nO):=by
 induction r with
 |nil=>exact ajN
 |@cons p q ps qs h t ih=>
  refine i8 h λh1 _ h2=>?_;by_cases e:p.1=k
  ·have e':q.1=k:=?yl;have b:atKey (q::qs) k=?Cf:=?UC
   rw[qI e,b];exact h2
  ·have e':¬q.1=k:=?xl;have b:atKey (q::qs) k=atKey qs k:=?UC
   rw[qJ e,b];exact ih
theorem KT.FH{H:Hp}{kvs:?jh}{xs:?on}(r:?pO)(k:?jN){y:V}{u:Value}(ry:?eB):
  KT H ?Ob (xs.map (putAt k u)):=by
 induction r with
 |nil=>show ?bJ
 |@cons p q ps qs h t ih=>
  rw[abL,abL];refine ?p ?_ ih;refine i8 h ?sX;unfold putAt;by_cases e:p.1=k
  ·rw[?qK,if_pos (?yl)];exact⟨h1,h2,ry⟩
  ·rw[?qL,if_neg (?xl)];exact⟨h1,h2,h3⟩
theorem KT.put{H:Hp}{kvs:?jh}{xs:?on}(r:?pO)(k:?jN){b:Addr}{y:V}{u:Value}(hb:?DT)(ry:?eB):
  KT H (putK kvs k y) (storedH xs k b u):=by
 have e:(kvs.any ?gP)=(?lg).isSome:=by rw[wC,(r.val k).Ju,alx]
 unfold putK storedH;rw[e];by_cases q:(?lg).isSome=true
 ·rw[?nx,?nx];exact r.FH k ry
 ·rw[?qM,?qM];exact as0 r ⟨rfl,hb,ry⟩
theorem KT.keeps{H H':Hp}{kvs:?jh}{xs:?on}(r:?pO)(ht:∀b ys,H b=some ?ls->H' b=some ?ls):KT H' kvs xs:=
 Paired.TV r λ_ _ z=>?QY
section
theorem Sh{P:Program}{w:World}{H:Hp}{h:Heap}{a:Addr}{u:HO}(ok:?fe)(e:Rd H a u):dg P w H h a u:=e.ok ok
theorem C7{P:Program}{w:World}{H:Hp}{h:Heap}{a:Addr}{kvs:?dZ}(ok:?fe)(e:Rd H a ?ei):?CM:=
 show dg P w H h a ?ei from Sh ok e
theorem Si{P:Program}{w:World}{H:Hp}{h:Heap}{a:Addr}{kvs:?dZ}(ok:?fe)(e:H a=some ?ei):?CM:=C7 ok (.inl e)
theorem A4{P:Program}{w:World}{H:Hp}{h:Heap}{a:Addr}{ks:?jN}(ok:?fe)(e:H a=some (.tup ?KV)):(?su).is h ks a:=by refine K_ ((show dg P w H h a (.tup ?KV)from ok a _ e)) λ_ aL r o h1 h2 n h3=>?_;exact⟨o,aL.toArray,n,h1,h2,h3,by simpa using zV r⟩
theorem C8{P:Program}{w:World}{H:Hp}{h:Heap}{a:Addr}{kvs:?jh}(ok:?fe)(e:Rd H a ?np):?wS/\?oz/\
  ∃xs,?pO/\h.DictOfH (?su) a xs:=by
 refine AN ((show dg P w H h a ?np from Sh ok e)) λz y xs r o es ep h1 h2 h3 h4 h5=>?_;refine⟨z,y,xs,r,o,es,ep,h1,h2,h3,h4,?jF,h5⟩;have all:∀{l:?jh}{m:?on},KT H l m->∀x∈m,(?su).is h x.1 x.2.1:=by
  intro l m q;induction q with
  |nil=>intro x hx;exact nomatch hx
  |@cons p q ps qs hq t ih=>
   intro x hx;rcases aed.mp hx with e|hx
   ·subst e;exact A4 ok (by rw[<-hq.1];exact hq.2.1)
   ·exact ih x hx
 exact all r x hx
theorem Yz{P:Program}{w:World}{H:Hp}{h:Heap}{a:Addr}{kvs:?jh}(ok:?fe)(e:H a=some ?np):?wS/\?oz/\
 ∃xs,?pO/\h.DictOfH (?su) a xs:=C8 ok (.inl e)
#where
def PL(H:Hp)(a:Addr)(y:V)(r:?jO):Prop:=
 (∃kvs k,Rd H a ?ei/\y=kV k/\r=?lw)\/∃kvs k b,Rd H a ?np/\y=?cH/\?DT/\r=?lw
def LK(H:Hp)(a:Addr)(y v:V)(H':Hp):Prop:=
 (∃kvs k,H a=some ?ei/\y=kV k/\?FB/\H'=upd H a (.dK (?zG)))\/
 ∃kvs k b,H a=some ?np/\y=?cH/\?DT/\?FB/\H'=upd H a (.dT (?zG))
theorem LK.k{H:Hp}{a:Addr}{kvs:?dZ}{k:Key}{v:V}(e:H a=some ?ei)(hl:?FB):LK H a (kV k) v (upd H a (.dK (?zG))):=.inl ⟨kvs,k,e,rfl,hl,rfl⟩
section
theorem Inv.big{X:Cx}{pins:?aF}{σ:St}{H:Hp}{s:Shared}(I:?r):sysModules<s.heap.objs.size:=by have h:mainGlobals<s.heap.objs.size:=(I.mod.glob.keeps I.bk).lt;exact Nat.lt_trans (?c) h
theorem Jv{X:Cx}{pins:?aF}{σ:St}{H:Hp}{s:Shared}{a:Addr}{y v:V}{u:Value}{A:Around}{E:?ap}{Q:?ap}(hu:?HF)(I:?r)(g:PL H a y (?V))(ry:?eB)(h:∀w' s',?FS->RelV v w'->Q w' s'):
  wpAny ?K A (getItem (?C) u) Q E s:=by
 show ?OB
 ·subst ey;refine mS ?Ar ?Fa;refine ag (mV.some_of (v:=v) (o:=valueAt vs k) ?RR) λw' hw Jr=>?_;exact wpAny_getItem_of (wD ry) dd.mapOf hw (h w' _ (?cG) Jr)
 ·subst ey;cases ?EW;refine mS ?As ?Fb;refine ag (mV.some_of (v:=v) (o:=(?lg).map ?nO) ?RR) λw' hw Jr=>?_;refine ag (afv.mp hw) λp hp hp2=>?_;refine wpAny_getItem_heap (?EL) (?LZ) dd hp ?_;rw[hp2];exact h w' _ (?cG) Jr
theorem vS{X:Cx}{pins:?aF}{σ:St}{H:Hp}{s:Shared}{a:Addr}{h':Heap}{t':Nat}{ob:HO}(I:?r)(mu:WK (H a))(hs:ai3 a s.heap h')(he:∃q,h'.get? a=?lN)(new:dg X.prog X.w (upd H a ob) h' a ob):
  Inv X pins σ (upd H a ob) ?ku:=
 I.write (x:=a) (e:=a) mu (?y) (λb q hb z=>(hs.2 b hb).trans z) he new
theorem LL{a:Addr}{P:Program}{w:World}{H':Hp}{h':Heap}{kvs:?dZ}{vs:?sz}(z:?wS)(hd:?oz)(rel:?nb)(dd:h'.DictOf (bf P w) a vs):
 dg P w H' h' a ?ei:=⟨z,hd,vs,rel,dd⟩
theorem Jw{X:Cx}{pins:?aF}{σ:St}{H:Hp}{s:Shared}{a:Addr}{y v:V}{u r:Value}{A:Around}{E:?ap}{H':Hp}{Q:Unit->?kY}(hu:?HF)(I:?r)(g:LK H a y v H')(ry:?eB)(rv:RelV v r)(h:∀s',?jf->?vl):
  wpAny ?K A (setItem (?C) u r) Q E s:=by
 rcases g with⟨kvs,k,e,ey,l,eH⟩|⟨kvs,k,b,e,ey,eb,l,eH⟩
 ·subst ey eH;refine mS (Si I.bq e) ?Fa;have hz:?Wv:=by rw[<-rel.length];exact z
  show ?NO
  refine wpAny_setItem_pairs (hsz:=hz) (wD ry) dd ?Xz;have he:∃q,h'.get? a=?lN:=let⟨q,_,_,hq,_⟩:=PM;?Ma;exact vS I ?wV hs he (LL hl hd (rel.put k rv) PM)
 ·subst ey eH;cases ?EW;refine mS (Yz I.bq e) ?Fb;have hz:?ev:=by rw[<-aro rel];exact z
  show ?NO
  refine wpAny_setItem_heap (hsz:=hz) (?EL) (?LZ) dd ?Xz;refine sF PM λq es ep hq h2 h3 h4 _ h5=>?_;refine vS I ?wV hs ?Ma ⟨hl,hd,_,(rel.put k eb rv).keeps λc ys ec=>?_,q,es,ep,hq,h2,h3,h4,h5⟩;rw[ae (Hn ec e (λz=>nomatch z))];exact ec
#where
def HH(td ty tv:TE):TS:=λD σ H=>tv σ H λv H1=>td σ H1 λx H2=>ty σ H2 λy H3=>∃a H4,x=?C/\LK H3 a y v H4/\D.nx σ H4
section
theorem HI{X:Cx}{o i value:Expr}{pos pos':Pos}{td ty tv:TE}(hu:?oX)(ho:PE X o td)(hi:PE X i ty)(hv:?IY)(hs:swapsWith value (some (?hn o i pos')) pos.line X.env=?ff):
  PS X (?di [?hn o i pos'] value pos) (HH td ty tv):=by
 show ?sH;refine wpAny_Assign_Subscript (ck (hv pins s σ H _ I h) λr s1⟨v,H1,I1,rv,q1⟩=>ck (ho pins s1 σ H1 _ I1 q1) λu s2⟨x,H2,I2,rx,q2⟩=>ck (hi pins s2 σ H2 _ I2 q2) λiv s3⟨y,H3,I3,ry,a,H4,ex,g,q3⟩=>?_) hs;subst ex;show ?yX;exact Jw hu I3 g ry rv λs4 I4=>⟨σ,H4,I4,q3⟩
#where
theorem C9{P:Program}{w:World}{H:Hp}(h:Heap)(hb:sysModules<h.objs.size):dg P w H (h.push ?es) h.objs.size (.dK []):=
 ⟨?bg,beq_eq_false_iff_ne.mpr (ahI (af1 hb)),[],.nil,asp h⟩
def Uw:TE:=λ_ H Q=>∀p,?fi->Q (?af) ?FV
def A5:?tq->St->Hp->(?KW->?aZ)->Prop
 |[],_,H,Q=>Q [] H
 |(tk,tv)::r,σ,H,Q=>tk σ H λx H1=>tv σ H1 λy H2=>A5 r σ H2 λps H3=>Q ((x,y)::ps) H3
abbrev VV:?KW->?Ww->Prop:=Paired λp q=>RelV p.1 q.1/\RelV p.2 q.2
def PPs(X:Cx)(pos:Pos)(keys:?sv)(values:?bz)(trs:?tq):Prop:=
 ∀(pins:?aF)(s:Shared)(σ:St)(H:Hp)(Q:?KW->?aZ),?r->A5 trs σ H Q->
  wpAny ?K X.A (evalPairs (pairTrees keys values X.env pos)) (λvs s'=>∃ps H',?jf/\VV ps vs/\Q ps H') X.xe s
theorem LM{X:Cx}{pos:Pos}{k v:Expr}{ks:?sv}{vs:?bz}{tk tv:TE}{trs:?tq}(hk:PE X k tk)(hv:PE X v tv)(hr:PPs X pos ks vs trs):
  PPs X pos (?as::ks) (?eK) ((tk,tv)::trs):=λpins s σ H Q I h=>
 pairTrees_cons_walk (ck (hk pins s σ H _ I h) λu s1⟨x,H1,I1,rx,q1⟩=>ck (hv pins s1 σ H1 _ I1 q1) λw2 s2 ?YS=>
  ck (hr pins s2 σ H2 _ I2 q2) (by intro ws s3 YA;refine ah YA λps H3 I3 rel q3=>?_;exact⟨(x,y)::ps,H3,I3,?p ⟨rx,ry⟩ rel,q3⟩))
def kN(kvs more:?dZ):?dZ:=more.foldl (λacc kv=>putK acc kv.1 kv.2) kvs
theorem KV.merge:∀{more:?dZ}{rs:?sz}{kvs:?dZ}{vs:?sz},KV more rs->?nb->KV (kN kvs more) (merged vs rs):=by
 intro more rs kvs vs r;unfold KV at r;induction r generalizing kvs vs with
 |nil=>intro q;exact q
 |@cons p q ps qs h t ih=>
  intro r0;have e:KV ?FW (stored vs q.1 q.2):=by have:=r0.put p.1 h.2;rw[<-h.1];show ?eM
  exact ih e
theorem pf:∀(more kvs:?dZ),(kN kvs more).length<=kvs.length+more.length
 |[],kvs=>by show kvs.length<=kvs.length+0;lia
 |p::r,kvs=>by have h1:=pf r ?FW;have h2:=m9 kvs p.1 p.2;show(kN ?FW r).length<=_;rw[ad2];lia
theorem wF{P:Program}{w:World}:∀{kvs:?dZ}{ws:?Ww},VV (kvs.map ?Fc) ws->∃rs,Carries (bf P w) ws rs/\KV kvs rs
 |[],_,r=>by rw[agn]at r;cases r;exact⟨[],ajN,.nil⟩
 |p::kvs,_,r=>by
  rw[abL]at r;cases r with
  |@cons a b as bs h t=>
   refine ag (wF (P:=P) (w:=w) t) λrs c q=>?_;obtain⟨b1,b2⟩:=b;exact⟨(p.1,b2)::rs,⟨wD h.1,rfl,c⟩,?p ⟨rfl,h.2⟩ q⟩
def YB(trs:?tq):TE:=λσ H Q=>∀p,?fi->A5 trs σ ?FV λps H2=>H2 p=some (.dK [])/\∃kvs:?dZ,ps=kvs.map (?Fc)/\kvs.length<=15/\Q (?af) (upd H2 p (.dK (kN [] kvs)))
theorem PN{X:Cx}{pos:Pos}{keys:?sv}{values:?bz}{trs:?tq}(h:?Sy)(hall:?Sz)(hl:?SA)(h0:keys≠[])
  (h15:keys.length<=15):PE X ?Ts (YB trs):=by
 intro pins s σ H Q I q;have hn:=I.bq.fresh (abB s.heap.objs.size);have I1:=I.laid (a:=s.heap.objs.size) (o:=.dK []) (h':=s.heap.push ?es) (t':=s.toks) (λ_ _ q=>?eE) ?A ?YT;refine wpAny_Dict_walk (knd:=?Jd) hall hl h0 h15 (ck (h pins _ σ _ _ I1 (q _ hn)) λws s2⟨ps,H2,I2,rel,e,kvs,ep,lk,q2⟩=>?_);subst ep;refine ag (wF (P:=X.prog) (w:=X.w) rel) λrs c rk=>?_;refine mS (Si I2.bq e) λz hd vs0 r0 dd=>?_;cases r0;refine⟨rs,c,dd,λh' PM hs=>⟨?bT,_,?_,rfl,q2⟩⟩;have hz:(kN [] kvs).length<=sizeLine:=by have h1:=pf kvs [];rw[aod]at h1;rw[sizeLine_eq];lia
 have he:∃q,?SS=?lN:=let⟨q,_,_,hq,_⟩:=PM;?Ma;exact vS I2 ?wV hs he (LL hz hd (rk.merge .nil) PM)
structure M2(X:Cx)(o:Expr)(m:Str)(apos:Pos)(e f:Expr)(cpos:Pos):Prop where
 base:attributeBase o m X.env (?fB)=?fB
 few:((?Pt).all ?tP&&?CR
  &&decide (([e,f]:?bz).length+?wr+?vG<30))=true
 line:?iX
 trees:?Pt=[?kA,(false,eval f X.env)]
def IsD(H:Hp)(a:Addr):Prop:=(∃kvs,Rd H a ?ei)\/∃kvs,Rd H a ?np
theorem Ux{X:Cx}{pins:?aF}{σ:St}{H:Hp}{s:Shared}{a:Addr}(I:?r)(d:IsD H a):
  s.TypeIs (?C) ?gD/\(∀b,afZ a=?cH->∃ob,?aN=?rc/\ob.dict=none)/\?oz:=by
 rcases d with⟨kvs,e⟩|⟨kvs,e⟩
 ·refine mS ?Ar λ_ hd vs _ dd=>?_;refine⟨dd.typeIs,?uG,hd⟩;cases q;refine ?RS;exact⟨ob,h1,h2.2.1⟩
 ·refine mS ?As λ_ hd xs _ dd=>?_;refine⟨dd.typeIs,?uG,hd⟩;cases q;refine ?RS;exact⟨ob,h1,h2.2.1⟩
section
theorem Uy{X:Cx}{pins:?aF}{σ:St}{H:Hp}{s:Shared}{a:Addr}{y d:V}{u r:Value}{o:?jO}{A:Around}{E:?ap}{Q:?ap}(hu:?HF)(I:?r)(g:PL H a y o)(ry:?eB)(rd:RelV d r)(h:∀w' s',?FS->RelV (o.getD d) w'->Q w' s'):
  wpAny ?K A (call (?U "dict.get") [?C,u,r]) Q E s:=by
 show ?OB
 ·subst ey;refine mS ?Ar ?Fa;refine call_meetsIn aoN dd.typeIs aqw (aqf _ _ _) (meets_dict_get_default (?Jd) a (wD ry) hd r) ⟨_,dd.mapOf,h _ _ (?cG) ?_⟩;rw[l];exact ?YU
 ·subst ey;cases ?EW;refine mS ?As ?Fb;refine call_meetsIn aoN dd.typeIs aqw (aqf _ _ _) (meetsH_dict_get_default (tupleKind (?Jd)) a b hd r) ⟨?EL,k,xs,?LZ,dd,h _ _ (?cG) ?_⟩;rw[l];exact ?YU
#where
def Uz(td ty tx:TE):TE:=λσ H Q=>td σ H λx H1=>∃a,x=?C/\IsD H1 a/\ty σ H1 λy H2=>tx σ H2 λz H3=>∃o,PL H3 a y o/\Q (o.getD z) H3
section
theorem LN{X:Cx}{o e f:Expr}{apos cpos:Pos}{td ty tx:TE}(hu:?oX)(ho:PE X o td)(he:PE X e ty)(hf:PE X f tx)(m:?RT):PE X (?I (?aq o "get" apos) [e,f] [] cpos) (Uz td ty tx):=by
 show ?yt;refine wpAny_Call_method m.base m.few m.line aqg aoN PySem.F.type_dict_get (ck (ho pins s σ H _ I h) λu s1⟨x,H1,I1,rx,a,ex,d,q1⟩=>?_);subst ex;show ?yX;refine i8 (Ux I1 d) λt1 t2 _=>?_;refine⟨t1,t2,?_⟩;rw[m.trees];refine akG rfl (anC (akv (ck (he pins s1 σ H1 _ I1 q1) λiv s2 ?YS=>
  akv (ck (hf pins s2 σ H2 _ I2 q2) λfv s3⟨z,H3,I3,rz,ov,g,q3⟩=>anz ?_))))
 exact Uy hu I3 g ry rz λw' s4 I4 Jr=>⟨_,H3,I4,Jr,q3⟩
#where
#where
namespace L2
open PySem PySem.Spec PyProof.Rows
theorem C_:entryFor table ?FX=some Builtin.«dict.update.loop»:=entryFor_of_tree ?ak
theorem m_:plainId ?FX=true:=?g
#where
namespace L2
open PySem PySem.Spec PyProof.Rows
theorem wG:bootBuiltins ?iu=some (?n ?iu):=?g
section
theorem Inv.PQ{X:Cx}{pins:?aF}{σ:St}{H:Hp}{s:Shared}{h':Heap}{t':Nat}{ch:?X}(I:?r)(k:∀b o,?kc->?aN=?d->?aY=?d)(hf:∀b∈ch,?po):Inv X pins σ H ?ku:=by
 have R6:∀b u,H b=?Q->?kc:=?NM
 refine I.step (g':=s.gens) (d':=s.drawn) (ch:=ch) ?MC (λb o _ _ hc e _=>?AU) ?Of
  (λ_ _ _ _ n=>n) (λb o hc e=>⟨o,?AU⟩) (λ_ _ e=>e) (λ_ _ _ e=>e) (λb ps e=>⟨#[],?tn⟩) ?JU ?IW I.bare
 ·refine ?SV;exact ?NY
 ·refine ?Ni;rcases hc with z|z
  ·rw[z];exact R6 b u e
  ·exact R6 c _ z
theorem Inv.sP{X:Cx}{pins:?aF}{σ:St}{H:Hp}{s:Shared}{h':Heap}{t':Nat}{ch:?X}{T:Addr}{ob:HO}(I:?r)(k:∀b o,?kc->?aN=?d->?aY=?d)(hf:∀b∈ch,?po)(hT:?mk)
  (new:dg X.prog X.w (upd H T ob) h' T ob):Inv X pins σ (upd H T ob) ?ku:=by
 have hn:H T=none:=I.bq.fresh hT;have R6:∀b u,H b=?Q->?kc:=?NM
 refine I.step (g':=s.gens) (d':=s.drawn) (ch:=ch) ?MC (λb o _ _ hc e _=>?AU) ?Of
  (λb o _ e n=>?_) (λb o hc e=>⟨o,?AU⟩) (λb xs e=>?_) (λb o u e=>?_) (λb ps e=>⟨#[],?_⟩) ?JU ?IW I.bare
 ·rw[ae (af1 (afR (?bO) hT))];exact n
 ·rw[?Kf];exact e
 ·rw[?Kf];exact e
 ·rw[?Kf,e];simp
 ·refine ?SV;exact ?NY
 ·by_cases hb:b=T
  ·subst hb;rw[aa]at e;cases e;exact new
  ·rw[ae hb]at e;refine(I.bq b u e).wm (λc v hc q=>k c v ?_ q) (λc q=>?oo) λc xs q=>?oo
   rcases hc with z|z
   ·rw[z];exact R6 b u e
   ·exact R6 c _ z
theorem Inv.lock{X:Cx}{pins:?aF}{σ:St}{H:Hp}{s:Shared}{d:Addr}{u:HO}(I:?r)(h:H d=?Q)(mu:WK (?Q)):∃od,Inv X pins σ ?Vx s:=by
 have x:=I.bq d u h;have ex:∃od,?jt=some od:=by
  cases u with
  |lst xs=>refine mT x λ_ _ _ _ e=>?_;exact ?CJ
  |dK kvs=>refine ?Re;exact ?uW
  |dT kvs=>refine ?Re;exact ?uW
  |set S n=>refine dw x λo _ _ _ e _=>?_;exact ?uW
  |ins C dx fs=>refine o9 x λ_ _ _ e _=>?_;exact ?CJ
  |ext φ=>refine i8 x λ_ YC _=>?_;clear x;obtain⟨_,e⟩:=YC;exact ?CJ
  |_=>exact ag0 mu
 obtain⟨od,e⟩:=ex;have new:dg X.prog X.w ?Vx s.heap d (.vQ od u):=by
  refine⟨e,x.wm (λb v _ q=>q) (?uG) λb xs q=>?_⟩
  ·rw[?Ov];exact q
  ·rw[?Ov];exact q
 exact⟨od,I.write (x:=d) (e:=d) (t':=s.toks) (h':=s.heap) (by rw[h];exact mu) (?y) (λb v _ q=>q) ⟨od,e⟩ new⟩
#where
section
theorem A6{X:Cx}{tg:Expr}{pins:?aF}{σ:St}{H:Hp}{s:Shared}{R:It->?aZ}{J:It}{tn:?HA}{tk:Nat}(I:?r)(o:Obj)
  (T:Turn X.prog X.w X.K tg J ?XA s.heap.objs.size tn) (st:tn 0 (s.heap.push o)) (q:R J H):Xx X pins σ tg R (?bT) {s with heap:=s.heap.push o,toks:=tk}:=by
 refine⟨s.heap.objs.size,?XA,tn,J,H,rfl,I.kept λb ob e=>?gy,T,st,?hl,q⟩;have e:b=s.heap.objs.size:=?ds
 subst e;exact I.AQ ?A (I.bq.fresh ?A)
#where
def Itv(K:aaU)(a:Addr)(n:Nat):It:=
 ⟨λi H=>i<n/\∃(xs:?B)(x:V),?fc/\xs[n-1-i]?=?F,λi H x H'=>H'=H/\∀xs,?fc->xs[n-1-i]?=?F,λi _=>n<=i⟩
theorem LO{P:Program}{w:World}{K:aaU}{tg:Expr}(a it:Addr)(n:Nat):Turn P w K tg (Itv K a n) [it] it (λi h=>i<=n/\h.IsRevIter it a (?cV-1-?bd))where
 mem:=?J
 obj:=λi h st b hb=>by
  have e:b=it:=?ds
  subst e;obtain⟨_,o,e,c,d⟩:=st;exact ?Pl
 keep:=λi h h' st k=>⟨st.1,st.2.at λo e=>k it ?i o e⟩
 item:=by
  show ?dU;show ?ej;refine mT hg λhin xs x hq hx=>?_;refine aG ?jD ?He;refine ?DI;refine fO (hf it ?i) ?gc;obtain⟨_,hit⟩:=st;have e1:?cV-1-(?bd:Int)=?YV:=?M
  rw[e1]at hit;refine wpAny_pyNext_rev_item hit p.isList (x:=u) ?oH ?yx;have e2:?YV-1=?cV-1-((i+1:Nat):Int):=?M
  rw[e2]at vR;have I1:Inv X pins σ H ?bw:=I.turned (t':=s.toks) ?vS f0 f1 f3 f4 f5;refine aG ?vm λo e c d=>?_;exact⟨u,rfl,zM (s:=?bw) e c d (?c) ⟨x,H,I1,ru,⟨rfl,?Dq⟩,⟨hin,vR⟩,?oI⟩⟩
 done:=by
  show ?dU;show ?ej;refine fO (hf it ?i) ?gc;obtain⟨hin,hit⟩:=st;have hge:n<=i:=hg;have e1:?cV-1-(?bd:Int)=-1:=?M
  rw[e1]at hit;exact wpAny_pyNext_rev_end ?cL hit ?CN
 self:=λA i s Q E st h=>wpAny_pyIter_revIter st.2 h
def ahl(K:aaU)(ta:TA):TI:=λσ H R=>ta σ H λvs H1=>∃(a:Addr)(xs:?B),vs=[?C]/\?JY/\R (Itv K a xs.length) H1
section
theorem Dc{X:Cx}{tg:Expr}{e:Expr}{ta:TA}{p pos:Pos}(hg:Gl X ?iu)(hm:X.mg ?iu=none)(ha:PA X [e] ta)(hs:?oR=[?kA]:=by rfl):PI X tg (?I (?o ?iu p) [e] [] pos) (ahl X.K ta):=by
 intro pins s σ H R I h;refine Call_ (i9 I hg hm wG (agW (ck ?RU λus s1 ?mm=>?_) hs rfl));refine ah q1 λa xs e hq q=>?_;subst e;cases r1 with
 |cons r rr=>
  cases rr;cases r;refine aG ?px λaL rv p' hz=>?_;show ?ua;have e1:?QN=?HC-1-((0:Nat):Int):=by simp only[afS];lia
  refine call_reversed_list p'.isList (wpAny_pyIter_revIter (l:=a) (i:=?QN) ?gb ?_);refine A6 (tk:=s1.toks) I1 _ (LO a _ xs.length) ⟨?bg,?_⟩ q;rw[<-e1];exact ?gb
#where
def Its(x:Str):It:=⟨λi _=>i<x.cps.size,λi H v H'=>H'=H/\∃c,x.cps[i]?=?bj/\v=.str ?gm,λi _=>x.cps.size<=i⟩
theorem Dd{P:Program}{w:World}{K:aaU}{tg:Expr}(it:Addr)(x:Str)(t:Tok)(ty:String)(hty:ty=?Vy\/ty="str_iterator"):
  Turn P w K tg (Its x) [it] it ?Qj where
 mem:=?J
 obj:=λi h st b hb=>by
  have e:b=it:=?ds
  subst e;refine aG st λo e c d=>?_;exact ?Pl
 keep:=λi h h' st k=>let⟨o,ho,r⟩:=st;⟨o,k it ?i o ho,r⟩
 item:=by
  show ?dU;show ?ej;refine fO (hf it ?i) ?gc;have W:Walks X.prog X.w X.A it [it] [it] x.cps.size (SignAt x) ?Qj:=by
   show ?AQ
   ·rw[e];exact Walks.strAscii ?cL it x t
   ·rw[e];exact Walks.strWide ?cL it x t
  have CT:?vz ty=false:=by
   show ?AQ
   ·rw[e];decide
   ·rw[e];decide
  refine ?Oi;refine bR hv λc u hcx YD=>?_;clear hv;subst YD;have I1:Inv X pins σ H ?gO:=I.turned (λb o hb e=>kk b o (?ds) e) f0 f1 f3 f4 f5;refine aG ?vm λoi e cc dd=>?_;exact⟨_,rfl,zM (s:=?gO) e cc dd CT ⟨.str ?gm,H,I1,⟨u,rfl⟩,⟨rfl,c,hcx,rfl⟩,vR,?oI⟩⟩
 done:=by
  show ?dU;show ?ej;refine fO (hf it ?i) ?gc;have hx:x.cps[i]?=none:=aqx hg;show ?AQ
  ·rw[e]at st;exact wpAny_pyNext_ascii_end ?cL st hx ?CN
  ·rw[e]at st;exact wpAny_pyNext_wide_end ?cL st hx ?CN
 self:=λA i s Q E st h=>by
  show ?AQ
  ·rw[e]at st;exact wpAny_pyIter_striter_ascii st h
  ·rw[e]at st;exact wpAny_pyIter_striter_wide st h
def Ite(K:aaU)(a:Addr):It:=
 ⟨λi H=>∃(xs:?B)(x:V),?fc/\?hI=?F,λi H v H'=>∃T x,v=?rv/\H T=none/\H'=upd H T (.tup [.int ?bd,x])/\∀xs,?fc->?hI=?F,λi H=>∃xs:?B,?fc/\?zM⟩
theorem Jx{P:Program}{w:World}{K:aaU}{elts:?bz}{kk:Nat}{YE:Pos}(a e it:Addr):
  Turn P w K (?ka elts kk YE) (Ite K a) [e,it] e (λi h=>(∃old,IsEnum h e it (?bd:Int) old)/\?Wm/\e≠it)where
 mem:=?J
 obj:=λi h st b hb=>by
  refine i8 st λYF YG _=>?_;clear st;obtain⟨old,he⟩:=YF;obtain⟨o,ho,hc,hd⟩:=YG;have e':b=e\/b=it:=?ds
  rcases e' with z|z
  ·rw[z];exact⟨_,he,?xU⟩
  ·rw[z];exact⟨o,ho,λv q=>by rw[hd]at q;cases q⟩
 keep:=λi h h' st k=>let⟨⟨old,he⟩,hi,hne⟩:=st;⟨⟨old,k e ?i _ he⟩,hi.at λo q=>k it ?i o q,hne⟩
 item:=by
  show ?dU;show ?ej;refine i8 st λYH hit hne=>?_;clear st;obtain⟨old,he⟩:=YH;refine bR hg λxs x hq hx=>?_;refine aG ?jD ?He;refine ?DI;have hel:e<s.heap.objs.size:=ae8 he;have hil:it<s.heap.objs.size:=by refine ag hit λ_ q _=>?_;exact ae8 q
  refine wpAny_pyNext_enum_item he hit p.isList (x:=u) ?oH hne λh' ho LP hT hsz hk=>?_;refine⟨_,rfl,wpAny_letOwnedTupleGo_enum (s:={s with heap:=h',toks:=?nu}) ho λLI he' sb=>?_⟩;have hT2:?SW=some {cls:=?n ?be,data:=.seq #[.int i s.toks,u]}:=(sb.2 _ (alS hel)).trans hT;have new:dg X.prog X.w (upd H s.heap.objs.size (.tup [.int ?bd,x])) LI s.heap.objs.size (.tup [.int ?bd,x]):=
   ⟨?RV,[.int i s.toks,u],?p ?ad (?p ru .nil),?UD⟩
  have I1:Inv X pins σ (upd H s.heap.objs.size (.tup [.int ?bd,x])) {s with heap:=LI,toks:=?nu}:=
   I.sP (ch:=[e,it]) (λb ob hb q=>(sb.2 b (λz=>hb ?jx)).trans (hk b ob (λz=>hb ?jx) (λz=>hb ?jx) q)) hf ?A new
  refine⟨?bT,_,I1,rfl,⟨_,x,rfl,I.bq.fresh ?A,rfl,?Dq⟩,⟨⟨u,?_⟩,LP.at λo q=>(sb.2 it (ahI hne)).trans q,hne⟩,?hl⟩
  ·have e1:((i+1:Nat):Int)=?lE+1:=?M
   rw[e1];exact he'
  ·have hb':?xA:=by
    have e':b=e\/b=it:=?ds
    rcases e' with z|z
    ·rw[z];exact hel
    ·rw[z];exact hil
   rw[ae (af1 hb')];exact(hf b hb).1
 done:=by show ?dU;show ?ej;refine i8 st λYI hit hne=>?_;clear st;obtain⟨old,he⟩:=YI;refine ag hg λxs hq hx=>?_;refine aG ?jD ?He;refine fO (hf it ?i) ?gc;show ?ua;exact wpAny_pyNext_enum_end ?cL he hit p.isList ?aj λh' eb=>⟨rfl,I.turned (t':=s.toks) (λb o hb q=>eb b o hb q) f0 f1 f3 f4 f5⟩
 self:=λA i s Q E st h=>let⟨⟨_,he⟩,_⟩:=st;wpAny_pyIter_enum he h
def YJ(K:aaU)(ta:TA):TI:=λσ H R=>ta σ H λvs H1=>∃a xs,vs=[?C]/\?JY/\R (Ite K a) H1
theorem zW:bootBuiltins ?br=some (?n ?br):=?g
#where
section
namespace ahp
open PySem PyProof.Rows
#where
#where
section
namespace TL
open PySem PySem.Builtin PySem.Builtin.Str PySem.StrLaws
#where
#where
namespace L2
open PySem PySem.Spec PyProof.Rows
theorem zX:∀l:List (Str×Tok),Vals ((l.map ?aT).map V.str) (?KX)
 |[]=>.nil
 |p::r=>?p ⟨p.2,rfl⟩ (zX r)
theorem lP:∀{ys:?t}{us:?az},Vals ?ie us->StrsAre us ys
 |[],_,.nil=>.nil
 |y::ys,_,?p r t=>by obtain⟨k,rfl⟩:=r;exact ?p y k (lP t)
def wH(ys:?t):?ha:=λH Q=>∀p,?fi->Q (?af) (upd H p (.lst ?ie))
section
theorem zY{X:Cx}{pins:?aF}{σ:St}{H:Hp}{s:Shared}{Q:VK}{l:List (Str×Tok)}{ys:?t}{k:Nat}(I:?r)(e:l.map ?aT=ys)(hz:?FA)(h:wH ys H Q):
  EP X pins σ Q (?bT) {s with toks:=k,heap:=s.heap.push {cls:=?n ?aC,data:=.seq (?KX).toArray}}:=by
 have hp:=I.bq.fresh ?A;refine⟨?bT,upd H s.heap.objs.size (.lst ?ie),I.laid (λb u q=>?eE) ?A ⟨?FC,?KX,_,?_,?de⟩,rfl,h _ hp⟩;rw[<-e];exact zX l
#where
section
theorem LQ(x:Str):(anM x).length<=?Mb:=by have e1:=StrLaws.words_weight x;lia
theorem De{X:Cx}:O5 X "str.split" (λx xs H Q=>∃a,x=?dC/\xs=[]/\?Fd/\wH (anM a) H Q):=by
 show ?wb;obtain⟨a,rfl,rfl,hz,h⟩:=h;show ?cC;cases rs;have hl:(anM a).length<=sizeLine:=afh (LQ a) ?a;have hn:(?FY).length<=sizeLine:=by have e1:=(StrLaws.sw_weight a).1;have e2:=StrLaws.len_le_wsum (?FY);lia
 refine call_meets ar4 (typeIs_str _ _ _) F.entry_str_split (F.args_str_split_1 _) (meets_str_split_space a t ?a hn) ?_;cases hw:?FY==[(0,a.length)]
 ·show ?sI;rw[strsFrom_eq];exact zY (ys:=anM a) I ((numbered_texts _ _).trans (if_neg (ne_true_of_eq_false hw)).symm) hl h
 ·show ?mL;exact zY (l:=[(a,t)]) (ys:=anM a) (k:=s.toks) I (if_pos hw).symm hl h
theorem HJ{X:Cx}:O5 X "str.join" (λx xs H Q=>∃a p,∃ys:?t,x=?dC/\xs=[?af]/\(cW X.K H p ?ie\/j9 X.K H p ?ie)/\
  ?CX/\Q ?Ha H):=by
 show ?wb;obtain⟨a,p,ys,rfl,rfl,hp,hz,h⟩:=h;show ?cC;cases rs with
 |cons r1 rs=>
  cases rs;cases r1;rcases hp with hp|hp
  ·obtain⟨aL,r,⟨o,n,ho,hc,_,hd⟩,_⟩:=I.list hp;exact PyProof.Rows.join_list (items:=aL.toArray) ⟨o,ho,hc,n,hd⟩ ?Tt hz λt' k=>⟨?cY,H,I.tok k,⟨t',rfl⟩,h⟩
  ·obtain⟨aL,r,ht,_⟩:=I.tuple hp;exact PyProof.Rows.join_tuple (items:=aL.toArray) ht ?Tt hz λt' k=>⟨?cY,H,I.tok k,⟨t',rfl⟩,h⟩
theorem mt0{X:Cx}{id:String}{C:Str->Prop}{g:Str->V}(rule:∀(a:Str)(t:Tok)(s:Shared)(Q:?ap),C a->(∀(u:Value)(k:Nat),RelV (g a) u->Q u {s with toks:=k})->
  wpAny ?K X.A (call (?U id) [.str a t]) Q X.xe s):O5 X id (λx xs H Q=>∃a,x=?dC/\xs=[]/\C a/\Q (g a) H):=by
 show ?wb;obtain⟨a,rfl,rfl,hc,h⟩:=h;show ?cC;cases rs;exact rule a t s _ hc λu k r=>⟨g a,H,I.tok k,r,h⟩
theorem mt1{X:Cx}{id:String}{g:Str->Str->V}(rule:∀(a b:Str)(t u:Tok)(s:Shared)(Q:?ap),(∀(v:Value)(k:Nat),RelV (g a b) v->Q v {s with toks:=k})->
  wpAny ?K X.A (call (?U id) [.str a t,.str b u]) Q X.xe s):O5 X id (λx xs H Q=>∃a b,x=?dC/\xs=[?ru]/\Q (g a b) H):=by
 show ?wb;obtain⟨a,b,rfl,rfl,h⟩:=h;show ?cC;cases rs with
 |cons r1 rs=>
  cases rs;obtain⟨u,rfl⟩:=r1;exact rule a b t u s _ λv k r=>⟨g a b,H,I.tok k,r,h⟩
theorem A7{X:Cx}:eJ X (?n ?fW) (λxs H Q=>∃a n,xs=[?dC]/\aqW a=?nU/\a.length<=640/\Q (?en) H):=by
 intro pins s σ H xs us Q I rs h;obtain⟨a,n,rfl,hn,hl,h⟩:=h;cases rs with
 |cons r1 rs=>
  cases rs;show ?ti;exact PySem.W.KIN.call_text hn hl ⟨?en,H,?cG,?ad,h⟩
#where
#where
namespace L2
open PySem PySem.Spec PyProof.Rows
#where
namespace Att
open PySem PySem.W PySem.Calls PyProof.Rows
#where
namespace L2
open PySem PySem.Spec PyProof.Rows
#where
namespace L2
open PySem PySem.Spec PyProof.Rows
#where
namespace L2
open PySem PySem.Spec PyProof.Rows
def jn(s:Stmt):Arguments:=match s with
 |?zQ _ a _ _ _ _ _ _ _ _=>a
 |_=>{posonlyargs:=[],args:=[],vararg:=none,kwonlyargs:=[],kw_defaults:=[],kwarg:=none,defaults:=[]}
def bQ(s:Stmt):?uB:=match s with
 |?zQ _ _ b _ _ _ _ _ _ _=>b
 |_=>[]
def af(s:Stmt):Scope:=match s with
 |?zQ _ _ _ _ _ _ sc _ _ _=>sc
 |_=>{kind:=?na,names:=[],isGenerator:=false,isCoroutine:=false}
abbrev E0:XK:=?sZ
structure E3(K:aaU)(x qual:Str)(st:Stmt)(f:Addr)(fd:FuncData):Prop where
 ex:∃(oc:Value)(od:?gl)(kV doc pm:Value)(an:?gl)(cdv ct:Value)(osl:Array (?mG)),
  fd=aou x qual (jn st) ?nC ?bH ?P kV doc pm an cdv ct/\?uf=some ⟨oc,od,.func fd,osl⟩/\?Fz
 kp:aiT K ?aH=true
section
theorem E3.binds{K:aaU}{x qual:Str}{st:Stmt}{f:Addr}{fd:FuncData}{ps:?t}(F:?xm)
  (h:∀(kV doc pm:Value)(an:?gl)(cdv ct:Value)(us:?az),?xh->bindArgs (aou x qual (jn st) ?nC ?bH ?P kV doc pm an cdv ct) ?pM=pure ?lc):?jl:=by
 refine bU F.ex λoc od kV doc pm an cdv ct osl YK lk hcd=>?_;subst YK;exact .all (h kV doc pm an cdv ct)
#where
section
theorem pv{X:Cx}(i:Nat){x:Str}{pos:Pos}(hN:?dh=?F:=by rfl)(hv:?pb:=by first|show ?lK|exact amH (akV rfl)|exact amH (amH rfl))(hd:?bh:=by decide)
 (hcd:?ok:=by decide):PE X (?o x pos) (bj i):=T1 hN hv hd hcd
#where
theorem yU{A B:Prop}(h:B):if ?Mc then A else B:=by rw[if_neg ago];exact h
theorem wI{A B:Prop}(h:A):if true=true then A else B:=by rw[?bV];exact h
def aj(H H':Hp):Prop:=∀b o,H b=?d->H' b=?d
theorem aj.refl(H:Hp):aj H H:=λ_ _ h=>h
theorem aj.trans{H H1 H2:Hp}(a:?nH)(b:aj H1 H2):aj H H2:=λc o h=>b c o (a c o h)
theorem aj.free{H H':Hp}(e:?lF){l:Addr}(h:H' l=as3):H l=as3:=by
 cases q:H l with
 |none=>rfl
 |some o=>
  rw[e l o q]at h;cases h
section
variable{κ:Type}[?sY]
#where
#where
set_option backward.match.sparseCases true
namespace XX
open PySem PySem.Calls PyProof.Rows PySem.W Builtin Builtin.ObjectAttr
def excIn(K:Frag)(C:Addr):Bool:=match K.lookup C with
 |some ⟨_,_,.cls cd,sl⟩=>!cd.abstract&&(!cd.hasDel&&(cd.hasDict&&((sl.toList[4]?).join==some (?U ?FD)&&(!cd.mro.isEmpty&&(cd.mro.contains ?u&&(cd.mro.contains (?n ?At)&&(cd.mro.contains (?n ?eT)&&
  (!cd.mro.contains (?n "AttributeError")&&(!cd.mro.contains (?n "NameError")&&(specialIn K ?u "__call__"==some (some (?U ?ic))&&instIn K ?u (?n ?lO)==?hv))))))))))
 |_=>false
structure FI(M:Model)(h:Heap)(C:Addr):Prop where
 obj:∃oc od cd sl,h.get? C=some ⟨oc,od,.cls cd,sl⟩/\cd.abstract=false/\cd.hasDel=false/\?Vz/\cd.hasDict=true
 made:Looks M h (Bind.madeBy ?u) (some ?FD)
 base:Looks M h (Bind.staticBase ?u) ?u
 self:Looks M h (isSubtype ?u ?u) true
 exc:Looks M h (isSubtype ?u (?n ?At)) true
 LR:Looks M h (isSubtype ?u (?n ?eT)) true
 Uj:Looks M h (isSubtype ?u (?n "AttributeError")) false
 noN:Looks M h (isSubtype ?u (?n "NameError")) false
 call:Looks M h (specialOf ?u "__call__") (some (?U ?ic))
 typ:Looks M h (isInstance ?u (?n ?lO)) true
theorem wJ{K}(X:?iL)(e:?Im):FI M h C:=by
 unfold excIn at e;show ?aQ
 ·rename_i oc od cd sl ho;simp only[abk,afI,beq_iff_eq]at e;refine qw e λa1 a2 a3 a4 a5 a6 a7 a8 a9 a10 a11 a12=>?_;have hc:clsIn K C=some cd:=by delta clsIn;rw[ho]
  have hm:Looks M h (mroOf ?u) _:=?Qk;have sub:∀{v}{b},cd.mro.contains v=b->Looks M h _ b:=λ{v b}q=>looks_mroIn X (by delta mroIn;rw[hc,ah9,if_neg (by rw[a5];decide),q]);obtain⟨c,l,hl⟩:∃c l,cd.mro=c::l:=by
   cases q:cd.mro with
   |nil=>rw[q]at a5;exact nomatch a5
   |cons c l=>exact⟨c,l,rfl⟩
  have mb:Looks M h (Bind.madeBy _) _:=λA Q E s k q=>by refine ?Rf;rw[hl,amJ];refine wpAny_bind (wpAny_bind (wpAny_bind (wpAny_bind (wpAny_loadPart (k _ _ (X _ _ ho)) (?bx)))));rw[<-amG,a4];exact ?OM
  refine⟨⟨oc,od,cd,sl,X _ _ ho,a1,a2,a5,a3⟩,mb,λA Q E s k q=>(?Rf),sub a6,sub a7,sub a8,sub a9,sub a10,looks_specialIn X a11,looks_instIn X a12⟩;rw[hl,amJ];exact wpAny_bind (wpAny_bind (wpAny_bind (mb A _ E s k (?OM))))
 ·simp at e
abbrev i_(C t:Addr):Obj:={cls:=?cw,data:=?aO #[?dR,?P,?P,?P,?io,?P]}
abbrev FJ:Obj:={cls:=?n ?be,data:=.seq ([]:?az).toArray}
section
theorem YL{os}(Y:FI ?E h C)(hq:R (.ok (.ret (.ref ?pf))) ⟨?rP,g,d,t,os⟩):
  codeAny ?E A (?kp (?U ?FD) ⟨[?cw],[]⟩) R ?pc:=by
 show ?ML;have F:=PySem.F.excBase_Exception;refine codeAny_call_builtin_code (apE _ F.quiet) ?_;have here:Looks ?E h (Bind.madeHere "BaseException.__new__" ?u) ():=base.andThen (made.andThen (Looks.of_pure rfl));have akM:=F.noStar;simp only[checkBuiltinCall,F.newKind,F.newSplit,F.newRow];repeat (first|rfl|lk)
 have akN:=F.ends;refine codeAny_builtinAt F.entry ?_;unfold Builtin.«BaseException.__new__»;refine asq ?_;show PySem.wpAt _ _ _ (PySem.stack>>=_) _ _ _;refine asq (PySem.wpAt_stack λp below=>ard ?_);wp_walk;refine ard ?_;rw[F.owner];repeat (first|with_reducible refine here.at ?_|with_reducible refine exc.at ?_|with_reducible refine Uj.at ?_|with_reducible refine noN.at ?_|wp_step)
 show R _ _;rw[agl];exact hq
theorem x_call{prog:Program}{w:World}{A:Around}{C:Addr}{R:Result->?kY}{h:Heap}{g:Array GenState}{d:Drawn}{t:Nat}{os:OsState}{init:Value}(Y:FI ?E h C)(hi:Looks ?E h (typeLookup ?u ?ck) (some init))
  (hb:∀self,Looks ?E h (bindSpecial init self) (init,[self]))
  (hq:codeAny ?E (A.under (?U ?ic ⟨[?cw],[]⟩)) (?kp init ⟨[.ref ?pf],[]⟩) (InitBack ?pf R) ⟨?rP,g,d,t,os⟩):
  codeAny ?E A (?kp ?u ⟨[],[]⟩) R ?pc:=by
 have Y':=Y;show ?ML;refine ?XB;show wpAny _ _ (callAny ?u _) _ _ _;refine nd_load hC ?_;show wpAny _ _ (arR ?u _) _ _ _;unfold arR;refine wpAny_bind (call.at ?_);dsimp only;rw[tc_bind];refine wpAny_bind (wpAny_pure (wpAny_bind (wpAny_pure (wpAny_pure (a:=Fin.again (?kp (?U ?ic) ⟨[?cw],[]⟩)) (aqh rfl (codeAny_call_builtin_at (apE _ (?g)) entry_typeCall (check_slot tc_kind tc_split typ (tc_args _ _ _) ?_)))))));unfold Builtin.«type.__call__»;have hm:Looks ?E h (mroOf ?u) cd.mro:=((asD (part:=none) hC).andThen .now).andThen .now;repeat (first|simp only[e4,ahn,if_false]|show ?DW|lk)
 refine YL Y' ?_;have k:∀b o,?co=?d->(?rP).get? b=?d:=λb o e=>aba _ (?gy);have hx:(?rP).get? ?pf=some (i_ C h.objs.size):=by heap_get
 have t1:Looks ?E (?rP) (typeOf (.ref ?pf)) ?u:=?EM;have s1:=self.keeps k;have i1:=hi.keeps k;have b1:=(hb (.ref ?pf)).keeps k;unfold isInstance callSpecial? specialOf;repeat (first|show ?DW|lk)
 refine codeAny_mono hq λr s' z=>?_;rcases r with e|(v|_|_|_)<;>first|exact z|show ?lU|skip
 show ?Md;exact wpAny_pure (wpAny_pure z)
#where
def HK(x:String):?KL
 |?n a=>a==x
 |_=>false
def YM:?KL
 |?fo=>true
 |_=>false
def UA:?az->Bool
 |?aE=>HK ?eT a&&HK ?vb b
 |_=>false
def qK:?az->Bool
 |[]=>false
 |v::r=>(YM v&&qK r)||(HK ?At v&&UA r)
theorem ftx{P:Prop}(h:?Mc):P:=?ik
theorem wK(h:HK x v=true):v=?n x:=by
 cases v with
 |type a=>rw(config:={}) [?Au]
 |_=>exact ftx h
theorem uF{P:?az->Prop}(h0:P [?n ?At,?n ?eT,?n ?vb])(h1:∀c r,P r->P (.ref c::r))(e:qK l=true):P l:=by
 induction l with
 |nil=>exact ftx e
 |cons v r ih=>
  rcases Bool.or_eq_true_iff.mp e with e|e
  ·obtain⟨a,b⟩:=?hb e;cases v with
   |ref c=>exact h1 c r (ih b)
   |_=>exact ftx a
  ·obtain⟨a,b⟩:=?hb e;rcases r with _|⟨x,_|⟨y,_|_⟩⟩
   case cons.cons.nil=>
    obtain⟨b,c⟩:=?hb b
    simp_all[wK a,wK b,wK c]
   all_goals exact ftx b
theorem wL self(e:qK l=true):refuseLoop self ?kS l=pure ():=
 uF (P:=λl=>refuseLoop _ _ l=pure _) (aqi.passes _) (λc r h=>by rw[refuseLoop_ref];exact h) e
theorem Df(e:qK l=true):l.contains (?n ?vb)=true:=
 uF (P:=λl=>l.contains _=true) rfl (λc r h=>h) e
def vT(K:Frag)(C:Addr):Bool:=(clsIn K C).any λcd=>qK cd.mro&&cd.hasDict
abbrev lQ(C t d:Addr):Obj:={cls:=?cw,dict:=?bX,data:=?aO #[?dR,?P,?P,?P,?io,?P]}
section
theorem Jy{K}{os}(X:?iL)(hx:?qN=?In)(hov:?Av)(hsa:findIn K ?u ?kS=some (some (?U ?mi)))
  (ht:takerIn K C name=?cv)
  (hq:∀h' PR,?ql=?RW->h'.Ns1 h.objs.size (λy=>if y=name then ?V else none)->(∀b o,?fU->?co=?d->?aY=?d)->Q () ⟨h',g,d,PR,os⟩):
  wpAny ?E A (setAttr ?bn name v) Q E ?pc:=by
 have SF:=aqi;refine ?PV;rw[abk]at ho;obtain⟨ho,UB⟩:=ho;have ne:?Vz:=by
  cases q:cd.mro with
  |nil=>rw[q]at ho;exact nomatch ho
  |cons _ _=>rfl
 have ty:Looks ?E h (typeOf ?bn) ?u:=?EM;have L1:=looks_findIn (M:=?mF) X hsa;have f3:=SF.slot.bind ?bn;unfold setAttr callSpecial? specialOf;repeat (first|show ?mg|with_reducible refine L1.at ?_|show ?DW|wp_step)
 refine ag (afu.mp ht) λattr ha hr=>?_;have hm:Looks ?E h (mroOf ?u) cd.mro:=?Qk;have sub:Looks ?E h (isInstance ?bn (?n ?vb)) true:=ty.andThen (looks_mroIn X (by unfold mroIn;rw[hc,ah9,if_neg (by rw[ne];decide),Df ho]));have L3:Looks ?E h (storeTaker? attr) none:=by
  cases attr with
  |none=>cases hr;exact .now
  |some a=>
   refine ag (afv.mp hr) λb hb O7=>(looks_takesIn X hb).andThen ?_;cases b with
   |true=>show ?aD
   |false=>exact .now
 refine codeAny_call_builtin SF.slot.plain SF.entry (@check_slot ?E _ _ ?FZ ?mi ?vb ?kS ?bn [?mO,v] [] _ SF.kind SF.split sub (SF.args ?bn (?mO) v) ?_);show wpAny _ _ (Builtin.«object.__setattr__» ⟨[?rm,?mO,v],[]⟩) _ _ _;rw[osa_eq,refuse_eq];refine wpAny_bind (wpAny_bind (ty.at (wpAny_bind (hm.at ?_))));rw[wL _ ho];refine wpAny_pure (wpAny_bind (ty.at (wpAny_bind ((looks_findIn X ha).at (wpAny_bind (L3.at ?_))))));show wpAny _ _ (storeInOwnDict ?bn ?u (?mO) name v attr.isSome) _ _ _;unfold storeInOwnDict;refine wpAny_bind (wpAny_pure (?du));unfold ownDictForStores instanceDict;have hcd:=looks_clsIn (M:=?mF) X hc;refine wpAny_bind (wpAny_loadPart hx (wpAny_bind (hcd.at ?_)));rw[UB];have YN:(h.push emptyDict).get? e=?In:=aba _ hx;have hes:e≠h.objs.size:=af1 (ae8 hx);have hx2:(?CP).get? e=?RW:=aj_ _ YN rfl;have hd2:(?CP).get? h.objs.size=some emptyDict:=(arf _ _ _ _ hes.symm).trans (Heap.get?_push_at rfl rfl);have hn2:(?CP).Ns h.objs.size (?iz):=⟨_,#[],_,hd2,rfl,λe he=>absurd he ?i,?ar⟩;show wpAny _ _ (do
  let d<-alloc emptyDict
  PySem.update e λo=>{o with dict:=?bX}
  dictMade ?u e d) _ _ _
 refine wpAny_bind (wpAny_alloc (wpAny_bind (wpAny_update YN ?_)));have dm:dictMade ?u e h.objs.size=pure (some h.objs.size):=rfl;show wpAny _ _ (dictMade ?u e h.objs.size) _ _ _;rw[dm];refine ?bx;show wpAny _ _ (storeInDict h.objs.size (?mO) name v) _ _ _;unfold storeInDict newKeyGuard;refine wpAny_bind (wpAny_pure (wpAny_bind (wpAny_nsSet1 (arP hn2) λh' WN hs=>(gX (WN.count (Within.cons name v Within.nil)) λoD esD epD hoD Pq hcD=>(wpAny_bind (wpAny_lookBehind hoD (by rw[Pq];exact pastItsLine_dict (afh hcD (by rw[ad2,aod,sizeLine_eq];lia))) (?bx)))))));show wpAny _ _ (pure (some ajC)) _ _ _;refine ?bx;show wpAny _ _ (pure PUnit.unit) _ _ _;exact wpAny_pure (hq h' _ ((hs.2 e hes).trans hx2) WN λb o hb Co=>((hs.2 b (af1 (ae8 Co))).trans ((arf _ _ _ _ hb).trans (aba _ Co))))
#where
section
theorem Jz{K}{os}(X:?iL)(hx:?qN=some oe)(hcl:oe.cls=?cw)(hdi:oe.dict=?vo)(hda:oe.data=?aO vs)(hn:h.Ns dx mA)(hv:mA name=?V)
  (hov:?Av) (hga:findIn K ?u ?mo=some (some (?U ?iW))) (hgn:findIn K ?u ?zi=?cv) (hna:findIn K ?u name=?cv)
  (hbx:mroIn K C (?n ?eT)=?hv) (hho:∀Q' E' A' s',Q' v s'->wpAny ?E A' (handedOut v) Q' E' s')
  (hq:Q v ?FZ):wpAny ?E A (getAttr ?bn name b) Q E ?pc:=by
 obtain⟨oc,od,odt,osl⟩:=oe;simp only at hcl hdi hda;subst hcl hdi hda;refine ?PV;rw[abk]at ho;obtain⟨ho,UB⟩:=ho;have ty:Looks ?E h (typeOf ?bn) ?u:=?EM;have L1:=looks_findIn (M:=?mF) X hga;have L2:=looks_findIn (M:=?mF) X hgn;have L3:=looks_findIn (M:=?mF) X hna;have L4:=looks_mroIn (M:=?mF) X hbx;have hcd:=looks_clsIn (M:=?mF) X hc;have FX:=PySem.F.attr_Exception;have f3:=FX.ga.bind ?bn;have hx0:(b&&onTheHeap (an6 ?iW))=false:=by show ?nN
 have hx2:(an6 ?iW==an6 ?DX)=false:=?g
 have YN:(onTheHeap (afZ C)&&an6 ?iW==an6 ?DX)=false:=?H
 unfold getAttr;repeat (any_goals(first|rfl|show ?mg|with_reducible refine L1.at ?_|with_reducible refine L2.at ?_|wp_step))
 have hk:builtinKind ?iW=some .slot:=?H
 have hsp:splitId ?iW=some (?eT,?mo):=?H
 have sub:Looks ?E h (isInstance ?bn (?n ?eT)) true:=ty.andThen L4;refine codeAny_call_builtin FX.ga.plain PySem.F.entry_bexc_ga (@check_slot ?E _ _ ?FZ ?iW ?eT ?mo ?bn [?mO] [] _ hk hsp sub (PySem.F.args_bexc_ga ?bn (?mO)) ?_);show ?RB;have hdz:=UB;repeat (any_goals(first|show ?cJ|show ?mg|with_reducible refine L3.at ?_|with_reducible refine hcd.at ?_|with_reducible refine wpAny_loadPart hx ?_|with_reducible refine wpAny_nsGet hn ?_|wp_step))
 rw[hv];refine wpAny_bind (wpAny_rule (?bx));show wpAny _ _ (ret v) _ _ _;refine ?bx;show wpAny _ _ (handedOut v) _ _ _;exact hho _ _ _ _ hq
#where
#where
namespace XX
open PySem PySem.Calls PyProof.Rows PySem.W
def Moved(l:?X)(e T0:Addr)(h h':Heap):Prop:=
 (∀b o,?fU->?rw->b∉l->?co=?d->?aY=?d)/\∀b o,?fU->?rw->?co=?d->∃sl,?aY=?El
structure jH(g h:Heap)(e C dx T:Addr)(fl cx:Value):Prop where
 obj:∃vs sl,?qN=some ⟨?cw,?vo,?aO vs,sl⟩/\vs[1]?=some (?rv)/\?yz
 ahr:∃oT ts,h.get? T=some oT/\oT.data=?aO ts/\ts[3]?=some fl
 ne:T≠e
 new:?pq
 UC:g.get? T=none
section
theorem HL{s:Shared}(hfr:A.frames=some (?ir))(hl:?oi)(hf:?mq)
  (he:?zj=some ⟨?cw,?vo,?aO vs,sl⟩) (hsz:1<vs.size) (hcx:?yz) (gs:?ks) (ge:?pq)
  (h:∀h',jH g h' e C dx s.heap.objs.size ?uh cx->Moved ?oh e e s.heap h'->?lZ->h'.FunFrames base (?ir)->Q () ?bw):
  wpAny M A (do let a<-frameOf env;let pl<-entryPlaceOf L afy;let b<-arh head a ?P ?uh ?P pl;setField ?bn 1 b) Q E s:=by
 have ahs:e∉(?ir).filterMap _:=λhm=>by
  refine Fc (hl.mem hm) λ_ o ho PU=>?_;rw[he]at ho;injection ho with ho
  subst ho;exact PU _ rfl
 refine wpAny_bind (wpAny_frameOf_fun hfr hl hf λh1 hs=>wpAny_bind (wpAny_entryPlaceOf λpl hpl=>?_));unfold arh newFields;refine wpAny_bind (wpAny_newObj_type ?_ (hpl.sizeOk5 _ _ _ _ _));generalize vd:({cls:=?n _,dict:=none,data:=?aO _}:Obj)=ob;have LS:h1.objs.size=s.heap.objs.size:=hs.1;have he1:h1.get? e=?bk:=(hs.2.1 e ahs).trans he;have he2:(h1.push ob).get? e=?bk:=aba _ he1;have hTe:h1.objs.size≠e:=alS (ae8 he1);refine wpAny_setField he2 rfl hsz (h _ ⟨⟨vs.setIfInBounds 1 (.ref h1.objs.size),sl,?_,?_,?_⟩,?_,?_,ge,gs _ ?A⟩ ⟨λb o hb _ hbl q=>?_,λb o hb _ q=>?_⟩ (λb hb=>gs b ?_) ?_)
 ·exact aj_ _ he2 rfl
 ·rw[<-LS];simp[hsz]
 ·rw[Array.getElem?_setIfInBounds_ne (?c)];exact hcx
 ·rw[<-LS];have hT:((h1.push ob).update e (al9 λx=>x.setIfInBounds 1 (afZ h1.objs.size))).get? h1.objs.size=?rc:=by
   refine(aiC _ _ (ahI hTe)).trans (aeq _ ?_);rw[<-vd];rfl
  refine⟨ob,_,hT,by rw[<-vd],?_⟩;rcases hpl with rfl|⟨_,_,_,_,_,_,_,rfl⟩<;>simp
 ·rw[<-LS];exact hTe
 ·refine(?pd).trans (aba _ ((hs.2.1 b hbl).trans q))
 ·obtain⟨Cp,q'⟩:=hs.2.2 b o q;exact⟨Cp,(?pd).trans (aba _ q')⟩
 ·have z:h1.objs.size+1<=b:=by
   refine afh (ang ?_) hb;simp only[aoT,agl]
  lia
 ·refine hl.of_keeps λb o q PU=>?_;have hb:?fU:=λz=>by
   rw[z,he]at q;injection q with q
   subst q;exact PU _ rfl
  obtain⟨Cp,q'⟩:=hs.2.2 b o q;exact⟨_,(?pd).trans (aba _ q'),rfl⟩
theorem HM{s:Shared}(hfr:A.frames=some (?ir))(hl:?oi)(hf:?mq)
  (he:?zj=some ⟨?cw,?vo,?aO vs,sl⟩) (h1:vs[1]?=some ?P) (hcx:?yz) (gs:?ks) (ge:?pq)
  (h:∀h' T,?mk->jH g h' e C dx T ?uh cx->Moved ?oh e e s.heap h'->?lZ->h'.FunFrames base (?ir)->Q () ?bw):
  wpAny M A (noteFrame ?bn env) Q E s:=by
 delta noteFrame;rw[hf];exact wpAny_bind (wpAny_field he rfl h1 (HL hfr hl hf he (akH.mp h1).1 hcx gs ge λh' a b c d=>h _ _ ?A a b c d))
theorem HN{s:Shared}(hfr:A.frames=some (?ir))(hl:?oi)(hf:?mq)
  (hF:jH g s.heap e C dx T0 ?P cx) (gs:?ks)
  (h:∀h' T,?mk->jH g h' e C dx T ?uh cx->Moved ?oh e T0 s.heap h'->?lZ->h'.FunFrames base (?ir)->Q () ?bw):
  wpAny M A (noteFrame ?bn env) Q E s:=by
 obtain⟨⟨vs,sl,he,h1,hcx⟩,⟨oT,ts,hT,JA,h3⟩,hne,ge,gT⟩:=hF;delta noteFrame;rw[hf];refine wpAny_bind (wpAny_field he rfl h1 (wpAny_bind (wpAny_field hT JA h3 (wpAny_bind (wpAny_setField hT JA (akH.mp h3).1 ?_)))));have other:∀b,?rw->(s.heap.update T0 (al9 (?kN 3 ajC))).get? b=?aN:=λb hb=>?pd;have noRec:∀b o,?aN=?d->(∀vs,o.data≠?aO vs)->?rw:=λb o hb PU q=>by simp_all[q]
 refine HL hfr (hl.of_keeps λb o hb PU=>⟨o,(other b (noRec b o hb PU)).trans hb,rfl⟩) hf (?Rg) (akH.mp h1).1 hcx (λb hb=>gs b ?RX) ge λh' a b c d=>h _ _ ?i a ⟨λx o q1 q2 q3 q4=>b.1 x o q1 q1 q3 ?Tu,λx o q1 q2 q4=>b.2 x o q1 q1 ?Tu⟩ c d
theorem pL{s:Shared}(hF:jH g s.heap e C dx T fl cx)(gs:?ks)(hl:∀l,?Tv->True)
  (h:∀h',jH g h' e C dx T (fr.elim ?P λf=>rawInt f) cx->(∀b o,b≠T->?aN=?d->?aY=?d)->?lZ->(∀l,?Tv->h'.FunFrames base l)->Q () ?bw):
  wpAny M A (setFlight ?bn fr) Q E s:=by
 show ?NG;have hsz:3<ts.size:=(akH.mp h3).1;refine wpAny_bind (wpAny_field he rfl h1 ?_);have other:∀b,b≠T->(s.heap.update T (al9 (?kN 3 (fr.elim ajC λf=>rawInt f)))).get? b=?aN:=λb hb=>?pd;refine wpAny_setField hT JA hsz (h _ ⟨⟨vs,sl,?Rg,h1,h2⟩,⟨_,_,aj_ _ hT (aoO (amj JA _)),amj JA _,?_⟩,hne,ge,gT⟩ (λb o hb q=>(other b hb).trans q) (λb hb=>gs b (?W)) λl q=>?_)
 ·simp[hsz]
 ·refine q.of_keeps λb o hb PU=>⟨o,(other b ?T).trans hb,rfl⟩;simp_all[z]
theorem LU{s:Shared}(hfr:A.frames=some (?ir))(hl:?oi)(hf:?mq)
  (he:?zj=some ⟨?cw,?vo,?aO vs,sl⟩) (h1:vs[1]?=some ?P) (hcx:?yz) (gs:?ks) (ge:?pq)
  (h:∀h' T,?mk->jH g h' e C dx T ?P cx->Moved ?oh e e s.heap h'->?lZ->Q () ?bw):
  wpAny M A (leaving env ?bn) Q E s:=by
 refine wpAny_bind (HM hfr hl hf he h1 hcx gs ge λh' T z a b c d=>?_);have nT:∀{x o},?to=?d->x≠T:=?vK;refine pL (base:=base) a c (?ta) ?CK;show ?Eg;exact ?Ej
theorem LV{s:Shared}(hfr:A.frames=some (?ir))(hl:?oi)(hf:?mq)
  (hF:jH g s.heap e C dx T0 ?P cx) (gs:?ks)
  (h:∀h' T,?mk->jH g h' e C dx T ?P cx->Moved ?oh e T0 s.heap h'->?lZ->Q () ?bw):
  wpAny M A (leaving env ?bn) Q E s:=by
 refine wpAny_bind (?OJ);have nT:∀{x o},?to=?d->x≠T:=?vK;refine pL (base:=base) a c (?ta) ?CK;show ?Eg;exact ?Ej
#where
#where
namespace PP
open PySem PySem.Spec PyProof.Rows L2
open XX
structure qL(k:Nat)(A:Around):Prop where
 dp:?Ra
 un:?TZ
theorem qL.make(r:qL ?cz A)C us kw:qL k (A.under (?U ?ic ⟨?cw::us,kw⟩)):=
 ⟨by have:=r.dp;rw[wx];lia,by have:=r.un;rw[wy];lia⟩
structure ph(P:Program)(w:World)(K:aaU)(mg:?bs)(base:Heap)(CX:Uh)(k:Nat)(f:Addr)(fd:FuncData)(ps:?t)(sp:Sp):Prop where
 len:?oe
 run:∀(A:Around)(outer:?dy)(s:Shared)(H:Hp)(args:Args)(us:?az)(vs:?B)(Q:VK)(E:XK),qL k A->?we->BindsTo s fd args ?lc->?hm->?lb->
  codeAny ?cF A (?kp ?aH args) ?Sr s
def cxH(CX:Uh)(P:Program)(w:World)(K:aaU)(mg:?bs)(base:Heap)(N:?t)(qual:Str)(scope:Scope)(f:Addr)(cd:Value)(A:Around)(outer:?dy)(s:Shared)(H:Hp)(E:XK):Cx:={?CZ with calm:=false}
theorem LW{K}{kV}
    (lk:?uf=some ⟨oc,od,.func ?vB,osl⟩) (hcd:?Fz) (S:?IZ)
  (len:?oe)
  (hbody:∀(A:Around)(outer:?dy)(s:Shared)(H:Hp)(vs:?B)(Q:VK)(E:XK),qL k ?NB->?lb->
   ∃t,oj (cxH CX P w K mg base N qual scope f cdv A outer s H E) body t/\t ?hR ?ym H):
  ph P w K mg base CX ?cz f ?vB ps sp:=by
 refine ?Nx;have hl:=len _ _ _ _ hsp;have KX:K.In _:=e0.mod.Jk.keeps ?wq;have lim:s.heap.NoLimit:=e0.mod.nolimit.keeps ?wq;have Lv:∀y∈ps.zip us,?oy=?dK\/(?oy=?cl/\((cellsFrom (?ca) scope.names []).lookup y.1).isSome=true):=by
  rintro⟨n,v⟩ hy;show ?Wr
  ·exact .inl q
  ·exact ?Qi
 refine codeAny_call_function (by have:=hr.dp;lia) (KX _ _ lk) rfl S.co S.gen rfl (arB KX hcd) ?MM;subst he;refine⟨?St,codeAny_func (ag (hbody A outer s H _ Q E (⟨by have:=hr.dp;show A.depth+1+3*k+5<_;lia,by have:=hr.un;show A.units+3+16*k+200<_;lia⟩) hsp) λt ht hq=>?_)⟩;have I0:L2.Inv (CO CX P w K _ _ N qual _ f cdv {A with handled:=none} _ s H E) [] _ H _:=zS S rfl ⟨e0.frames,e0.mod,e0.bs,e0.KR,e0.oV,e0.O2,e0.bq,e0.bare⟩ hl r x;have I:L2.Inv (cxH CX P w K _ _ N _ _ f _ A _ s H E) [] _ H _:=
  let o:=I0.ok
  ⟨⟨o.mod,o.kind,o.glob,o.blt,o.above,o.inj,o.has,o.TZ,λz=>(?ui),o.frames,o.WL,o.WM,o.bs,o.KR,o.Ff,o.Fg,o.oV,o.O2⟩,I0.os,I0.bare,I0.base,I0.loc,I0.cell,I0.free,I0.ji,I0.pin,I0.bq,I0.len⟩
 refine ?Nb;have fin:∀{σ'}{H'}{v}{u},L2.Inv (cxH CX P w K mg base N qual scope f cdv A _ s H E) [] σ' _ _->?dg->Q v _->?Em:=
  ?Ng
 cases fl with
 |ret u=>
  exact ?Pj
 |next=>
  exact ?Ou
 |brk=>
  exact ?wB
 |cont=>
  exact ?wB
theorem PX{σ:L2.St}(F:?De)(hr:qL k X.A)(hb:?oQ)(hd:?pN)(hx:?js)
  (I:?kB) (r:?hm) (h:sp ?nf H Q E):wpAny ?K X.A (call ?aH us) ?ge X.xe s:=by
 have r2:Vals _ _:=?KS;show ?Nj
 refine ?Mu;cases r with
 |error e=>exact ?Vq
 |ok fl=>
  cases fl with
  |ret u=>exact I.after hq
  |next=>exact ?rs
  |brk=>exact ?rs
  |cont=>exact ?rs
structure XC(K:aaU)(C:Addr):Prop where
 YO:?Im
 ty:asy K ?u=some (?n ?lO)
 over:?Av
 sa:ag7 K ?u ?kS=some (some (?U ?mi))
 ga:ag7 K ?u ?mo=some (some (?U ?iW))
 gn:ag7 K ?u ?zi=?cv
 na:ag7 K ?u ?ah=?cv
 bx:an7 K C (?n ?eT)=?hv
 sub:∀R,alT K mainGlobals ?go=some (?dJ)->an7 K C ?gs=?hv
def JB(e C tp:Addr):HO:=.ext λh=>?qN=?In
def FK(e C tp d:Addr):HO:=.ext λh=>?qN=some (lQ C tp d)
section
theorem PY{σ:L2.St}(I:?kB)(he:H e=?xV)(c:?vc)(hf:ag7 X.K ?u f=?cv)(ry:?eB)
  (h:∀d s',?Cg->d≠e->L2.Inv X pins σ (upd (upd H d (.xd [(f,y)])) e ?zk) s'->?vl):wpAny ?K A (setAttr ?bn f u) Q E s:=by
 refine i8 (I.bq e _ he) λhx _ _=>?_;obtain⟨hh,g,d,t,os⟩:=s;refine Jy I.qv hx c.over c.sa (by delta ao2;rw[hf];rfl) λh' PR h1 h2 h3=>gX (id h2) λod es ep e1 e2 e3=>?_;have hne:hh.objs.size≠e:=alS (ae8 hx);have hdn:H _=none:=I.bq.fresh ?A;have hfr:od.isFreed=false:=by obtain⟨a1,a2,a3,a4⟩:=od;simp only at e2;rw[e2];rfl
 have hg:(hh.push _).get? _=?bk:=aeq _ hfr;have I1:L2.Inv X pins σ ?Pu {heap:=hh.push od,gens:=g,drawn:=d,toks:=PR,os:=os}:=by
  refine I.laid (λb o q=>?eE) ?A ⟨_,⟨od,es,ep,hg,e2,e3⟩,?T⟩;by_cases hz:z=f
  ·have hb:(z==f)=true:=by rw[hz];exact beq_self_eq_true _
   rw[ahf,hb,if_pos hz];exact ry
  ·have hb:(z==f)=false:=?YW
   rw[ahf,hb,if_neg hz];exact ajN
 have I2:L2.Inv X pins σ (upd ?Pu e (FK e C tp hh.objs.size)) {heap:=h',gens:=g,drawn:=d,toks:=PR,os:=os}:=by
  refine I1.write (by rw[ae hne.symm,he];exact ajN) (?y) (λb o hb q=>?_) ⟨_,h1⟩ ⟨h1,⟨_,h1⟩,λ_ _ z k=>k _ z⟩;by_cases O7:b=hh.objs.size
  ·simp_all[hg]
  ·exact h3 b o hb ((Heap.get?_push_cases q).resolve_left λz=>O7 z.1)
 exact h _ _ hdn hne I2
#where
def YQ(K:aaU)(ta tv:TE)(f:Str):TS:=λD σ H=>tv σ H λy H1=>ta σ H1 λx H2=>∃e C tp,x=?rm/\H2 e=?xV/\?iM/\ag7 K ?u f=?cv/\
 ∀d,H2 d=none->d≠e->D.nx σ (upd (upd H2 d (.xd [(f,y)])) e ?zk)
theorem PZ(ha:PE X o ta)(hv:?IY)(hs:swapsWith value (some (?aq o f pos')) pos.line X.env=?ff:=by rfl):
  PS X (?di [?aq o f pos'] value pos) (YQ X.K ta tv f):=by
 refineλpins s σ H D I h=>plainObj_wpAny_Assign_Attribute (O3 hv I h λu s1 y H1 I1 ry q=>O3 ha I1 q (λov s2 x H2 I2 rx Sj=>cJ Sj λe C tp Lz he c hf q2=>?_)) hs;clear Sj;subst Lz;obtain rfl:ov=afZ e:=rx;exact PY I2 he c hf ry λd s3 h1 h2 I3=>⟨σ,_,I3,q2 d h1 h2⟩
structure Sk(K:aaU)(R f:Addr)(m:Str):Prop where
 ga:PySem.W.specialIn K ?gs ?mo=some (some (?U ?Tw))
 rd:PySem.W.readsIn K R (?n ?lO)=true
 at_:PySem.W.findCls K ?gs (?n ?lO) m=some (.val ?aH)
 hd:aqb ?aH=true
 kp:aiT K ?aH=true
theorem P0{p pos apos}{pl}
  (hg:?cX) (hm:?lM=?dJ) (c:Sk X.K R f m) (F:?De) (hr:qL k X.A) (hb:?Ga) (hx:?js) (ha:PA X ?bp t)
  (hdb:?bh:=by decide) (hst:?ft:=by rfl) (hpl:?hO:=by rfl)
  (ht:eval (?I (?aq (?o x p) m apos) ?bp [] pos) X.env=(do
   let ov<-eval (?o x p) X.env
   ?Wq
   let ?CI<-?PS
   callWith pos f first (backTo pos (?Eu)) (backToKw pos ?TV)):=by rfl):
  PE X (?I (?aq (?o x p) m apos) ?bp [] pos) (kY sp [] E t):=by
 refineλpins s σ H Q I h=>aqM (lM I hg hm (PySem.W.method_cls I.qv c.ga (PySem.W.cls_value I.qv c.rd c.at_ c.hd ?_)) hdb) ht;have I1:L2.Inv X _ σ H ?ou:=?cG;exact apA I.ok.mod.Jk c.kp (ck (ha _ _ _ σ H _ I1 h) λus s1⟨vs,H1,I2,r,q⟩=>⟨I2.qv,(PX F hr hb .nil hx I2 r q)⟩) hst hpl
def LX(C:Addr)(sp:Sp)(E:XK):TE:=λ_ H Q=>∀e tp,H e=none->sp [?rm] (upd H e (JB e C tp)) (λv H2=>v=.b_/\Q ?bn H2) E
theorem Dg(c:?vc)(hi:ag7 X.K ?u ?ck=some (some ?aH))(hfn:aor X.K ?aH=true)(hkp:aiT X.K ?u=true)
  (F:?De) (hr:qL ?cz X.A) (hg:?cX) (hm:?lM=some ?u) (hb:?Ga) (hx:?js) (hdb:?bh:=by decide):
  PE X (?I (?o x p) [] [] pos) (LX C sp E):=by
 refineλpins s σ H Q I h=>wpAny_Call_Name_kw (lM I hg hm (ara I.qv hkp ?_) hdb);have hq:=h _ s.heap.objs.size (I.bq.fresh ?jU);have hgx:((s.heap.push FJ).push (?EN)).get? (?ca)=some (?EN):=by have:=aeq (s.heap.push FJ) (o:=?EN) rfl;rwa[agl]at this
 have I2:L2.Inv X _ σ (upd H _ (JB _ C _)) {s with heap:=(s.heap.push _).push _}:=
  I.laid (λb u q=>aba _ (?eE)) ?jU ⟨hgx,⟨_,hgx⟩,λ_ _ z k=>k _ z⟩
 have r2:Vals [V.ref (?ca)] _:=?p rfl .nil;have hl:([afZ (?ca)]++[]).length=ps.length:=by have z:=F.len _ _ _ _ hq;exact z
 refine wpAny_call (x_call (wJ I.qv c.YO) (aqT I.qv hi) (λself=>aso I.qv _ (beq_iff_eq.mp hfn)) (codeAny_mono (F.run _ _ _ _ _ _ _ _ E (hr.make C [] [])
  (I2.Pr.make C [] []) ?YJ r2 hq) λr s' HA=>?_))
 cases r with
 |error e=>exact ?Uy
 |ok fl=>
  cases fl with
  |ret u=>
   refine ?OH;subst ev;exact ?PF
  |next=>exact ?rt
  |brk=>exact ?rt
  |cont=>exact ?rt
def oo(P:Program)(w:World)(K:aaU):Uh:=λouter H s E e s'=>∃(ea C d T:Addr)(H':Hp)(cx:Value),e=afZ ea/\(jH s.heap s'.heap ea C d T ?P cx/\(?ma=some (some ?u)->cx=?P))/\?LS/\?yi/\?OX/\
 ?YI/\?Me/\H' T=none/\(∀b,s'.heap.objs.size<=b->?aN=none)/\?iM/\E ?u (?bX) H'
theorem LY{K}(h:oo P w K outer H s (?sZ) e s'):False:=(by obtain⟨x0,x1,x2,x3,x4,x5,h0⟩:=h;exact(λ_ _ _ _ _ _ h=>h.2.2.2.2.2.2.2.2.2.2) x0 x1 x2 x3 x4 x5 h0)
theorem oq(x:?fe)(m:Moved l e T0 h h')(he:H e=none)(hT:H T0=none)(hl:∀b∈l,?bL):n_ P w H h':=λa o q=>
 (x a o q).wm (λb u hb r=>by
  have hn:H b≠none:=?M
  exact m.1 b u (λz=>hn (by rw[z];exact he)) (λz=>hn (by rw[z];exact hT)) (λz=>hn (hl b z)) r) (λ_ z=>z) ?Mf
theorem wM(u:?YX)(m:Moved (L::fs) e T0 h h')(he:?pq)(hT:g.get? T0=none)(hL:g.get? L=none):?XC:=by
 have n1:∀{b o},?uX=?d->?fU:=?sf
 have n2:∀{b o},?uX=?d->?rw:=?sf
 have n3:∀{b o},?uX=?d->b≠L:=?sf
 refine⟨?FE,?FE,u.free,λb o q hx=>?_,u.u9,u.sG,u.u_⟩
 ·exact m.1 b o (n1 q) (n2 q) (λz=>(aed.mp z).elim (n3 q) hb) ?Ug
 ·show ?Tx;show ?vR;exact⟨Cp,r'⟩
 ·show ?Wx;show ?vR;exact⟨_,r'⟩
section
abbrev CB(P:Program)(w:World)(K:aaU)(mg:?bs)(base:Heap)(N:?t)(qual:Str)(scope:Scope)(f:Addr)(cd:Value)(A:Around)(outer:?dy)(s:Shared)(H:Hp)(E:XK):Cx:=CO ?bE P w K mg base N qual scope f cd A outer s H E
theorem nc{K}{σ:L2.St}(I:L2.Inv (?vC) pins σ H1 s1)(h:s1.heap.get? b=none):?aN=none:=by
 cases q:?aN with
 |none=>rfl
 |some o=>
  obtain⟨o',r⟩:=I.base.there b o q (λz=>absurd ?Uz ?i);lia
theorem br{K}:Passes ?bE (?vC) E:=by refineλpins σ H1 s1 e s' I hc=>kf hc λea C d T H' cx YR YS os bare un bq n1 n2 sz xc hE=>?_;clear hc;subst YR;obtain⟨fl,hcx⟩:=YS;have I':?YY:=I.Hq os un bq bare λb z=>absurd z ?i;have hl:=I'.stack;have fl2:jH _ _ _ C d T _ _:=⟨fl.obj,fl.ahr,fl.ne,nc I fl.new,nc I fl.UC⟩;have hL:?XD:=ald ?A;exact LV I'.ok.frames hl rfl fl2 (λb hb=>nc I (sz b hb)) λh' T' KU a m c=>⟨ea,C,d,T',H',cx,rfl,⟨a,hcx⟩,I'.os,I'.bare,wM I'.base m fl2.new fl2.UC hL,oq bq m n1 n2 (λb hb=>(I'.og b hb)),n1,bq.fresh KU,c,xc,hE⟩
theorem UD{K}{σ:L2.St}(I:L2.Inv (?vC) pins σ H' s1)(he:?PW)(hn:s.heap.get? ea=none)(hu:?Me)(xc:?iM)(hE:E ?u (?bX) H'):
  (?vC).xe ?df s1:=by
 have hL:?XD:=ald ?A;have hsz:∀b,?VA->?aN=none:=λb hb=>nc I (ald hb);exact LU I.ok.frames I.stack rfl he rfl rfl hsz hn λh' T' KU a m c=>⟨ea,C,d,T',H',_,rfl,⟨a,?ar⟩,I.os,I.bare,wM I.base m hn hn hL,oq I.bq m hu hu ?Wy,hu,I.bq.fresh KU,c,xc,hE⟩
#where
def del(H:Hp)(e:Addr):Hp:=λb=>if b=e then none else H b
theorem qM:del H e e=none:=?bV
theorem pM(h:?fU):?BD=H b:=?fK
theorem HP{σ:L2.St}(I:?kB)(he:H e=some (.ext φ)):L2.Inv X pins σ (del H e) s:=by
 have sub:∀b o,?BD=?d->H b=?d:=λb o q=>by
  by_cases z:b=e
  ·grind [qM]
  ·rw[pM z]at q;exact q
 have nn:∀b,?bL->?BD=none:=λb q=>by
  by_cases z:b=e
  ·rw[<-z];exact qM
  ·rw[pM z];exact q
 have kp:∀b o,H b=?d->(∀φ,o≠.ext φ)->?BD=?d:=λb o q nx=>by rw[pM (λz=>by rw[z,he]at q;exact nx φ (afE q).symm)];exact q
 exact⟨I.ok,I.os,I.bare,⟨I.base.keep,I.base.slot,λb o q n hx=>nn b (I.base.free b o q n hx),I.base.there,λb xs q=>kp b _ (I.base.u9 b _ q) ?oP,λb o u q=>kp b _ (I.base.sG b o u q) ?oP,
  λb ps q=>let⟨m,r⟩:=I.base.u_ b _ q;⟨m,kp b _ r ?oP⟩⟩,I.loc,I.cell,nn _ I.free,λx c q=>nn _ (I.ji x c q),λp hp=>let⟨a,b,r⟩:=?AT;⟨a,nn _ b,r⟩,λa o q=>((I.bq a o (sub a o q)).wm (λb u _ r=>r) (λb z=>kp b _ z ?oP) λb xs z=>kp b _ z ?oP),I.len⟩
def UE(K:aaU)(H0:Hp)(E:XK)(te:TE):TS:=λ_ σ H=>te σ H λx H1=>∃ea C tp d,x=.ref ea/\H0 ea=none/\H1 ea=some (FK ea C tp d)/\?iM/\E ?u (?bX) (del H1 ea)
inductive PV where
 |b_
 |bl (b:Bool)
 |int (i:Int)
 |str (x:Str)
 |tup (l:?e)
 |lst (l:?e)
 |ins (C:Addr) (fs:?eX)
 |vf (l:?gh)
 |E4 (l:?e)
 |ty (n:String)
deriving Inhabited
inductive Rs(α:Type)where
 |ok (a:α)
 |ex (n:Int)
 |bad
def Rs.bind(r:?aX)(f:?qn):Rs β:=match r with
 |?dE=>f a
 |?ai=>?ai
 |.bad=>.bad
instance:Monad Rs where
 pure:=Rs.ok
 bind:=Rs.bind
@[simp] theorem Rs.aK a(f:?qn):(Rs.ok a>>=f)=f a:=rfl
@[simp] theorem Rs.afz n(f:?qn):((Rs.ex n:?aX)>>=f)=Rs.ex n:=rfl
@[simp] theorem Rs.YT(f:?qn):((Rs.bad:?aX)>>=f)=Rs.bad:=rfl
@[simp] theorem Rs.pure_eq a:(pure a:?aX)=Rs.ok a:=rfl
def Dh(a:Addr)(o:Obj)(vs:?B):Prop:=?oz/\?Wv/\∃(es:Array DictEntry)(ep:Nat),o.ExactDict/\?eO/\Vals vs (?EA)
mutual
inductive Rep(K:aaU)(G:Hp):V->?Ch
 |b_:Rep K G .b_ .b_
 |bl (b:Bool):Rep K G (?bP) (?bP)
 |int (i:Int):Rep K G (?O) (?O)
 |str (x:Str):Rep K G ?ag ?ag
 |ty (n:String):Rep K G ?rd ?rd
 |tup {a:Addr} {xs:?B} {ps:?e}:?ld->?Kg->Rep K G (?C) ?uH
 |lst {a:Addr} {xs:?B} {ps:?e}:Rd G a ?cm->?Kg->Rep K G (?C) (.lst ps)
 |ins {a C dx:Addr} {fs:?jr} {ps:?eX}:G a=?gR->?pB->Rep K G (?C) (.ins C ps)
 |vf {a:Addr} {kvs:?dZ} {ps:?gh}:Rd G a ?ei->?kT->Rep K G (?C) (.vf ps)
 |E4 {a:Addr} {o:Obj} {u:HO} {vs:?B} {ps:?e}:G a=?gV->Dh a o vs->?cE->Rep K G (?C) (.E4 ps)
inductive aI(K:aaU)(G:Hp):?B->?e->Prop
 |nil:aI K G [] []
 |cons {v:V} {vs:?B} {p:PV} {ps:?e}:?av->?cE->aI K G (?eK) (?kq)
inductive jo(K:aaU)(G:Hp):?jr->?eX->Prop
 |nil:jo K G [] []
 |cons {n:Str} {v:V} {vs:?jr} {p:PV} {ps:?eX}:?av->jo K G vs ps->jo K G ?Aw ?Ax
inductive dQ(K:aaU)(G:Hp):?dZ->?gh->Prop
 |nil:dQ K G [] []
 |cons {n:Key} {v:V} {vs:?dZ} {p:PV} {ps:?gh}:?av->dQ K G vs ps->dQ K G ?Aw ?Ax
end
section
theorem bF{K}(s:?fN)(h:?ld):j9 K G' a xs:=by
 rcases h with(h|⟨o,h⟩)|h
 ·exact .inl (.inl (?nI))
 ·exact .inl (.inr ⟨o,?nI⟩)
 ·exact ?rx
theorem aV(s:?fN)(h:Rd G a u):Rd G' a u:=by
 rcases h with h|⟨o,h⟩
 ·exact .inl (?nI)
 ·exact .inr ⟨o,?nI⟩
section
theorem Rep.fold{K}{M1:V->?Ch}{M2:?B->?e->Prop}{M3:?jr->?eX->Prop}{M4:?dZ->?gh->Prop}(hn:M1 .b_ .b_)(hb:∀b,M1 (?bP) (?bP))(hi:∀i,M1 (?O) (?O))(hs:∀x,M1 ?ag ?ag)(hy:∀n,M1 ?rd ?rd)(ht:∀{a xs ps},?ld->M2 xs ps->M1 (?C) ?uH)
  (hl:∀{a xs ps},Rd G a ?cm->M2 xs ps->M1 (?C) (.lst ps)) (ho:∀{a C dx fs ps},G a=?gR->M3 fs ps->M1 (?C) (.ins C ps)) (hd:∀{a kvs ps},Rd G a ?ei->M4 kvs ps->M1 (?C) (.vf ps))
  (hg:∀{a o u vs ps},G a=?gV->Dh a o vs->M2 vs ps->M1 (?C) (.E4 ps)) (n2:M2 [] []) (c2:∀{v vs p ps},M1 v p->M2 vs ps->M2 (?eK) (?kq)) (n3:M3 [] []) (c3:∀{n v vs p ps},M1 v p->M3 vs ps->M3 ?Aw ?Ax)
  (n4:M4 [] []) (c4:∀{n v vs p ps},M1 v p->M4 vs ps->M4 ?Aw ?Ax):(∀v p,?av->M1 v p)/\(∀v p,?fg->M2 v p)/\(∀v p,?pZ->M3 v p)/\∀v p,?uj->M4 v p:=by
 have one:∀v p,?av->M1 v p:=λv p h=>Rep.rec
  hn hb hi hs hy (λh _=>ht h) (λh _=>hl h) (λh _=>ho h) (λh _=>hd h) (λh k _=>hg h k) n2 (λ_ _=>c2) n3 (λ_ _=>c3) n4 (λ_ _=>c4) h
 refine⟨one,?KY,?KY,?KY⟩
 ·induction p generalizing v with
  |nil=>cases h;exact n2
  |cons x p ih=>show ?Bu
 ·induction p generalizing v with
  |nil=>cases h;exact n3
  |cons x p ih=>show ?Bu
 ·induction p generalizing v with
  |nil=>cases h;exact n4
  |cons x p ih=>show ?Bu
#where
theorem Rep.HQ{K}(s:?fN):(∀v p,?av->?zR)/\(∀v p,?fg->?Ay)/\(∀v p,?pZ->jo K G' v p)/\∀v p,?uj->dQ K G' v p:=
 Rep.fold .b_ .bl .int .str .ty (λh=>.tup (bF s h)) (λh=>.lst ?Ci) (λh=>.ins (?nI)) (λh=>.vf ?Ci) (λh=>.E4 (?nI)) .nil ?p .nil ?p .nil ?p
theorem Rep.mono{K}(s:?fN)(h:?av):?zR:=(?Cj).1 v p h
theorem aI.mono{K}(s:?fN)(h:?fg):?Ay:=(?Cj).2.1 v p h
theorem jo.mono{K}(s:?fN)(h:?pZ):jo K G' v p:=(?Cj).2.2.1 v p h
theorem dQ.mono{K}(s:?fN)(h:?uj):dQ K G' v p:=(?Cj).2.2.2 v p h
theorem aI.length{K}(h:?fg):v.length=p.length:=by
 induction p generalizing v with
 |nil=>cases h;rfl
 |cons x p ih=>show ?Bu
theorem aI.get{K}{i:Nat}(h:?fg)(e:p[i]?=?F):∃u,v[i]?=?Q/\?Az:=by
 induction p generalizing v i with
 |nil=>cases e
 |cons y p ih=>cases h with|cons a b=>cases i<;>simp_all
theorem aI.append{K}(h:?fg)(s:aI K G w q):aI K G (v++w) (p++q):=by
 induction p generalizing v with
 |nil=>cases h;exact s
 |cons x p ih=>cases h with|cons a b=>exact ?p a (ih b)
theorem aI.drop{K}n(h:?fg):aI K G (v.drop n) (p.drop n):=by
 induction n generalizing v p with
 |zero=>exact h
 |succ n ih=>cases h with
  |nil=>show ?bJ
  |cons a b=>exact ih b
theorem aI.take{K}n(h:?fg):aI K G (v.take n) (p.take n):=by
 induction n generalizing v p with
 |zero=>show ?bJ
 |succ n ih=>cases h with
  |nil=>show ?bJ
  |cons a b=>exact ?p a (ih b)
theorem jo.lookup{K}(h:?pZ)(e:p.lookup f=?F):∃u,v.lookup f=?Q/\?Az:=by
 induction p generalizing v with
 |nil=>show ?aD
 |cons y p ih=>cases h with
  |cons a b=>
   simp only[ahf]at e⊢;show ?aQ
   ·simp_all
   ·exact ih b e
#where
structure Ex(G H G' H':Hp):Prop where
 gg:?fN
 gh:aj G' H'
 hh:?lF
 new:∀a o,G' a=?d->G a=?d\/?qG
theorem Ex.refl(s:?aP):Ex G H G H:=⟨?bv,s,?bv,?KZ⟩
theorem Ex.trans(a:?tD)(b:Ex G1 H1 G2 H2):Ex G H G2 H2:=
 ⟨a.gg.trans b.gg,b.gh,a.hh.trans b.hh,λc o h=>(b.new c o h).elim (a.new c o) λz=>.inr (a.hh.free z)⟩
theorem Ex.laid(s:?aP)(hp:?fi):Ex G H (upd G p o) (upd H p o):=by
 have hg:G p=none:=by
  cases q:G p with
  |none=>rfl
  |some u=>grind [s _ _ q]
 refine⟨?AA,?AA,?AA,?AA⟩
 ·exact ae (az h hg)▸h
 ·by_cases e:b=p
  ·simp_all[aa]
  ·rw[ae e]at h⊢;exact ?nI
 ·exact ae (az h hp)▸h
 ·by_cases e:b=p
  ·lia
  ·rw[ae e]at h;exact ?fm
abbrev gZ:=List (?lo)
def gA(K:aaU)(G:Hp)(σ:L2.St)(env:gZ):Prop:=∀(i:Nat)p,env[i]?=some (?Y)->∃v,?jZ=some (?V)/\?av
theorem gA.mono{K}{G G'}{σ}(e:?fa)(s:?fN):gA K G' σ env:=λi p h=>
 let⟨v,h1,h2⟩:=e i p h
 ⟨v,h1,h2.mono s⟩
def yV(n:Int):Int:=?Uh
def YU(n:Int)(d:Addr)(H:Hp):Prop:=∃fs,H d=?Je/\fs.lookup (?ah:Str)=some (?AB)
def UG(K:aaU)(n:Int)(C:Addr):Prop:=n=-13->?ma=some (some ?u)
def sA(K:aaU)(E:XK)(n:Int)(H:Hp):Prop:=∀H' C d,?lF->?iM->YU n d H'->UG K n C->E ?u (?bX) H'
theorem sA.mono{K}(h:?AS)(s:?lF):sA K E n H':=λH2 C d s2=>h _ C d (s.trans s2)
theorem nn{α:Type}{a}{P:Prop}(h:(none:?dL)=?cr):P:=by show ?aD
theorem nb{P:Prop}(h:(Rs.bad:?aX)=?dE):P:=by show ?aD
theorem ft{P:Prop}(h:?Mc):P:=?ik
def Fi(r:?aX)(P:α->Prop)(e:Int->Prop):Prop:=match r with
 |?dE=>P a
 |?ai=>e n
 |.bad=>False
section
theorem Fi.imp(h:?Ck)(k:∀a,P a->P' a)(ke:?Io):Fi r P' e':=by
 show ?AR
 ·exact k a h
 ·exact ke n h
 ·exact h
theorem Fi.mO(h:?Ip)(k:∀a,r=?dE->Fi ?dF R e->P a)(ke:?Io):Fi r P e':=by
 show ?AR
 ·exact k a rfl h
 ·exact ke n h
 ·exact h
theorem Fi.bnd(h:?Ip)(k:∀a,Fi ?dF R e->Fi (g a) S e')(ke:?Io):Fi (r>>=g) S e':=by
 show ?AR
 ·exact k a h
 ·exact ke n h
 ·exact h
theorem Fi.seq(h:?Ip)(k:∀a,Fi ?dF R e->P a):?Ck:=h.mO (λa _=>k a) ?lx
#where
abbrev okV(K:aaU)(H:Hp)(Q:VK)(G:Hp)(p:PV):Prop:=∀G' H' v,?hc->?zR->Q v H'
abbrev okL(K:aaU)(H:Hp)(Q:?B->?aZ)(G:Hp)(p:?e):Prop:=∀G' H' v,?hc->?Ay->Q v H'
abbrev okB(H:Hp)(Q:Bool->?aZ)(G:Hp)(b:Bool):Prop:=∀G' H',?hc->Q b H'
def fq(K:aaU)(E:XK)(r:?k)(G H:Hp)(Q:VK):Prop:=Fi r (okV K H Q G) ?mv
def Sl(K:aaU)(E:XK)(r:Rs (?e))(G H:Hp)(Q:?B->?aZ):Prop:=Fi r (okL K H Q G) ?mv
def uG(K:aaU)(E:XK)(r:?gA)(G H:Hp)(Q:Bool->?aZ):Prop:=Fi r (okB H Q G) ?mv
def tF(K:aaU)(E:XK)(g:gZ->?aX)(W:Hp->α->Prop)(σ:L2.St)(H:Hp):Prop:=∃G env,?aP/\?fa/\Fi ?rf (W G) ?mv
def tP(K:aaU)(E:XK)(g:gZ->?k):TE:=λσ H Q=>∃G env,?aP/\?fa/\fq K E ?rf G H Q
def pj(K:aaU)(E:XK)(g:gZ->Rs (?e)):TA:=λσ H Q=>∃G env,?aP/\?fa/\Sl K E ?rf G H Q
def j_(K:aaU)(E:XK)(g:gZ->?gA):TT:=λσ H Q=>∃G env,?aP/\?fa/\uG K E ?rf G H Q
section
theorem tF.seq{K}{f:gZ->?qn}(h:tF K E (λenv=>g env>>=f env) W σ H)
 (k:∀G env a,?aP->?fa->Fi (f env a) (W G) (?mv)->W' G a):tF K E g W' σ H:=ah h λG env s er h=>⟨G,env,s,er,h.seq λa=>k G _ a s er⟩
theorem fq.later{K}(h:fq K E r G H Q)(e:?tD):fq K E r G1 H1 Q:=Fi.imp h (λ_ h G' H' v e'=>h _ _ v (e.trans e')) ?XE
theorem uG.later{K}(h:uG K E r G H Q)(e:?tD):uG K E r G1 H1 Q:=Fi.imp h (λ_ h G' H' e'=>h _ _ (e.trans e')) ?XE
theorem fq.seq{K}{E}{σ:L2.St}{env:gZ}{r}{f}{G H}{Q}{R}(h:fq K E (r>>=f) G H Q)
 (k:∀p G1 H1 v,r=?bC->?tD->Rep K G1 v p->fq K E (f p) G1 H1 Q->R v H1):fq K E r G H R:=Fi.mO h (λp e h G1 H1 v ex rv=>k p _ _ v e ex rv (?zc)) ?lx
#where
section
theorem Rep.isB{K}(r:Rep K G v (?bP)):v=?bP:=?tb
theorem Rep.FL{K}(r:Rep K G v (?O)):v=?O:=?tb
theorem Rep.KW{K}(r:Rep K G v ?ag):v=?cW:=?tb
theorem Rep.yW{K}(r:Rep K G v (?dj)):∃a xs,v=?C/\?ld/\aI K G xs l:=by cases r with|tup h r=>exact⟨_,_,rfl,h,r⟩
theorem Rep.FO{K}(r:Rep K G v (?cx)):∃a xs,v=?C/\Rd G a ?cm/\aI K G xs l:=by cases r with|lst h r=>exact⟨_,_,rfl,h,r⟩
#where
def E5(f:Int->?aX):PV->?aX
 |?O=>f i
 |_=>.bad
def wN(f:Str->?aX):PV->?aX
 |?nS=>f i
 |_=>.bad
def P1(f:?e->?aX):PV->?aX
 |.tup i=>f i
 |_=>.bad
def uH(f:?e->?aX):PV->?aX
 |.lst i=>f i
 |_=>.bad
def vg(f:?e->?aX):PV->?aX
 |?dj=>f l
 |?cx=>f l
 |_=>.bad
def YV(K:aaU)(H:Hp)(a:Addr)(xs:?B):Prop:=?fc\/?hg
theorem YV.mono{K}(h:Rd G a ?cm\/?ld)(s:?aP):YV K H a xs:=h.imp (λh=>.inl ?Ci) (bF s)
def one(f:PV->?aX):?e->?aX
 |[p]=>f p
 |_=>.bad
def two(f:PV->PV->?aX):?e->?aX
 |[p,q]=>f p q
 |_=>.bad
def opt{α β:Type}(f:?qn):?dL->Rs β
 |?cr=>f a
 |none=>.bad
theorem iq(h:Fi (opt f o) P e):∃a,o=?cr/\Fi ?dF P e:=by
 show ?uu
 ·show ?am
 ·exact ?tM
section
theorem qN{K}(h:Fi (E5 f p) P e)(r:?av):∃i,p=?O/\v=?O/\Fi (f i) P e:=by
 show ?Eo
 case int=>exact⟨i,rfl,r.FL,h⟩
 show ?cB
theorem ir{K}(h:Fi (wN f p) P e)(r:?av):∃i,p=?nS/\v=?nS/\Fi (f i) P e:=by
 show ?XF
 case str=>exact⟨i,rfl,r.KW,h⟩
 show ?cB
theorem lR{K}(h:Fi (uH f p) P e)(r:?av):∃a xs l,p=?cx/\v=?C/\Rd G a ?cm/\?DY:=by
 rcases p with _|_|_|_|_|l|_|_|_|_
 case lst=>
  exact ah r.FO λa xs h1 h2 h3=>⟨a,xs,l,rfl,h1,h2,h3,h⟩
 show ?cB
theorem ki{K}(h:Fi (vg f p) P e)(r:?av):∃a xs l,v=?C/\(Rd G a ?cm\/?ld)/\?DY:=by
 show ?Ep
 case tup=>
  exact ?NC
 case lst=>
  exact ?ND
 show ?cB
theorem aI.un{K}(r:aI K G vs (p::l)):∃v us,vs=v::us/\?av/\aI K G us l:=?NS
theorem aI.P2{K}(r:aI K G vs []):vs=[]:=?tb
theorem cn{K}(h:Fi (one f ps) P e)(r:?cE):∃v p,vs=[v]/\ps=[p]/\?av/\Fi (f p) P e:=by
 rcases ps with _|⟨p,_|⟨q,l⟩⟩
 ·show ?am
 ·refine ah r.un λv us YW r1 r2=>?_;subst YW;obtain rfl:=r2.P2;exact⟨v,p,rfl,rfl,r1,h⟩
 ·show ?am
theorem ot{K}(h:Fi (two f ps) P e)(r:?cE):∃v u p q,vs=[v,u]/\ps=[p,q]/\?av/\Rep K G u q/\Fi (f p q) P e:=by
 rcases ps with _|⟨p,_|⟨q,_|⟨_,l⟩⟩⟩
 ·show ?am
 ·show ?am
 ·refine ah r.un λv us YX r1 r2=>?_;rw[YX];refine ah r2.un λu ws YY r3 r4=>?_;rw[YY];obtain rfl:=r4.P2;exact⟨v,u,p,q,rfl,rfl,r1,r3,h⟩
 ·show ?am
theorem a_ [?le](h:Fi (if c then r else .bad) P e):c/\?Ck:=by
 by_cases z:c
 ·simp_all
 ·rw[?gv]at h;show ?am
#where
theorem _root_.L2.PE.imp(h:?Ca)(i:?om):PE X e t':=?vD
theorem _root_.L2.PT.imp(h:PT X e t)(i:?om):PT X e t':=?vD
theorem _root_.L2.PW.imp(h:PW X e t)(i:?om):PW X e t':=λwh pins s σ H Q I q=>?QO
theorem _root_.L2.PA.imp(h:PA X e t)(i:?om):PA X e t':=λpos pins s σ H Q I q=>?QO
theorem _root_.L2.PS.imp(h:PS X e t)(i:∀D σ H,t' D σ H->?nw):PS X e t':=?NT
theorem _root_.L2.oj.imp(h:oj X e t)(i:∀D σ H,t' D σ H->?nw):oj X e t':=?NT
def kj(K:aaU)(E:XK)(r:?bD)(F:?e->?k):Prop:=
 ∀G H vs ps Q,?aP->?cE->?Wz->r vs H Q
def KY(K:aaU)(E:XK)(r:R2)(F:PV->PV->?k):Prop:=
 ∀G H x y p q Q,?aP->?La->Rep K G y q->fq K E (F p q) G H Q->r x y H Q
def MtP(K:aaU)(E:XK)(T:String)(r:V->?bD)(F:PV->?e->?k):Prop:=
 ∀G H x vs p ps Q,?aP->?La->?cE->fq K E (F p ps) G H Q->r x vs H Q
section
def look(i:Nat)(env:gZ):?k:=match env[i]? with
 |some (?Y)=>?bC
 |_=>.bad
theorem cX{X}{E}i{pos}(hN:?dh=?F:=by rfl)(hv:?pb:=by first|show ?lK|exact amH (akV rfl)|exact amH (amH rfl))(hd:?bh:=by decide)
  (hcd:?ok:=by decide):PE X (?o x pos) (tP X.K E (look i)):=
 (pv i hN hv hd hcd).imp (by
  refineλσ H Q YZ=>ah YZ λG env s er h=>?_;unfold look at h;show ?ao
  ·rename_i p e;exact ag (er i p e) λv h1 h2=>⟨v,h1,h G H v ?cj h2⟩
  ·show ?am)
theorem JC(h:PE X e (tC v))(r:∀G,Rep X.K G v p):PE X e (tP X.K E λ_=>?bC):=
 h.imp (λ_ _ _ Y0=>ah Y0 λG _ s _ h=>h G _ v ?cj (r G))
theorem wO:PE X (?cu ?ag j pos) (tP X.K E λ_=>.ok ?ag):=JC Lc λ_=>?cW
theorem Y1{X:Cx}(hr:?tE)(h:tP X.K E (λenv=>?oj) σ H Q):zN r (tP X.K E ga) (tP X.K E gb) σ H Q:=ah h λG env s er h=>⟨G,env,s,er,fq.seq (σ:=σ) (env:=env) h λp G1 H1 v e ex rv h1=>(⟨G1,env,ex.gh,?kR,fq.seq (σ:=σ) (env:=env) h1 λq G2 H2 u e2 ex2 ru h2=>(hr _ _ v u p q Q ex2.gh ?Hf ru h2)⟩)⟩
theorem Sm(ho:?Vp)(hr:?tE)(ha:?kC)(hb:?oE):
 PE X ?Wo (tP X.K E λenv=>?oj):=(Lk ho ha hb).imp ?Iq
theorem ng(ho:?se)(hr:?tE)(ha:?kC)(hb:?oE)(hm:?ja):
 PE X ?mc (tP X.K E λenv=>?oj):=(Hx ho ha hb hm).imp ?Iq
theorem Y2(ho:Ly X r)(hr:?tE)(ha:?kC)(hb:?oE)(hs:A1 b):
 PE X (?hn a b pos) (tP X.K E λenv=>?oj):=(CY ho ha hb hs).imp ?Iq
def zZ:PV->?gA
 |?bP=>?dq
 |_=>.bad
theorem A8{K}(h:Fi (zZ p>>=f) P e)(r:?av):∃b,v=?bP/\Fi (f b) P e:=by
 show ?XG
 case bl=>exact⟨b,r.isB,h⟩
 show ?tj
theorem P4{K}(h:Fi (zZ p) P e)(r:?av):∃b,v=?bP/\P b:=by
 show ?XG
 case bl=>exact⟨b,r.isB,h⟩
 show ?tj
theorem Di{X:Cx}(h:j_ X.K E (λenv=>?fO>>=zZ) σ H Q):tP X.K E ga σ H ?QZ:=
 tF.seq h λ_ _ _ _ _ h G' H' _ ex rv=>(P4 h rv).imp λ_ h=>⟨h.1,h.2 _ _ ex⟩
theorem qO(h:?kC)(he:∀whole,isTrue a X.env whole=(do let v<-whole;standAt a.pos;?TX):=by intro _;rfl):PT X a (j_ X.K E λenv=>?fO>>=zZ):=
 (Lg h he).imp λ_ _ _=>Di
theorem gB(ho:?se)(hr:?tE)(ha:?kC)(hb:?oE)(hm:?ja):
  PT X ?mc (j_ X.K E λenv=>(?oj)>>=zZ):=
 (dD ho ha hb hm).imp λσ H Q h=>by have h2:=Di h;exact Y1 hr h2
theorem HR(h:PT X a ?kU):PT X (?qD .Not a pos) (j_ X.K E λenv=>ta env>>=?zl):=
 (Lh h).imp λ_ _ _ h=>tF.seq h λ_ _ _ _ _ h=>h
theorem LZ(ha:PT X a ?kU):PW X (?eD .And [a] pos) ?kU:=(by
 refineλwh pins s σ H Q I h=>isTrue_and ?OQ;cases c with
 |true=>exact isTrue_and_nil e
 |false=>exact e)
theorem P5(ha:PT X a ?kU):PW X (?eD .Or [a] pos) ?kU:=(by
 refineλwh pins s σ H Q I h=>isTrue_or ?OQ;cases c with
 |false=>exact isTrue_or_nil e
 |true=>exact e)
def Y3(x y:?gA):?gA:=x>>=λc=>if ?iK then y else ?nh
def bOr(x y:?gA):?gA:=x>>=λc=>if ?iK then ?iE else y
theorem P6{rest}(ha:PT X a ?kU)(hb:PW X (?eD .And (?lD) pos) ?zm):PW X (?eD .And (a::?lD) pos) (j_ X.K E ?RC):=
 (show PW X _ (agG (j_ _ E _) ?zm)from by
    refineλwh pins s σ H Q I h=>isTrue_and (ck ?fx λc s1 ?pw=>?_);cases c with
    |true=>exact ?UE
    |false=>exact ?pw).imp λ_ _ _ h=>tF.seq h λG env c s er h G' H' ex=>by
  show ?uv
  ·exact yU (h _ _ ex)
  ·exact wI ⟨G',env,ex.gh,?kR,uG.later h ex⟩
theorem UH{rest}(ha:PT X a ?kU)(hb:PW X (?eD .Or (?lD) pos) ?zm):PW X (?eD .Or (a::?lD) pos) (j_ X.K E ?Rh):=
 (show PW X _ (tOr (j_ _ E _) ?zm)from by
    refineλwh pins s σ H Q I h=>isTrue_or (ck ?fx λc s1 ?pw=>?_);cases c with
    |true=>exact ?pw
    |false=>exact ?UE).imp λ_ _ _ h=>tF.seq h λG env c s er h G' H' ex=>by
  show ?uv
  ·exact yU ⟨G',env,ex.gh,?kR,uG.later h ex⟩
  ·exact wI (h _ _ ex)
def P7(x y:?k):?k:=x>>=λp=>zZ p>>=λc=>if ?iK then y else .ok ?la
def vOr(x y:?k):?k:=x>>=λp=>zZ p>>=λc=>if ?iK then .ok ?lm else y
theorem Y4(hc:PT X c ?kU)(ha:?kC)(hb:?oE):PE X ?Xt (tP X.K E λenv=>ta env>>=λk=>if k=true then ?fO else gb env):=
 (Li hc ha hb).imp λ_ _ _ h=>tF.seq h λG env c s er h G' H' ex=>by
  show ?uv
  ·exact yU ?vE
  ·exact wI ?vE
theorem fz:PA X [] (pj X.K E λ_=>.ok []):=aP.imp (λσ H Q Y5=>ah Y5 λG env s er h=>h G H [] ?cj .nil)
theorem cQ(ha:?kC)(hr:PA X es ?cD)(hs:starEach (a::es) X.env=?oF::?sw:=by rfl):
  PA X (a::es) (pj X.K E λenv=>?fO>>=λx=>?dk>>=?GD):=
 (ak ha hr hs).imp λ_ _ _ h=>tF.seq h λG env p s er h G1 H1 v ex rv=>
  ⟨G1,env,ex.gh,?kR,Fi.mO h (λ_ _ h G2 H2 vs ex2 rvs=>h _ _ _ (?mH) (?p ?Hf rvs)) ?xn⟩
theorem pk{X:Cx}(hr:?zS)(h:tP X.K E (λenv=>?dk>>=F) σ H Q):pj X.K E gs σ H ?Xu:=
 tF.seq h λ_ _ ps _ _ h G1 H1 vs ex rvs=>hr _ _ _ _ Q ex.gh rvs (?zc)
def fu(l:?e):?k:=if ?gS then .ok (?dj)else .bad
def nh(l:?e):?k:=if ?gS then .ok (?cx)else .bad
theorem HS{K}(s:?aP)(r:?cE)(h:fq K E (.ok ?uH) G H Q):∀p,?fi->Q (?af) (upd H p (.tup vs)):=λp hp=>
 h _ _ _ (?zT) (.tup ?Bc (r.mono (?zT).gg))
theorem z0{K}(s:?aP)(r:?cE)(h:fq K E (.ok (.lst ps)) G H Q):∀p,?fi->Q (?af) (upd H p ?fF):=λp hp=>
 h _ _ _ (?zT) (.lst ?lh (r.mono (?zT).gg))
#where
mutual
def dat:PV->Option PyData
 |.b_=>some ?P
 |?bP=>some (?eI b)
 |?O=>some (?O)
 |?cW=>some ?ag
 |?dj=>(yX l).map PyData.tuple
 |?cx=>(yX l).map PyData.list
 |.ins _ _=>none
 |.vf _=>none
 |.E4 _=>none
 |.ty _=>none
def yX:?e->Option (?mN)
 |[]=>some []
 |x::r=>(dat x).bind λa=>(yX r).map λs=>a::s
end
section
theorem Rep.dps{K}:(∀v p,?av->∀d,dat p=?bX->Dp K G v d)/\(∀v p,?fg->∀d,yX p=?bX->uE K G v d)/\(∀v p,?pZ->True)/\∀v p,?uj->True:=
 Rep.fold (λd e=>by cases e;exact .b_) (λb d e=>by cases e;exact ?bP) (λi d e=>by cases e;exact ?O) (λx d e=>by cases e;exact ?cW) (λn d e=>nn e)
  (λh r d e=>by refine ag ?qa λds q z=>?_;rw[<-z];exact .tup h (r _ q)) (λh r d e=>by refine ag ?qa λds q z=>?_;rw[<-z];exact .lst (?fm) (r _ q))
  ?YZ ?YZ (λ_ _ _ d e=>nn e) (λd e=>by cases e;show ?bJ)
  (λa b d e=>by refine ag ?uk λx q1 e=>ag ?qa λy q2 z=>?_;simp only[<-z];exact ?p (a x q1) (b y q2)) trivial (?ta) trivial ?ta
theorem Rep.dp{K}(h:?av)(e:dat p=?bX):Dp K G v d:=Rep.dps.1 v p h d e
theorem aI.dp{K}(h:?fg)(e:yX p=?bX):uE K G v d:=Rep.dps.2.1 v p h d e
#where
def A9(p:PV):Option PyData:=match dat p with
 |?bX=>if ?ug then ?bX else none
 |none=>none
theorem ni(h:A9 p=?bX):dat p=?bX/\?ug:=by unfold A9 at h;grind
def bz(neg:Bool)(p q:PV):?k:=match A9 p,A9 q with
 |?bX,?gG=>.ok (.bl (if neg then !ahm d e else ahm d e))
 |_,_=>.bad
theorem Y6{K}:KY K E (Ys K) ?G:=by
 show ?kv;unfold bz at h;show ?ao
 ·rename_i d e h1 h2;show ?Ir;obtain⟨b1,b2⟩:=ni h2;exact⟨d,e,?xK,?Za,a2,b2,h G H _ ?cj (?bY)⟩
 ·show ?am
theorem neP{K}:KY K E (Yt K) ?cn:=by
 show ?kv;unfold bz at h;show ?ao
 ·rename_i d e h1 h2;show ?Ir;obtain⟨b1,b2⟩:=ni h2;exact⟨d,e,?xK,?Za,a2,b2,h G H _ ?cj (?bY)⟩
 ·show ?am
def P8(K:aaU)(neg:Bool):R2:=λx y H Q=>∃(a:Addr)(xs:?B)(ds:?mN)(d:PyData),y=?C/\(?fc\/?hg)/\?Ke/\?LY/\
 amO ds=true/\?ug/\Q ?MU H
def jI:PV->Option (?e)
 |?dj=>?dS
 |?cx=>?dS
 |_=>none
def Y7(neg:Bool)(p q:PV):?k:=match A9 p,(jI q).bind yX with
 |?bX,some ds=>if amO ds=true then .ok ?MU else .bad
 |_,_=>.bad
theorem inP{K}neg:KY K E (P8 K neg) (Y7 neg):=by
 show ?kv;unfold Y7 at h;show ?ao
 ·rename_i d ds h1 h2;show ?Ir;show ?ao
  ·rename_i hc;have fin:=h G H _ ?cj (?bY);show ?XH
   case tup=>
    refine ah ry.yW λa xs Y8 hq r=>?_
    subst Y8
    exact⟨_,_,ds,d,rfl,.inr (bF s hq),(r.mono s).dp h2,?xK,hc,a2,fin⟩
   case lst=>
    refine ah ry.FO λa xs Y9 hq r=>?_
    subst Y9
    exact⟨_,_,ds,d,rfl,.inl (.inl (aV s hq)),(r.mono s).dp h2,?xK,hc,a2,fin⟩
   all_goals exact nn h2
  ·show ?am
 ·show ?am
def i2(f:Int->Int->PV):PV->PV->?k
 |?O,?fP=>.ok (f i j)
 |_,_=>.bad
theorem O8{K}(hg:∀i j G,Rep K G ?re (f i j)):KY K E (E1 g) (i2 f):=by
 show ?kv;show ?Eo
 case int=>
  rcases q with _|_|j|_|_|_|_|_|_|_
  case int=>exact⟨i,j,rx.FL,ry.FL,h G H _ ?cj (hg i j G)⟩
  show ?cB
 show ?cB
abbrev Cq:=i2 λi j=>.bl (?py)
abbrev Y_:=i2 λi j=>?Fx
abbrev E6:=i2 λi j=>?xw
abbrev WT:=i2 λi j=>?xg
abbrev P9:=i2 ?YE
def Sn(K:aaU):R2:=λx y H Q=>∃l b xs zs,x=?ax/\y=?cH/\Rd H l ?cm/\?Hg/\xs.length+zs.length<=sizeLine/\∀p,?fi->Q (?af) (upd H p (.lst (xs++zs)))
def fw:PV->PV->?k
 |?O,?fP=>.ok (.int (i+j))
 |.tup a,.tup b=>if a=[]then .ok (.tup b)else if b≠[]/\?RD then .ok (.tup (a++b))else .bad
 |.lst a,.lst b=>if ?RD then .ok (.lst (a++b))else .bad
 |_,_=>.bad
def Za(K:aaU):R2:=λx y H Q=>∃a b ys,x=?C/\y=?cH/\j9 K H a []/\j9 K H b ys/\Q (?cH) H
def ahv(K:aaU):R2:=λx y H Q=>E1 (?xI) x y H Q\/Se K x y H Q\/Sn K x y H Q\/Za K x y H Q
theorem P_:pb X ?yk (ahv X.K):=Fq.or ((show pb X ?yk (Se X.K)from by
 refineλpins s σ H x y v u Q I rx ry h=>lJ h λa b xs ys Zb Zc ha hb hx hz q1 q2=>?_;clear h;subst Zb;subst Zc;cases rx;cases ry;exact aG (I.tuple ha) λaL r1 p1 _=>aG (I.tuple hb) λka r2 p2 _=>HT.Pt p1 p2 (λz=>hx (r1.AY.mp z)) (λz=>⟨?C,H,I,rfl,q1 (r2.AY.mp z)⟩) (λz=>(⟨?fo,_,I.laid (o:=.tup _) (λb ob q=>?eE) ?A (⟨?W,_,r1.append r2,asQ _ _⟩),rfl,q2 (λw=>z (r2.AY.mpr w)) _ (I.bq.fresh ?A)⟩)) (by simp_all[r1.length,r2.length])).or ((show pb X ?yk (Sn X.K)from by
  refineλpins s σ H x y v u Q I rx ry h=>jD h λl b xs zs Zd Ze hH hB hz q=>?_;clear h;subst Zd;subst Ze;cases rx;cases ry;refine mT (hH.ok I.bq) λz aL n r e=>?OY;have l1:=r.length;have l2:=r2.length;refine PySem.P.add_list e e2 ?_ (?W);have ea:aL.toArray++ka.toArray=(aL++ka).toArray:=?J
  rw[ea];exact⟨?fo,_,((I.laid (λ_ _ q=>?eE) ?A ⟨(?W),(aL++ka),0,?Jf,?de⟩:Inv X pins σ (upd H s.heap.objs.size (.lst (xs++zs))) {s with heap:=s.heap.push {cls:=?n ?aC,data:=.seq (aL++ka).toArray},toks:=s.toks})),rfl,q _ (I.bq.fresh ?A)⟩).or (by
   refineλpins s σ H x y v u Q I rx ry h=>cJ h λa b ys Zf Zg ha hb q=>?_;clear h;subst Zf;subst Zg;cases rx;cases ry;refine aG (I.tuple ha) λaL r1 p1 _=>aG (I.tuple hb) λka r2 p2 _=>?_;cases r1;refine kc (id p1) λZh ho hc n hd=>?_;obtain⟨cls,dd,data,sl⟩:=Zh;refine kc (id p2) λZi Uk hc2 n2 hd2=>?_;obtain⟨ag3,dd2,data2,sl2⟩:=Zi;simp only at hc hd hc2 hd2;subst hc hd hc2 hd2;exact concat_meets ?yy ?Ij noFill_tuple_add seq_tuple_add aov aoj (an4 _ _)
    (tuple_addW0 a b _ _ n _ _ _ _ _ rfl) ⟨ho,Uk,?cH,H,I,rfl,q⟩)))
theorem aI.ne{K}(r:?fg)(h:p≠[]):v≠[]:=by
 cases r with
 |nil=>exact ?Kh
 |cons _ _=>simp
def FP:?lo->?k
 |?Y=>?bC
 |none=>.bad
theorem qP(h:Fi (FP o) P e):∃p,o=?Y/\P p:=by
 rcases o with _|p
 ·show ?am
 ·exact⟨p,rfl,h⟩
def UI:PV->PV->?k
 |?dj,?O=>FP (zU l i)
 |?cx,?O=>FP (zU l i)
 |?nT,?O=>if ?xx then FP ((?YK).map λc=>.str ?gm)else .bad
 |_,_=>.bad
theorem aI.at{K}(r:?fg)(h:zU p i=?F):∃u,zU v i=?Q/\?Az:=by
 unfold zU at h⊢;show ?kj;cases e:HD _ i with
 |none=>rw[e]at h;show ?aR
 |some j=>rw[e]at h;exact r.get h
theorem ixP{K}:KY K E (rIx K) UI:=by
 show ?kv;rcases p with _|_|_|z|l|l|_|_|_|_
 case tup=>
  show ?Eq
  case int=>
   refine ah rx.yW λa xs Zj hx r=>?_
   subst Zj
   exact ag (qP h) λp e h=>ag (r.at e) λu e2 ru=>.inr (.inl ⟨_,_,i,u,rfl,ry.FL,bF s hx,e2,h G H _ ?cj ru⟩)
  show ?cB
 case lst=>
  show ?Eq
  case int=>
   refine ah rx.FO λa xs Zk hx r=>?_
   subst Zk
   exact ag (qP h) λp e h=>ag (r.at e) λu e2 ru=>.inl ⟨_,_,i,u,rfl,ry.FL,.inl (aV s hx),e2,h G H _ ?cj ru⟩
  show ?cB
 case str=>
  show ?Eq
  case int=>
   by_cases hz:?xx
   ·rw[UI,if_pos hz]at h;refine ag (qP h) λp e h=>ag ?qa λc e2 Zl=>?_;subst Zl;exact .inr (.inr ⟨z,i,c,rx.KW,ry.FL,hz,e2,h G H _ ?cj (?cY)⟩)
   ·rw[UI,if_neg hz]at h;show ?am
  show ?cB
 show ?cB
def JD(l:?e)(lo hi:?cN):?e:=(l.drop (?Wf)).take (HT.k8 l.length l.length hi-?Wf)
def KZ(p:PV)(lo hi:?cN):?k:=match p with
 |?dj=>if ?Np then .bad else .ok (.tup (JD l lo hi))
 |?cx=>.ok (.lst (JD l lo hi))
 |_=>.bad
def rSl(K:aaU):V->?cN->?cN->?ha:=λx lo hi H Q=>XW K x lo hi H Q\/Up K x lo hi H Q
def tPO(K:aaU)(E:XK)(g:gZ->Rs (?cN)):TO:=λσ H Q=>∃G env,?aP/\?fa/\Fi ?rf (λo=>∀G' H',?hc->Q o H') ?mv
section
def asI:PV->Rs (?cN)
 |?O=>.ok (?fQ)
 |_=>.bad
theorem L0(h:?hV):PO X (?gG) (tPO X.K E λenv=>?nP>>=asI):=λpins s σ H Q I hq=>AX h _ s σ H Q I (tF.seq hq λG env p sm er h G' H' v ex rv=>by
 show ?Eo
 case int=>exact⟨i,rv.FL,h _ _ ex⟩
 show ?tj)
theorem slP{K}{lo}(s:?aP)(rx:?La)(h:fq K E (KZ p lo hi) G H Q):rSl K x lo hi H Q:=by
 have cut:∀{xs}{ps},?Kg->aI K G (CV _ lo hi) (JD _ _ _):=λ{xs ps}r=>by unfold CV JD;show ?kj;exact ?GZ
 show ?Ep
 case tup=>
  refine ah rx.yW λa xs Zm hx r=>?_
  rw[Zm]
  by_cases hc:?Np
  ·rw[KZ,?qm]at h;show ?am
  ·rw[KZ,?uE]at h;exact .inl ⟨_,_,rfl,bF s hx,by show ?kj;exact hc,HS s (cut r) h⟩
 case lst=>
  refine ah rx.FO λa xs Zn hx r=>?_
  subst Zn
  exact .inr ⟨_,_,rfl,.inl (aV s hx),z0 s (cut r) h⟩
 show ?cB
theorem L5{lo}(he:?hV)(hl:PO X lo (tPO X.K E gl))(hu:PO X hi (tPO X.K E gu)):
  PE X (?hn e ?Uc pos) (tP X.K E ?Ns):=
 (CU ((by
intro pins s σ H x v vl vu lo hi sl Q I rx hs pl pu q
show ?BR
·exact((show SlR X (XW X.K)from by
refineλpins s σ H x v vl vu lo hi sl Q I rx hs pl pu h=>bI h λa xs Zo hx hw q=>?_
clear h
subst Zo
cases rx
refine aG (I.tuple hx) λaL r ht hz=>?_
have hlen:aL.toArray.size=xs.length:=r.length.symm
refine⟨_,_,amY.lookup,ht.typeIs,(HT.qB ht hs pl pu (by rw[hlen];exact hw) ?_ (by rw[hlen];exact hz))⟩
rw[hlen]
exact⟨?fo,_,I.laid (o:=.tup _) (λb ob q=>?eE) ?A (⟨?YL,_,?GZ,asQ _ _⟩),rfl,q _ (I.bq.fresh ?A)⟩) _ s σ H x v _ _ _ _ _ Q I rx hs pl pu q)
·exact HE _ s σ H x v _ _ _ _ _ Q I rx hs pl pu q)) he hl hu).imp λσ H Q h=>tF.seq h λG env p sm er h G1 H1 v ex rv=>
  ⟨G1,env,ex.gh,?kR,Fi.mO h (λa _ h G2 H2 ex2=>
   ⟨G2,env,ex2.gh,er.mono (?mH).gg,Fi.mO h (λb _ h G3 H3 ex3=>
    slP ex3.gh (rv.mono (?gk).gg) (fq.later h ((?mH).trans ex3))) λ_ h=>h.mono (?mH).hh⟩) ?xn⟩
#where
section
theorem UJ(h:PA X es ?cD):PE X (?ka es x1 pos) (tP X.K E λenv=>?dk>>=fu):=
 (Ug h).imp λσ H Q h=>pk (r:=λxs H1 Q=>?ev/\∀p,?jI->Q (?af) (upd _ p _)) (λG H vs ps Q s r h=>by
  unfold fu at h;show ?ao
  ·rename_i hz;exact⟨by show ?kj;exact hz,HS s r h⟩
  ·show ?am) h
theorem UK(h:PA X es ?cD):PE X (.List es pos) (tP X.K E λenv=>?dk>>=nh):=
 (lN h).imp λσ H Q h=>pk (r:=λxs H1 Q=>?ev/\∀p,?jI->Q (?af) (upd _ p _)) (λG H vs ps Q s r h=>by
  unfold nh at h;show ?ao
  ·rename_i hz;exact⟨by show ?kj;exact hz,z0 s r h⟩
  ·show ?am) h
def L6:?Cl
 |.b_=>true
 |_=>false
def vi(neg:Bool)(p:PV):?k:=.ok (.bl (if neg then !L6 p else L6 p))
theorem Zp{K}(r:?av):?IR=L6 p:=by cases r<;>rfl
section
variable{X:Cx}{E:XK}{a:Expr}{ga:gZ->?k}{j:Nat}{pos':Pos}{σ:L2.St}{H:Hp}{Q:VK}(ha:?kC)
theorem So(h:tP X.K E (λenv=>?fO>>=vi false) σ H Q):tP X.K E ga σ H λv H'=>Q (.bl (?IR)) H':=
 tF.seq h λ_ _ p _ _ h G' H' v ex rv=>by dsimp only;rw[Zp rv];exact h _ _ _ ex (?bY)
theorem L7(h:tP X.K E (λenv=>?fO>>=vi true) σ H Q):tP X.K E ga σ H λv H'=>Q (.bl (! ?IR)) H':=
 tF.seq h λ_ _ p _ _ h G' H' v ex rv=>by dsimp only;rw[Zp rv];exact h _ _ _ ex (?bY)
include ha
#where
theorem Dj{pos}{id}{p}(hc:eJ X (?U id) r)(hr:?zS)(hg:?cX)(hm:?pL)(hv:?gW=some (?U id))(ha:PA X ?bp ?cD)
 (hn:?id:=by decide) (hdb:?bh:=by decide) (he:?ft:=by rfl) (hpl:?hO:=by rfl):
 PE X (?I (?o x p) ?bp [] pos) (tP X.K E λenv=>?dk>>=F):=(jG hc hg hm hv ha hn hdb he hpl).imp λσ H Q h=>pk hr h
#where
inductive Qa(K:aaU)(F:?e->?k)(vs:?B)(H:Hp)(Q:VK)(E:XK):Prop
 |mk (G ps):?aP->?cE->?Wz->Qa K F vs H Q E
section
theorem L8{X:Cx}(sp:Sp)(hsp:∀vs H Q,Qa X.K F vs H Q E->?lb):kj X.K E (λvs H Q=>sp (vs++[]) H Q E) F:=λG H vs ps Q s r h=>by show sp _ H Q E;rw[afM];exact hsp _ _ _ ⟨G,ps,s,r,h⟩
theorem Qb{p pos}(Fn:gz X.prog X.w X.K X.mg X.base CX k f fd ps (Qa X.K F))(hr:?Ce)(hg:?cX)(hm:?lM=some ?aH)(hk:aiT X.K ?aH=true)(hb:?Ga)(hx:?js)
  (ha:PA X ?bp ?cD) (hdb:?bh:=by decide) (he:?ft:=by rfl) (hpl:?hO:=by rfl):
  PE X (?I (?o x p) ?bp [] pos) (tP X.K E λenv=>?dk>>=F):=
 (Hz Fn hr hg hm hk hb .nil hx ha hdb he hpl).imp λσ H Q=>pk (L8 _ λ_ _ _ z=>z)
#where
def JE(C:Addr)(f:Str):PV->?k
 |.ins D fs=>if D=C then FP (?jC)else .bad
 |_=>.bad
theorem UL(c:?qI)(n:?AY)(he:?hV)(hb:attributeBase e f X.env (?ea)=?ea:=by rfl):
  PE X (?aq e f pos) (tP X.K E λenv=>?nP>>=JE C f):=
 (kM he hb).imp λσ H Q h=>tF.seq h λG env p s er h G' H' v ex rv=>by
  rcases p with _|_|_|_|_|_|⟨D,fs⟩|_|_|_
  case ins=>
   obtain⟨rfl,h2⟩:=a_ h
   refine ag (qP h2) λz hz h=>?_
   cases rv with
   |ins ha r=>
    exact ag (r.lookup hz) λu h3 h4=>⟨_,_,_,_,u,rfl,ex.gh _ _ ha,c,n,h3,h _ _ u ex h4⟩
  show ?tj
def UM(K:aaU)(J:It)(items:?e)(G1:Hp):Prop:=∀i G H,?nJ->?aP->
 (∀p,?uI=?Y->?Cc/\∀x H',?zg->∃G',?hc/\Rep K G' x p)/\(i=items.length->?AW)
def L9(K:aaU)(E:XK)(r:Rs (?e))(G H:Hp)(R:It->?aZ):Prop:=Fi r (λl=>∀G1 H1 J,?tD->UM K J l G1->R J H1) ?mv
def yY(K:aaU)(E:XK)(g:gZ->Rs (?e)):TI:=λσ H R=>∃G env,?aP/\?fa/\L9 K E ?rf G H R
theorem _root_.L2.PI.imp(h:PI X tg e t)(i:?om):PI X tg e t':=?vD
section
theorem Qc{K}(ha:Rd G1 a ?cm)(r:?zn):UM K (?rq) ps G1:=λi G H s1 s2=>by have hq:cW K H a _:=.inl (aV ?pr ha);refine ?Mj;show ?ty;have e:=y _ hq;rw[h1]at e;cases e;exact ?DM
theorem Qd{K}(ha:j9 K G1 a xs)(r:?zn):UM K (Itt K a) ps G1:=λi G H s1 s2=>by have hq:j9 K H a _:=bF ?pr ha;refine ?Mj;show ?ty;have e:=y _ hq;rw[h1]at e;cases e;exact ?DM
def Dk(lo:Int)(n:Nat):?e:=(?gI).map λ?bd=>PV.int (lo+i)
theorem HU{K}{lo}:UM K (Xy lo n) (Dk lo n) G1:=λi G H s1 s2=>by
 have hl:(Dk lo n).length=n:=by simp[Dk]
 refine⟨?dc,λhi=>ang (?W)⟩;have hi:i<n:=by have:=?Jg;simp_all
 have hp2:p=.int (lo+i):=by unfold Dk at hp;rw[ad0,apq hi]at hp;simp_all
 rw[hp2];refine⟨hi,?zH⟩;obtain⟨rfl,rfl⟩:=y;exact⟨G,?LN,?bB⟩
def FQ(j:Int):Bool:=Nat.ble j.natAbs 1000000
theorem HV(h:?qo):?Ty:=by have:=Nat.le_of_ble_eq_true h;omega
theorem vU(h:?Ty):?qo:=Nat.ble_eq_true_of_le (?qH)
def FT:?e->Rs (?e):=one (E5 λj=>if ?qo then .ok (Dk 0 j.toNat)else .bad)
def FU:?e->Rs (?e):=two λp q=>E5 (λi=>E5 (λj=>if FQ i=true/\?qo then .ok (Dk i (j-i).toNat)else .bad) q) p
theorem wQ(h:?qo):-2^62<=j/\j<2^62:=by have:=HV h;lia
theorem L_(hg:Gl X ?cR)(hm:X.mg ?cR=none)(ha:PA X [a] ?cD)(hs:?Gb=[?oF]:=by rfl):
  PI X tg (?I (?o ?cR p) [a] [] pos) (yY X.K E λenv=>?dk>>=FT):=
 (show PI X _ _ (Xz (pj _ E _))from by
   refineλpins s σ H R I h=>Call_ (i9 I hg hm boot_range (agW (ck ?kx λus s1 ?mm=>?_) hs rfl));obtain⟨j,e,q1,q2,q⟩:=q1;subst e;cases r1 with
   |cons r rr=>
    cases rr;show ?eV;exact call_range_1 (CH I1 ?i ?i q1 q2 (?W))).imp λσ H R h=>tF.seq h λG env ps s er h G1 H1 vs ex rv=>by
  refine bI (cn h rv) λv p Zq akY r h=>?_;rw[Zq];refine aG (qN h r) λj akZ Zr h=>?_;rw[Zr];show ?yZ;exact⟨j,rfl,(wQ hc).1,(wQ hc).2,h _ _ _ ex HU⟩
theorem Ma{tg}{p pos}(hg:Gl X ?cR)(hm:X.mg ?cR=none)(ha:PA X ?aE ?cD)(hs:starEach ?aE X.env=[?oF,(false,?zL)]:=by rfl)(hs2:?Gc=[(false,?zL)]:=by rfl):
  PI X tg (?I (?o ?cR p) ?aE [] pos) (yY X.K E λenv=>?dk>>=FU):=
 (show PI X _ _ (XA (pj _ E _))from by
   refineλpins s σ H R I h=>Call_ (i9 I hg hm boot_range (agW (ck ?kx λus s1 ?mm=>(ah q1 λi j e ahx q=>?_)) (?W) (by rw[hs2];rfl)));clear q1;obtain⟨q1,q2,q3,q4⟩:=ahx;subst e;cases r1 with
   |cons r rr=>
    cases rr with
    |cons r' rr=>
     cases rr;show ?eV;obtain⟨t',rfl⟩:=r';exact call_range_2 (CH I1 q1 q2 q3 q4 q)).imp λσ H R h=>tF.seq h λG env ps s er h G1 H1 vs ex rv=>by
  refine gf (ot h rv) λv u p q Zs ak0 r r' h=>?_;rw[Zs];refine aG (qN h r) λi ak1 Zt h=>?_;rw[Zt];refine aG (qN h r') λj ak2 Zu h=>?_;rw[Zu];show ?yZ;exact⟨i,j,rfl,⟨(wQ hc.1).1,(wQ hc.1).2,(wQ hc.2).1,(wQ hc.2).2⟩,h _ _ _ ex HU⟩
def mD(l:?e):?e:=l.zipIdx.map λx=>PV.tup [?pk,x.1]
def qQ:?e->Rs (?e):=one (uH λl=>.ok (mD l))
theorem Mb{K}(ha:Rd G1 a ?cm)(r:?zn):UM K (Ite K a) (mD ps) G1:=λi G H s1 s2=>by
 have hq:cW K H a _:=.inl (aV ?pr ha);have hl:(mD ps).length=ps.length:=by simp[mD]
 refine⟨?dc,λhi=>⟨xs,hq,by simp[r.length,hi,hl]⟩⟩;have hp2:∃q,ps[i]?=?lN/\p=.tup [.int (i),q]:=by unfold mD at hp;cases e:ps[i]?<;>simp_all
 obtain⟨q,hq2,rfl⟩:=hp2;obtain⟨u,h1,h2⟩:=r.get hq2;refine⟨⟨xs,u,hq,h1⟩,?zH⟩;obtain⟨T,z,rfl,hT,rfl,y⟩:=y;have e:=y _ hq;rw[h1]at e;cases e;exact⟨_,?Jh,.tup ?Bc (?p (?bB) (?p (h2.mono (s1.trans (?Jh).gg)) .nil))⟩
theorem Dl(hg:Gl X ?pJ)(hm:X.mg ?pJ=none)(ha:PA X [e] ?cD)(hs:?oR=[?kA]:=by rfl):
  PI X (?ka elts kk YE) (?I (?o ?pJ p) [e] [] pos) (yY X.K E λenv=>?dk>>=qQ):=
 (show PI X _ _ (YJ X.K (pj _ E _))from by
   refineλpins s σ H R I h=>Call_ (i9 I hg hm boot_enumerate (agW (ck ?kx λus s1 ?mm=>(ah q1 λa xs ex hq q=>?_)) hs rfl));subst ex;cases r1 with
   |cons r rr=>
    cases rr;cases r;refine aG ?px λaL rv p' hz=>call_enumerate_list p'.isList λh' he hit hsz hk=>wpAny_pyIter_enum he ?_;have I2:Inv X _ σ _ ?Xp:=I1.kept hk;refine⟨_,_,_,_,H1,rfl,I2,Jx a _ _,⟨⟨_,he⟩,hit,Nat.succ_ne_self _⟩,?hl,q⟩;have e':b=?Fo\/?xe:=?ds
    have hle:?VA:=by rcases e' with z|z<;>simp[z]
    exact ?DN).imp λσ H R h=>tF.seq h λG env ps s er h G1 H1 vs ex rv=>by
  obtain⟨v,p,rfl,rfl,r,h⟩:=cn h rv;obtain⟨a,xs,l,rfl,rfl,hl,r,h⟩:=lR h r;exact⟨_,_,rfl,.inl ?Ji,h _ _ _ ex (Mb hl r)⟩
#where
def Out(vs:?aw)(σ σ':L2.St):Prop:=?EY/\∀j,j∉vs->σ'[j]?=σ[j]?
def Sr(K:aaU)(g:TG)(ft:?zo)(vs:?aw):Prop:=∀G H v p σ env jq Q,?aP->?av->?fa->?wL->ft p env=.ok jq->
 (∀σ',gA K G σ' jq->Out vs σ σ'->?QP)->g v σ H Q
def bu(i:Nat)(p:PV)(env:gZ):Rs gZ:=.ok (env.set i (?Y))
theorem wR{K}i(er:?fa)(hl:?wL)(r:?av):gA K G (σ.set i (?V)) (env.set i (?Y)):=λj q h=>by
 by_cases e:i=j
 ·subst e;have hi:i<env.length:=by
   have:=?tC;simp_all
  rw[ag2 hi]at h;have e2:=afE (afE h);exact e2▸⟨v,ag2 ?a,r⟩
 ·rw[afB e]at h⊢;exact er j q h
theorem tgN{K}i:Sr K ?rp (bu i) [i]:=λG H v p σ env jq Q s r er hl e k=>by have e2:env.set i _=jq:=?sp e;subst e2;refine k _ (wR i er hl r) ⟨?J,λj hj=>?_⟩ ?i;rw[afB (λz=>hj ?jx)]
def HW:?aw->?e->gZ->Rs gZ
 |[],[],env=>.ok env
 |i::is,?kq,env=>HW is ps (env.set i (?Y))
 |_,_,_=>.bad
def A_(is:?aw)(p:PV)(env:gZ):Rs gZ:=match p with
 |?dj=>HW is l env
 |_=>.bad
def WU:?aw->WR
 |[]=>Xw
 |i::is=>R8 ?rp (WU is)
theorem z6:∀{is}{ps}{env jq},?WA->?WB
 |[],[],_,_,_=>rfl
 |[],_::_,_,_,h=>nb h
 |_::_,[],_,_,h=>nb h
 |i::is,?kq,env,jq,h=>by rw[ad2,ad2,z6 (is:=is) h]
theorem Zv{K}:∀is G H vs ps σ env jq Q,?aP->?cE->?fa->?wL->?WA->
  (∀σ',gA K G σ' jq->Out is σ σ'->?QP)->WU is vs σ H Q
 |[],G,H,vs,ps,σ,env,jq,Q,s,r,er,hl,e,k=>by
  cases r with
  |nil=>
   cases e;exact⟨rfl,k σ er ⟨rfl,?pV⟩ rfl⟩
  |cons _ _=>exact nb e
 |i::is,G,H,vs,ps,σ,env,jq,Q,s,r,er,hl,e,k=>by
  cases r with
  |nil=>exact nb e
  |cons r1 r2=>
   refine⟨_,_,rfl,(Zv _ G H _ _ _ _ _ Q s r2 (wR i er hl r1) (?W) e λσ' er' o le=>(k _ er' ⟨by rw[o.1,alI],λj hj=>?_⟩ (?W)))⟩;rw[o.2 j (λz=>hj (aaV _ z)),afB (λz=>hj ?jx)]
def jj(env:gZ):?aw->gZ
 |[]=>env
 |?eK=>(jj env vs).set v none
theorem qR env:∀vs,(jj env vs).length=env.length
 |[]=>rfl
 |?eK=>by dsimp only[jj];rw[alI,qR _ _]
theorem z7{K}(er:?fa):∀vs,gA K G (?it) (jj env vs)
 |[]=>er
 |?eK=>λi p h=>by
  unfold jj at h;dsimp only[wipe];by_cases e:v=i
  ·subst e;have hi:=?tC;simp_all
  ·rw[afB e]at h⊢;exact z7 er _ i p h
theorem Dm σ:∀vs j,j∉vs->(?it)[j]?=σ[j]?
 |[],_,_=>rfl
 |?eK,j,h=>by unfold wipe;rw[afB (λz=>h ?jx),Dm σ _ j (λz=>h (aaV _ z))]
theorem Ba σ:∀vs j,j∈vs->j<σ.length->(?it)[j]?=?cv
 |?eK,j,h,hl=>by
  unfold wipe;by_cases e:v=j
  ·rw[e,ag2 (by rw[du];exact hl)]
  ·rw[afB e];exact Ba σ _ j ((?BV).resolve_left λz=>e z.symm) hl
theorem wB(h:Out vs (wipe σ ws) σ')(hs:∀v∈vs,v∈ws):wipe σ' ws=wipe σ ws:=by
 have hl:?EY:=by rw[h.1,du]
 refine aly λj=>?_;by_cases hj:j∈ws
 ·by_cases hb:j<σ.length
  ·simp[Ba σ _ j hj hb,Ba σ' _ j hj (?W)]
  ·rw[akS (by rw[du,hl];lia),akS (by rw[du];lia)]
 simp[Dm σ' _ j hj,h.2 j (λz=>hj (hs j z))]
def quiet:?aX->?aX
 |?dE=>?dE
 |_=>.bad
def comp(ft:?zo)(gt:gZ->?gA)(ge:gZ->?k)(env:gZ):?e->Rs (?e)
 |[]=>.ok []
 |p::r=>quiet (ft p env)>>=λdt=>quiet (gt dt)>>=λb=>if ?dQ then quiet (ge dt)>>=λy=>?FF>>=λt=>.ok (y::t)else ?FF
theorem wU(h:quiet r=?dE):r=?dE:=by
 cases r with
 |ok b=>exact h
 |ex n=>exact nb h
 |bad=>exact nb h
theorem kl{r:?aX}(h:(r>>=f)=?dq):∃a,r=?dE/\f a=?dq:=by cases r<;>simp_all
theorem Dn:KS X [] (j_ X.K E λ_=>?iE):=λpins s σ H Q I Zw=>ah Zw λG env sm er h=>PJ _ s σ H Q I ?VB
theorem ja(ex:?hc)(hg:?vd)(hh:H D=?d):G' D=none:=by
 cases q:G' D with
 |none=>rfl
 |some u=>
  rcases ex.new D u q with z|z
  ·lia
  lia
theorem pN(h:(quiet r>>=f)=?ai):∃a,f a=?ai:=by
 rcases r with a|_|_
 ·exact⟨a,h⟩
 ·cases h
 ·cases h
theorem Qe{ft}(h:Fi (?WC>>=nh) P e):∃res,?WC=.ok res/\?VC/\P (.lst res):=by
 rcases q:comp _ _ _ _ l with res|n|_
 ·rw[q]at h;exact⟨res,rfl,a_ h⟩
 ·exfalso;clear h;induction l generalizing n with
  |nil=>cases q
  |cons p r ih=>
   obtain⟨dt,q⟩:=pN q;obtain⟨b,q⟩:=pN q;show ?BT
   ·exact ih n q
   ·obtain⟨y,q⟩:=pN q;rcases q4:?FF with t|k|_
    ·simp_all
    ·exact ih k q4
    simp_all
 ·rw[q]at h;show ?am
theorem sQ{G0:Hp}(hn:∀a o,G a=?d->G0 a=?d\/?iA)(s:?rg)(x:?hc)a o(z:G' a=?d):G0 a=?d\/?iA:=by
 rcases x.new a o z with z|z
 ·exact hn a o z
 ·exact .inr (s.free z)
inductive LcI(K:aaU)(G0 H0 G1:Hp)(D:Addr)(c:?e->Rs (?e))(res l:?e)(H:Hp):Prop
 |mk {G:Hp} {av:?B} {ap rest:?e}:?nJ->?aP->?rg->(∀a o,G a=?d->G0 a=?d\/?iA)->?vd->?XI->aI K G av ap->c l=.ok rest->ap++rest=res->LcI K G0 H0 G1 D c res l H
theorem au(s:?aP)(h:?vd):aj G (upd H D o):=λa u z=>akT (ae (λq=>?M)) (s _ _ z)
theorem none_of(s:?aP)(h:H D=none):?vd:=by
 rcases q:G D with _|u
 ·rfl
 grind [s _ _ q]
theorem wV(s:?aP)(h:H D=?d):aj (upd G D o) H:=λa u z=>by
 by_cases q:a=D
 ·grind [aa]
 ·rw[ae q]at z;exact s _ _ z
theorem qS{G0 H0:Hp}(hn:∀a o,G a=?d->G0 a=?d\/?iA)(h:H0 D=none)a o(z:upd G D x a=?d):G0 a=?d\/?iA:=by
 by_cases q:a=D
 ·exact q▸?rx
 ·rw[ae q]at z;exact hn a o z
theorem Qg{K}{ft}{rest}
  (tp:Sr K g ft tv) (htv:∀v∈tv,v∈own) (hle:?wL) (hres:?VC) (hD:H0 D=none) (er:gA K G2 σ env) (ex:Ex G H G2 H') (rx:Rep K G2 x p)
  (s1:?nJ) (s3:?rg) (hn:∀a o,G a=?d->G0 a=?d\/?iA) (d1:?vd) (d2:?XI) (r:aI K G av ap) (ec:comp ft gt ge ?tA (p::l)=.ok rest) (eq:ap++rest=res):
  g x (wipe σ own) H' λσ2 H2=>wipe σ2 own=wipe σ own/\j_ K E0 gt σ2 H2 λb H3=>ite (?dQ) (tP K E0 ge σ2 H3 λw H4=>∃xs,H4 D=some ?cm/\?xy/\LcI K G0 H0 G1 D (comp ft gt ge ?tA) res l (upd H4 D (.lst (xs++[w])))) (LcI K G0 H0 G1 D (comp ft gt ge ?tA) res l H3):=by
 refine ag (kl ec) λdt q1 ec=>ag (kl ec) λb q2 ec=>?_;have n2:=sQ hn s3 ex;have g2:=ja ex d1 d2;have h2:=ex.hh _ _ d2;refine tp _ _ x _ _ _ _ _ ex.gh rx (z7 er _) (by simp only[qR,du];exact hle) (wU q1) λσ2 er2 o2 l2=>⟨wB o2 htv,G2,dt,ex.gh,er2,?_⟩;rw[wU q2];intro G3 H3 ex3;have n3:=sQ n2 (s3.trans ex.hh) ex3;have g3:=ja ex3 g2 h2;have h3:=ex3.hh _ _ h2;show ?BT
 ·exact yU ⟨?QQ,ex3.gh,?DE,n3,g3,h3,r.mono (?XJ),ec,eq⟩
 ·refine ag (kl ec) λy q3 ec=>ag (kl ec) λt q4 ec=>?_;have et:y::t=rest:=?sp ec;subst et;refine wI ⟨G3,dt,ex3.gh,er2.mono ex3.gg,?_⟩;rw[wU q3];intro G4 H4 w Cr rw4;have g4:=ja Cr g3 h3;have s4:=(?DE).trans Cr.hh;refine⟨av,Cr.hh _ _ h3,?_,.mk ((?QQ).trans Cr.gg) (au Cr.gh g4) (au s4 hD) (sQ n3 (?DE) Cr) g4 aa ((r.mono ((?XJ).trans Cr.gg)).append (?p rw4 .nil)) q4 (?W)⟩;have:=congrArg amN eq;show ?iT;show ?kj;lia
theorem Zx{K}{ft}
  (tp:Sr K g ft tv) (htv:∀v∈tv,v∈own) (hlen:σ.length=N)
  (hh:tP K E (λenv=>if env.length<=N then ?ke>>=λl=>comp ft gt ge ?tA l>>=nh else .bad) σ H0 Q):Yu (yY K E gi) g (j_ K E0 gt) (tP K E0 ge) own σ H0 Q:=by
 refine ah hh λG0 env sm0 er0 h=>?_;obtain⟨hle,h⟩:=a_ h;refine⟨G0,env,sm0,er0,Fi.seq h λitems h G1 H1 J ex1 UN D hD=>(aG (Qe h) λres e2 hres h=>?_)⟩;have hD0:H0 D=none:=ex1.hh.free hD;have g1:=none_of ex1.gh hD;refine⟨λi m H=>m=items.length-i/\i<=items.length/\LcI K G0 _ _ D _ res (items.drop i) H,⟨_,rfl,?bg,.mk (?bv) (au ex1.gh g1) (au ex1.hh hD0) ex1.new g1 aa .nil e2 rfl⟩,(λi m H Su=>i8 Su λak6 hi2 Zy=>?_)⟩;clear Su;obtain⟨s1,s2,s3,hn,d1,d2,r,ec,eq⟩:=Zy;obtain⟨UO,wW⟩:=UN i _ H s1 s2;by_cases hlt:i<items.length
 ·obtain⟨go,Ht⟩:=UO _ (aft _);refine .inr ⟨go,_,λH' z=>⟨_,?M,rfl,hlt,z⟩,λx H' y=>(ag (Ht x _ y) λG2 ex2 rx=>?_)⟩;rw[<-?Ki]at ec;exact Qg tp htv (hlen▸hle) hres hD0 (er0.mono (ex1.gg.trans (s1.trans ex2.gg))) ex2 rx s1 s3 hn d1 d2 r ec eq
 ·obtain rfl:=anr hi2 ?BE;refine .inl ⟨wW rfl,?_⟩;rw[anN]at ec;cases ec;rw[afM]at eq;subst eq;exact h _ _ _ ⟨λa o z=>by rw[ae (λq=>by grind [sm0 _ _ z])];exact s1 _ _ (ex1.gg _ _ z),wV s2 d2,s3,qS hn hD0⟩ (.lst ?lh (r.mono (au (?bv) d1)))
theorem Mc{ft}
  (hc:?db) (hN:X.N.Nodup) (hi:?DU) (ok:?kt)
  (hg:∀(s:Shared)(H:Hp)(C:Addr)(cl:?aU)(fp:?X),PG ?bS tg g) (tp:Sr X.K g ft tv) (htv:∀v∈tv,v∈?dX)
  (ht:∀(s:Shared)(H:Hp)(C:Addr)(cl:?aU)(fp:?X),KS ?bS ifs ?yA)
  (he:∀(s:Shared)(H:Hp)(C:Addr)(cl:?aU)(fp:?X),PE ?bS elt (tP X.K E0 ge)) (hs:?kr:=by intro _;rfl):
  PE X ?hP (tP X.K E λenv=>if ?Ui then ?ke>>=λl=>comp ft gt ge (jj env (?dX)) l>>=nh else .bad):=
 λpins s0 σ H0 Q I h=>Yy hc hN hi ok hg ht he hs _ _ σ _ Q I (Zx tp htv I.len h)
theorem aI.one{K}(r:aI K G v [p]):∃u,v=[u]/\Rep K G u p:=by show ?sd;obtain rfl:=r.P2;exact⟨u,rfl,h⟩
def ahz:PV->?k
 |?dj=>?kD
 |?cx=>?kD
 |?cW=>if ?XK then ?XL else .bad
 |_=>.bad
def Zz:?e->?k:=one ahz
def UP(K:aaU):?bD:=λxs H Q=>(∃p ys,xs=[?af]/\(?AC\/?AD)/\Q (?pj) H)\/∃z,xs=[?nT]/\?xx/\Q (.int z.length) H
theorem UQ:eJ X (?U ?dG) (UP X.K):=qE.or (by show ?wz;refine aG h λz ZA hz q=>?_;clear h;subst ZA;refine La ?iy λu ZC t ZD=>?_;subst ZC;subst ZD;have hn:=sJ;exact len_str ?a ⟨.int z.length,H,?cG,?ad,q⟩)
def FV{α:Type}(f:PV->?dL):?e->Option (?aa)
 |[]=>some []
 |x::r=>(f x).bind λa=>(FV f r).map λs=>a::s
def ZE:PV->Option Bool
 |?bP=>?kf
 |_=>none
def UR:PV->?cN
 |.int b=>?kf
 |_=>none
abbrev HX:?e->Option (?ng):=FV ZE
abbrev intsOf:?e->Option (?Z):=FV UR
theorem wX{K}{g:α->V}(hf:∀{p a v},f p=?cr->?av->v=g a)(r:aI K G v ps)(e:FV f ps=some bs):v=bs.map g:=by
 induction ps generalizing v bs with
 |nil=>cases e;exact r.P2
 |cons p ps ih=>
  show ?sd;obtain⟨a,e1,e⟩:=afu.mp e;obtain⟨s,e2,rfl⟩:=afv.mp e;simp[ih r e2,hf e1 h]
theorem JF(e:ZE p=?kf):p=?bP:=by
 show ?iY
 case bl=>cases e;rfl
 show ?ps
theorem JG(e:UR p=?kf):p=.int b:=by
 show ?iY
 case int=>cases e;rfl
 show ?ps
def lS:?e->?k:=one (uH λl=>opt (λbs=>.ok ?YP) (HX l))
def anyF:?e->?k:=one (uH λl=>opt (λbs=>.ok ?YO) (HX l))
def sumF:?e->?k:=one (uH λl=>opt (λns=>.ok (.int ns.sum)) ?Bd)
def yZ(n:Int)(l:?Z):Int:=l.foldl max n
def y0(n:Int)(l:?Z):Int:=l.foldl min n
theorem HY:∀l n,n<=yZ n l/\(∀y∈l,y<=yZ n l)/\(yZ n l=n\/yZ n l∈l)
 |[],n=>⟨Int.le_refl _,λy h=>?ik,?y⟩
 |a::l,n=>by refine i8 (HY l (max n a)) ?sX;have e:yZ n (a::l)=yZ _ l:=rfl;rw[e];grind
theorem HZ:∀l n,y0 n l<=n/\(∀y∈l,y0 n l<=y)/\(y0 n l=n\/y0 n l∈l)
 |[],n=>⟨Int.le_refl _,λy h=>?ik,?y⟩
 |a::l,n=>by refine i8 (HZ l (min n a)) ?sX;have e:y0 n (a::l)=y0 _ l:=rfl;rw[e];grind
def wY(f:Int->?Z->?aX):?Z->?aX
 |n::ns=>f n ns
 |[]=>.bad
def JH:?e->?k:=one (uH λl=>opt (wY λn ns=>.ok (.int (yZ n ns))) ?Bd)
def JI:?e->?k:=one (uH λl=>opt (wY λn ns=>.ok (.int (y0 n ns))) ?Bd)
section
theorem H_{K}{P:?Ch}(s:?aP)(h:Fi (one (uH λl=>opt f (HX l)) ps) P e)(r:?cE):∃a bs,vs=[?C]/\?Ey/\Fi (f bs) P e:=by refine bI ?hB λu p ZF ak7 ru h=>?_;subst ZF;refine cJ (lR h ru) λa xs l ak8 ZG ha rl h=>?_;rw[ZG];refine ag ?iN λbs e h=>?_;obtain rfl:=(wX (λe rl=>by obtain rfl:=JF e;exact rl.isB) rl e);exact⟨a,bs,rfl,?pl,h⟩
theorem wZ{K}{P:?Ch}(s:?aP)(h:Fi (one (uH λl=>opt f ?Bd) ps) P e)(r:?cE):∃a bs,vs=[?C]/\cW K H a (bs.map V.int)/\Fi (f bs) P e:=by refine bI ?hB λu p ZH ak9 ru h=>?_;subst ZH;refine cJ (lR h ru) λa xs l ak_ ZI ha rl h=>?_;rw[ZI];refine ag ?iN λbs e h=>?_;obtain rfl:=(wX (λe rl=>by obtain rfl:=JG e;exact rl.FL) rl e);exact⟨a,bs,rfl,?pl,h⟩
theorem ahA{K}:kj K E (ag9 K) JH:=λG H vs ps Q s r h=>by
 refine ah (wZ s h r) λa bs ZJ ha h=>?_;rw[ZJ];rcases bs with _|⟨n,ns⟩
 ·show ?am
 refine⟨_,_,rfl,ha,ak4 _,λm hm hy=>(i8 (HY ns n) ?yB)⟩;have em:m=yZ n ns:=by
  refine asr ?_ ?_
  ·show ?Gd
   ·exact g1
   ·exact g2 m hm
  ·rcases g3 with g3|g3
   ·rw[g3];exact hy n ?aS
   ·exact hy _ (aaV _ g3)
 rw[em];exact ?fZ
theorem ahB{K}:kj K E (ag_ K) JI:=λG H vs ps Q s r h=>by
 refine ah (wZ s h r) λa bs ZK ha h=>?_;rw[ZK];rcases bs with _|⟨n,ns⟩
 ·show ?am
 refine⟨_,_,rfl,ha,ak4 _,λm hm hy=>(i8 (HZ ns n) ?yB)⟩;have em:m=y0 n ns:=by
  refine asr ?_ ?_
  ·rcases g3 with g3|g3
   ·rw[g3];exact hy n ?aS
   ·exact hy _ (aaV _ g3)
  ·show ?Gd
   ·exact g1
   ·exact g2 m hm
 rw[em];exact ?fZ
#where
def kindS:PV->Option String
 |?bB=>some ?fW
 |?cY=>some ?bZ
 |.tup _=>some ?be
 |.b_=>some ?ul
 |_=>none
def ZL(f:String->?aX):PV->?aX
 |.ty U=>f U
 |_=>.bad
def eh:?e->?k:=two λp q=>opt (λT=>ZL (λU=>if U=?fW\/((U=?bZ\/U=?be)/\T≠?ul)then .ok ?WD else .bad) q) (kindS p)
def ZM(K:aaU)(x:V)(H:Hp)(T:String):Prop:=match x with
 |?bB=>T=?fW
 |?cY=>T=?bZ
 |.b_=>T=?ul
 |?af=>T=?be/\∃xs,j9 K H p xs
 |_=>False
def ahC(K:aaU):?bD:=λvs H Q=>∃x T U,vs=[x,.ty U]/\ZM K x H T/\(U=?fW\/((U=?bZ\/U=?be)/\T≠?ul))/\Q ?WD H
theorem Qh{K}(s:?aP)(r:?av)(e:kindS p=?eH):ZM K v H T:=by
 show ?iY
 case b_=>cases r;cases e;rfl
 case int=>cases e;obtain rfl:=r.FL;rfl
 case str=>cases e;obtain rfl:=r.KW;rfl
 case tup=>
  cases e
  refine ah r.yW λa xs ZN ha _=>?_
  subst ZN
  exact⟨rfl,_,bF s ha⟩
 show ?ps
theorem ahD{K}:kj K E (ahC K) eh:=λG H vs ps Q s r h=>by
 refine gf ?Cm λv u p q ZO ala r1 r2 h=>?_;rw[ZO];refine ag ?iN λT e h=>?_;rcases q with _|_|_|_|_|_|_|_|_|U
 case ty=>
  cases r2
  show ?yZ
  exact⟨v,T,U,rfl,Qh s r1 e,hc,h G H _ ?cj (?bY)⟩
 show ?cB
theorem ZP{E}{pos}(hg:?cX)(hm:?pL)(hv:?gW=some (?n T))(hn:?id:=by decide)(hd:?bh:=by decide):PE X (?o x pos) (tP X.K E λ_=>.ok (.ty T)):=
 JC (Pj hg hm hv (v:=.ty T) rfl hn hd) λ_=>.ty T
def Ia:?e->?k:=one (vg λl=>.ok (?cx))
def sR:?e->?k:=one (vg λl=>.ok (?dj))
theorem US{K}:kj K E (λxs H Q=>∃p ys,xs=[?af]/\((?AC/\∀l,?ny->Q (?ax) (upd H l ?ls))\/(?AD/\Q (?af) H))) sR:=λG H vs ps Q s r h=>by
 refine bI ?hB λu p ZQ alb ru h=>?_;rw[ZQ];show ?iY
 case tup=>
  refine ah (id ru.yW) λa xs ZR ha rl=>?_
  subst ZR
  exact⟨_,_,rfl,.inr ⟨bF s ha,h G H _ ?cj ru⟩⟩
 case lst=>
  refine ah ru.FO λa xs ZT ha rl=>?_
  subst ZT
  exact⟨_,_,rfl,.inl ⟨?pl,HS s rl h⟩⟩
 show ?cB
inductive Slot where
 |no
 |sh (p:PV)
 |ow (l:?e)
abbrev SE:=List Slot
def Slot.full:Slot->?lo
 |.no=>none
 |?iU=>?Y
 |.ow l=>some (?cx)
def Slot.jA:Slot->?lo
 |?iU=>?Y
 |_=>none
def full(se:SE):gZ:=se.map Slot.full
def jA(se:SE):gZ:=se.map Slot.jA
structure jB(K:aaU)(G0 H0 P G H:Hp)(σ:L2.St)(se:SE):Prop where
 ex:Ex G0 H0 G H
 pin:aj P G
 len:se.length=σ.length
 shr:∀(i:Nat)(p:PV),?iJ=some (Slot.sh p)->∃v,?jZ=some (?V)/\?av
 own:∀(i:Nat)(l:?e),?wv->∃a vs,?rY/\?ve/\?iA/\H a=some ?fF/\?AE
 sep:∀(i j:Nat)(l l':?e)(a:Addr),?wv->se[j]?=some (Slot.ow l')->?rY->σ[j]?=some (some (?lC))->i=j
section
theorem jB.grow{K}{H0 P G H G'}{σ}(h:?cA)(e:?hc):jB K G0 H0 P G' H' σ se where
 ex:=h.ex.trans e
 pin:=h.pin.trans e.gg
 len:=h.len
 shr:=λi p q=>let⟨v,h1,h2⟩:=h.shr i p q;⟨v,h1,h2.mono e.gg⟩
 own:=λi l q=>let⟨a,vs,h1,h2,h3,h4,h5⟩:=h.own i l q;⟨a,vs,h1,ja e h2 h4,h3,e.hh _ _ h4,h5.mono e.gg⟩
 sep:=h.sep
theorem jB.keep{K}(h:?cA)(e:?lF):jB K G0 H0 P G H' σ se:=
 h.grow ⟨?bv,h.ex.gh.trans e,e,λ_ _ z=>?dl⟩
theorem map_some{α β:Type}{f}{l:?aa}{i:Nat}{p:β}(h:?iB[i]?=some (?Y)):∃s,l[i]?=some s/\f s=?Y:=?W
theorem b7{α:Type}{l:?aa}{x y}(h:(l.set i x)[j]?=?bl):(i=j/\x=y/\i<l.length)\/(i≠j/\l[j]?=?bl):=by
 by_cases hj:i=j
 ·subst hj;have hi:=?tC;rw[alI]at hi;rw[ag2 hi]at h;exact .inl ⟨rfl,afE h,hi⟩
 ·rw[afB hj]at h;exact .inr ⟨hj,h⟩
theorem jB.UT{K}(h:?cA):gA K G σ ?jT:=λi p q=>by
 refine ?RE;rcases s with _|z|l
 ·exact nn q
 ·cases q;exact h.shr i _ e
 ·exact nn q
def ZU(σ:L2.St)(se:SE)(a:Addr):Prop:=∃(i:Nat)(l:?e),?wv/\?rY
open Classical in
noncomputable def fv(G H:Hp)(σ:L2.St)(se:SE):Hp:=λa=>if ZU σ se a then H a else G a
theorem jB.fG{K}(h:?cA):aj G ?tc:=λa o q=>by
 delta fv;split
 ·exact h.ex.gh _ _ q
 ·exact q
theorem jB.fH{K}(h:?cA):aj ?tc H:=λa o q=>by
 delta fv at q;split at q
 ·exact q
 ·exact h.ex.gh _ _ q
theorem jB.Qi{K}(h:?cA):gA K ?tc σ ?bA:=λi p q=>by
 refine ?RE;rcases s with _|z|l
 ·exact nomatch q
 ·cases q;exact ag (h.shr i _ e) λv h1 h2=>⟨v,h1,h2.mono h.fG⟩
 ·cases q;exact cH ?Jj λa vs h1 h2 h3 h4 h5=>⟨_,h1,.lst (Rd.of ((if_pos ⟨i,l,e,h1⟩).trans h4)) (h5.mono h.fG)⟩
theorem jB.ahE{K}(h:?cA):∀a o,fv G H σ se a=?d->G0 a=?d\/?iA:=λa o q=>by
 delta fv at q;split at q
 ·rename_i hh;refine bR hh λi l e e2=>cH ?Jj λb vs h1 h2 h3 h4 h5=>?_;lia
 ·exact h.ex.new a o q
theorem jB.ret{K}(h:?cA)(e:Ex ?tc H G' H'):Ex G0 H0 G' H':=
 ⟨(h.ex.gg.trans h.fG).trans e.gg,e.gh,h.ex.hh.trans e.hh,λa o z=>(e.new a o z).elim (λz=>h.ahE a o z) λz=>.inr (h.ex.hh.free z)⟩
theorem jB.Md{K}i(h:?cA)(r:?av):jB K G0 H0 P G H (σ.set i (?V)) ?kK where
 ex:=h.ex
 pin:=h.pin
 len:=?WE
 shr:=λj q e=>by
  show ?RY
  ·simp_all[h.len]
  ·rw[afB hj];exact h.shr j q e
 own:=λj l e=>by
  show ?Tz
  ·show ?aD
  ·rw[afB hj];exact h.own j l e
 sep:=λj k l l' a e1 e2 e3 e4=>by
  rcases b7 e1 with⟨_,e,_⟩|⟨n1,e1⟩
  ·show ?aD
  rcases b7 e2 with⟨_,e,_⟩|⟨n2,e2⟩
  ·simp at e
  rw[afB n1]at e3;rw[afB n2]at e4;exact h.sep j k l _ a e1 e2 e3 e4
theorem jB.ahF{K}i(h:?cA)(hG:?ve)(h0:?iA)(hH:H a=some ?fF)(r:?AE)(hn:¬ZU σ se a):jB K G0 H0 P G H (σ.set i (some (?C))) ?oU where
 ex:=h.ex
 pin:=h.pin
 len:=?WE
 shr:=λj q e=>by
  show ?Tz
  ·show ?aD
  ·rw[afB hj];exact h.shr j q e
 own:=λj l e=>by
  show ?RY
  ·cases e;exact⟨a,vs,ag2 (by simp_all[h.len]),hG,h0,hH,r⟩
  ·rw[afB hj];exact h.own j l e
 sep:=λj k l1 l2 b e1 e2 e3 e4=>by
  rcases b7 e1 with⟨hj,_,_⟩|⟨n1,e1⟩<;>rcases b7 e2 with⟨hk,_,_⟩|⟨n2,e2⟩
  ·exact hj.symm.trans hk
  ·subst hj;rcases b7 e3 with⟨_,e,_⟩|⟨n,_⟩
   ·cases e;rw[afB n2]at e4;exact absurd ⟨k,l2,e2,e4⟩ hn
   ·exact absurd rfl n
  ·subst hk;rcases b7 e4 with⟨_,e,_⟩|⟨n,_⟩
   ·cases e;rw[afB n1]at e3;exact absurd ⟨j,l1,e1,e3⟩ hn
   ·exact absurd rfl n
  ·rw[afB n1]at e3;rw[afB n2]at e4;exact h.sep j k _ _ b e1 e2 e3 e4
theorem jB.chg{K}(h:?cA)(e:?iJ=some (Slot.ow l0))(ea:?rY)(r:?AE):jB K G0 H0 P G (upd H a ?fF) σ ?oU:=by
 refine cH (h.own i _ e) λb ws h1 h2 h3 h4 h5=>?_;obtain rfl:b=a:=?W
 refine⟨⟨h.ex.gg,au h.ex.gh h2,au h.ex.hh h3,h.ex.new⟩,h.pin,?EB,λj q z=>?_,λj l' z=>?_,?QR⟩
 ·rcases b7 z with⟨_,z,_⟩|⟨_,z⟩
  ·show ?aD
  ·exact h.shr j q z
 ·rcases b7 z with⟨rfl,z,_⟩|⟨hj,z⟩
  ·cases z;exact⟨_,vs,h1,h2,h3,aa,r⟩
  ·refine ?Oq;have hc:c≠b:=λq=>hj (h.sep i j _ _ b e z h1 ?UF);exact⟨c,us,k1,k2,k3,by rw[ae hc];exact k4,k5⟩
 ·have back:∀{m}{l'},?oU[m]?=some (Slot.ow l')->∃l'',se[m]?=some (Slot.ow l''):=λz=>by
   rcases b7 z with⟨rfl,_,_⟩|⟨_,z⟩
   ·exact⟨l0,e⟩
   ·exact ?lA
  obtain⟨m1,z1⟩:=back z1;obtain⟨m2,z2⟩:=back z2;exact ?RF
theorem jB.share{K}(h:?cA)(e:?wv):∃a G',?rY/\jB K G0 H0 P G' H σ (se.set i (.sh (?cx)))/\Rep K G' (?C) (?cx):=by
 refine cH ?Jj λa vs h1 h2 h3 h4 h5=>?_;have sg:aj G (upd G a ?fF):=au (?bv) h2;have rr:Rep K _ _ _:=.lst ?lh (h5.mono sg);refine⟨a,_,h1,⟨⟨h.ex.gg.trans sg,wV h.ex.gh h4,h.ex.hh,qS h.ex.new h3⟩,h.pin.trans sg,?EB,λj q z=>?_,λj l' z=>?_,?QR⟩,rr⟩
 ·rcases b7 z with⟨rfl,z,_⟩|⟨_,z⟩
  ·simp_all
  ·exact ag (h.shr j q z) λv k1 k2=>⟨v,k1,k2.mono sg⟩
 ·rcases b7 z with⟨_,z,_⟩|⟨hj,z⟩
  ·show ?aD
  ·refine ?Oq;have hc:c≠a:=λq=>hj (h.sep i j l _ a e z h1 ?UF);exact⟨c,us,k1,by rw[ae hc];exact k2,k3,k4,k5.mono sg⟩
 ·rcases b7 z1 with⟨_,z,_⟩|⟨_,z1⟩
  ·show ?aD
  rcases b7 z2 with⟨_,z,_⟩|⟨_,z2⟩
  ·show ?aD
  exact ?RF
theorem jB.lay{K}i(h:?cA)(hp:?qG)(r:?AE):jB K G0 H0 P G (upd H a ?fF) (σ.set i (some (?C))) ?oU:=by refine(h.keep (au (?bv) hp)).ahF i (none_of h.ex.gh hp) (h.ex.hh.free hp) aa r λ⟨j,l',e1,e2⟩=>cH (h.own j _ e1) λb us k1 k2 k3 k4 k5=>?_;simp_all
#where
inductive Fl where
 |nx (se:SE)
 |rt (p:PV)
def Mf(K:aaU)(G0 H0 P:Hp)(D:Ends):Fl->Prop
 |.nx se=>∀G H σ,?cA->?uC
 |.rt p=>∀G H v,Ex G0 H0 G H->?av->D.rt v H
def mE(K:aaU)(E:XK)(r:?da)(G0 H0 P:Hp)(D:Ends):Prop:=Fi r (Mf K G0 H0 P D) λn=>?Lb
def iu(K:aaU)(E:XK)(H0:Hp)(g:?gq):TS:=λD σ H=>∃G0 P G se,?cA/\?TA
section
theorem iu.full{K}{f:SE->α->?da}(hq:iu K E H0 (λse=>g ?bA>>=f se) D σ H)(k:∀G0 P G se a,?cA->?SB->W ?tc a):tF K E g W σ H:=dw hq λG0 P G se h q=>⟨_,_,h.fH,h.Qi,Fi.mO q ?RZ ?sg⟩
theorem iu.jA{K}{f:SE->α->?da}(hq:iu K E H0 (λse=>g ?jT>>=f se) D σ H)(k:∀G0 P G se a,?cA->?SB->W G a):tF K E g W σ H:=dw hq λG0 P G se h q=>⟨G,_,h.ex.gh,h.UT,Fi.mO q ?RZ ?sg⟩
#where
def k_(g:?gq):Fl->?da
 |.nx se=>g se
 |.rt p=>?lf
def ab(g1 g2:?gq)(se:SE):?da:=g1 se>>=k_ g2
theorem mE.seq{K}(q:mE K E (r>>=k_ g) G0 H0 P D)(k:∀se,?TA->∀G H σ,?TB->nx σ H):mE K E r G0 H0 P' {D with nx:=nx}:=
 Fi.seq q λf q=>by
  rcases f with se|p
  ·exact k _ q
  ·exact q
section
theorem Ib:oj X [] (iu X.K E X.kW λse=>?jy):=cg.imp (λD σ H ZV=>dw ZV λG0 P G se h q=>q G H σ h)
theorem Dq{st}{rest}(h1:PS X st ?xC)(h2:oj X rest ?XM):oj X ?ue (iu X.K E X.kW (ab g1 g2)):=
 (aq h1 h2).imp (λD σ H ZW=>dw ZW λG0 P G se h q=>⟨G0,P,G,se,h,mE.seq q λse' q G' H' σ' h'=>⟨G0,P,G',se',h',q⟩⟩)
theorem Bb{st}(h1:PS X st ?xC):oj X [st] ?xC:=aw h1
def bC(gt:gZ->?gA)(g1 g2:?gq)(se:SE):?da:=gt ?bA>>=λb=>if ?dQ then g1 se else g2 se
theorem Mg(hc:?VD)(ha:oj X a ?xC)(hb:oj X b ?XM):PS X ?Hz (iu X.K E X.kW (bC gt g1 g2)):=
 (gj hc ha hb).imp λD σ H q=>iu.full q λG0 P G se k h q G' H' ex=>by
  rcases k with _|_
  ·exact yU ?Qz
  ·exact wI ?Qz
def ai(ge:gZ->?k)(se:SE):?da:=ge ?bA>>=λp=>?lf
def eM(ge:gZ->?k)(se:SE):?da:=?dd>>=λ_=>?jy
def aD(i:Nat)(ge:gZ->?k)(se:SE):?da:=?dd>>=λp=>.ok (.nx ?kK)
theorem Sv{X:Cx}(hq:iu X.K E X.kW ?qp D σ H):tP X.K E ge σ H ?Sx:=
 iu.jA hq λG0 P G se p h q G' H' v ex rv=>q _ _ _ ((?ni).Md i rv)
theorem Mh{pos}(hN:X.N.Nodup)(hi:?dh=?F)(hx:?hY)(he:?hV)(hs:swapsWith e (some (?o x pos')) pos.line X.env=?ff:=by rfl)
  (hf:?lX:=by first|exact ?y|exact ?dz|show ?cJ):PS X (?di [?o x pos'] e pos) (iu X.K E X.kW ?qp):=
 ?Sa λD σ H q=>Sv q
theorem Mi{ft}
  (hc:?db) (hN:X.N.Nodup) (hy:?dh=?bl) (hyl:?DS=?dK)
  (hsw:swapsWith ?hP (some (?o y py)) PK.line X.env=pure true) (hi:?DU) (ok:?kt)
  (hg:∀(s:Shared)(H:Hp)(C:Addr)(cl:?aU)(fp:?X),PG ?bS tg g) (tp:Sr X.K g ft tv) (htv:∀v∈tv,v∈?dX)
  (ht:∀(s:Shared)(H:Hp)(C:Addr)(cl:?aU)(fp:?X),KS ?bS ifs ?yA)
  (he:∀(s:Shared)(H:Hp)(C:Addr)(cl:?aU)(fp:?X),PE ?bS elt (tP X.K E0 ge)) (hs:?kr:=by intro _;rfl):
  PS X (?di [?o y py] ?hP PK) (iu X.K E X.kW (aD i λenv=>if ?Ui then ?ke>>=λl=>comp ft gt ge (jj env (?dX)) l>>=nh else .bad)):=
 λpins s σ H D I q=>LJ hc hN hy hyl hsw hi ok hg ht he hs _ s σ H D I (Zx tp htv I.len (Sv q))
def oZ(i:Nat)(gs:gZ->Rs (?e))(se:SE):?da:=gs ?jT>>=λl=>if ?gS then .ok (.nx ?oU)else .bad
def E7(f:?e->?aX):Option Slot->?aX
 |some (.ow l)=>f l
 |_=>.bad
theorem ou(h:Fi (E7 f o) P e):∃l,o=some (.ow l)/\Fi (f l) P e:=by
 rcases o with _|_|_|l
 ·show ?am
 ·show ?am
 ·show ?am
 ·exact⟨l,rfl,h⟩
def ahG(i j:Nat)(se:SE):?da:=E7 (λl=>.ok (.nx ((se.set j (.sh (?cx))).set i (.sh (?cx))))) se[j]?
def lT(i:Nat)(ge:gZ->?k)(se:SE):?da:=E7 (λl=>?dd>>=λp=>if l.length<sizeLine then .ok (.nx (se.set i (.ow (l++[p]))))else .bad) ?iJ
def Sw:V->?bD:=λx vs H Q=>∃l b xs zs,x=?ax/\vs=[?cH]/\H l=some ?cm/\?Hg/\?Nc
theorem Bc:O5 X "list.extend" Sw:=by
 refineλpins s σ H x vs v us Q I rx rv h=>jD h λl b xs zs ZX ZY hH hB hz q=>?_;clear h;subst ZX;subst ZY;cases rx;refine ag rv.one λu ZZ ru=>?_;subst ZZ;cases ru;refine sE (I.Pz hH) λz aL n r hl e=>?OY;have hl2:=r2.length;have hsz:?Qf<=sizeLine:=?W
 show ?MA
 refine call_meets arC ?zh ari (aqX _ _)
  (AutoSeq1.list_extend_list_list_0 l _ n b _ _ Mj (?W) ?a) ⟨e,e2,(⟨.b_,_,I.Py hH e ?i ?Jf ?_,rfl,q⟩)⟩
 rw[adW];omega
def ahH(i j:Nat)(se:SE):?da:=E7 (λl=>E7 (?ME) se[j]?) ?iJ
#where
def b8(i:Nat)(p:PV)(se:SE):Rs SE:=.ok ?kK
def Be:?aw->?e->SE->Rs SE
 |[],[],se=>.ok se
 |i::is,?kq,se=>Be is ps ?kK
 |_,_,_=>.bad
def z8(is:?aw)(p:PV)(se:SE):Rs SE:=P1 (λl=>Be is l se) p
def TgS(K:aaU)(g:TG)(ft:?zp):Prop:=∀G0 H0 P G H v p σ se se' Q,?cA->?av->ft p se=.ok se'->
 (?OC)->g v σ H Q
theorem Z0{K}(k:?OC):∀{vs}{ps}{σ}{se},?cA->?cE->?WF->WU is vs σ H Q:=by
 induction is with
 |nil=>
  intro vs ps σ se h r e;rcases ps with _|_
  ·cases e;exact⟨r.P2,k σ h⟩
  ·exact nb e
 |cons i is ih=>
  intro vs ps σ se h r e;show ?xt
  ·exact nb e
  ·refine ah r.un λu us Z1 r1 r2=>?_;rw[Z1];exact⟨_,_,rfl,ih (h.Md i r1) r2 e⟩
theorem FW(h:?WF):?WB:=by
 induction is generalizing ps se with
 |nil=>rcases ps with _|_<;>first|rfl|exact nb h
 |cons i is ih=>
  show ?xt
  ·exact nb h
  simp[ih h]
theorem Qj(e:P1 f p=?dE):∃l,p=?dj/\f l=?dE:=by
 show ?XN
 case tup=>exact⟨l,rfl,e⟩
 all_goals exact nb e
theorem ahJ{K}is:TgS K (Pl K is.length (WU is)) (z8 is):=λG0 H0 P G H v p σ se se' Q h r e k=>by obtain⟨l,rfl,e⟩:=Qj e;obtain⟨a,xs,rfl,ha,r⟩:=r.yW;exact⟨_,_,rfl,bF h.ex.gh ha,by rw[r.length,<-FW e],Z0 k h r e⟩
def dv(ft:?zp)(gb:?gq):?e->?gq
 |[],se=>?jy
 |p::r,se=>quiet (ft p se)>>=λmP=>gb mP>>=k_ (dv ft gb r)
def eU(gi:gZ->Rs (?e))(ft:?zp)(gb:?gq)(se:SE):?da:=gi ?jT>>=λl=>dv ft gb l se
theorem JJ(h:Fi (quiet r>>=f) P e):∃a,r=?dE/\Fi ?dF P e:=by
 show ?AR
 ·exact ?tM
 ·show ?am
 ·show ?am
theorem jB.pins{K}(h:?cA)(s:aj P' G):?TB:=⟨h.ex,s,h.len,h.shr,h.own,h.sep⟩
section
def ahK(K:aaU)(E:XK)(G0 H0 P G1:Hp)(D:Ends)(f:?gq)(σ:L2.St)(H:Hp):Prop:=∃G se,?nJ/\?cA/\mE K E (f se) G0 H0 P D
theorem UU{ft}(hp:PassesOwn ?K X.A X.env X.xe)(hc:?db)(hi:?DU)(hg:?Bz)(tp:TgS X.K g ft)(hb:?Ri)
  (hs:?kr:=by intro _;rfl):PS X ?DQ (iu X.K E X.kW ?zq):=
 (wt hp hc hi hg hb hs).imp λD σ H q=>iu.jA q λG0 P G se items h q G1 H1 J ex UN=>by
  refine⟨λi m σ H=>m=items.length-i/\i<=items.length/\ahK _ E _ _ P _ D (dv _ _ (items.drop i)) σ H,⟨_,rfl,?bg,G1,se,?bv,?ni,q⟩,(λi m σ2 H2 Sx=>vO Sx λZ2 hi2 G2 ox s1 h2 q2=>?_)⟩;clear Sx;subst Z2;obtain⟨UO,wW⟩:=UN i G2 _ s1 h2.ex.gh;by_cases hlt:i<items.length
  ·obtain⟨go,Ht⟩:=UO _ (aft _);rw[<-?Ki]at q2;refine ag (JJ q2) λse3 e1 q2=>.inr ⟨go,_,λσ' H' z=>⟨_,?qH,rfl,hlt,z⟩,λx H' y=>(ag (Ht x _ y) λG3 ex3 rx=>?_)⟩;have h3:=h2.grow ex3;exact tp _ _ _ _ _ x _ _ _ _ _ (h3.pins (?bv)) rx e1 λσ4 h5=>⟨G0,G3,G3,se3,h5,mE.seq q2 λse5 q2 G5 H5 σ5 h6=>⟨G5,se5,?TC h6.pin,h6.pins (h3.pin.trans h6.pin),q2⟩⟩
  ·obtain rfl:=anr hi2 ?BE;rw[anN]at q2;exact .inl ⟨wW rfl,q2 _ _ _ h2⟩
def jJ(gt:gZ->?gA)(gb:?gq):Nat->?gq
 |0,_=>.bad
 |n+1,se=>gt ?bA>>=λb=>if ?dQ then gb se>>=k_ (jJ gt gb n)else ?jy
theorem Ml{X}{E}{gb}{gt}n(hp:PassesOwn ?K X.A X.env X.xe)(hc:?VD)(hb:?Ri):PS X ?TY (iu X.K E X.kW (jJ gt gb n)):=
 (CG hp hc hb).imp λD σ H ?xG=>by
  refine⟨λm σ H=>∃G se,jB _ _ _ P G H σ se/\mE _ E (jJ _ _ m se) _ _ P D,⟨n,G,se,h,q⟩,?_⟩;intro m σ1 H1 Z3;refine bR Z3 λG1 mP h1 q1=>?_;rcases m with _|m
  ·exact q1.elim
  ·refine⟨_,_,h1.fH,h1.Qi,Fi.mO q1 (λb _ q1 G' H' ex=>?_) λ_ x=>x.mono h1.ex.hh⟩;show ?BT
   ·exact yU (q1 _ _ _ (h1.keep ex.hh))
   ·exact wI ⟨_,λσ' H' z=>⟨m,anL m,z⟩,G0,P,G1,mP,h1.keep ex.hh,mE.seq q1 λse5 q1 G5 H5 σ5 h6=>⟨G5,se5,h6,q1⟩⟩
#where
def init(n:Nat)(l:?e):SE:=l.map Slot.sh++aqU (n-l.length) .no
def ahM:Fl->PV
 |.nx _=>.b_
 |.rt p=>p
def outF(r:?da):?k:=r>>=λf=>.ok (ahM f)
def fnF(n a:Nat)(g:?gq)(l:?e):?k:=if l.length=a then outF (g (init n l))else .bad
theorem sS{i:Nat}(e:(init n ps)[i]?=some s):s=.no\/∃p,ps[i]?=?Y/\s=?iU:=by
 delta init at e;by_cases hi:i<(ps.map Slot.sh).length
 ·rw[aiy hi,ad0]at e;exact ag ?qa λp h1 h2=>.inr ⟨p,h1,h2.symm⟩
 ·rw[aiU (am1 hi)]at e;exact .inl (List.eq_of_mem_replicate (ail e))
theorem Mn{K}(s:?aP)(r:?cE):jB K G H G G H ?ym (init N.length ps)where
 ex:=Ex.refl s
 pin:=?bv
 len:=by delta init L2.start;rw[adW,adW,aa_,aa_,aqN,aqN,r.length]
 shr:=λi p e=>by
  rcases sS e with e|⟨z,q,e⟩
  ·show ?aD
  ·cases e;refine ag (r.get q) λu h1 h2=>⟨u,?_,h2⟩;delta L2.start;rw[aiy (by rw[aa_];exact(aeH.mp h1).1),ad0,h1];rfl
 own:=λi l e=>?Om
 sep:=λi j l l' a e=>?Om
section
theorem fnP{K}{st}(Fn:?xm)(S:aX N ps ?bH)
  (body:∀(cdv:Value)(A:Around)(outer:?dy)(s:Shared)(H:Hp)(E:XK),dP k (A.deeper (envOfC qual ?bH s.heap.objs.size f cdv))->oj (CB P w K mg base N qual ?bH f cdv A outer s H E) ?nC (iu K E H g))
  (hF:?MQ):gz P w K mg base ?bE ?cz f fd ps (Qa K F):=by
 refine bU Fn.ex λoc od kV doc pm an cdv ct osl Z4 lk hcd=>?_;subst Z4;refine CQ lk hcd S ?xD λA outer s H vs Q E hr hsp=>⟨_,body _ A _ s H E hr,?_⟩
 ·show ?yf;rcases hF l with e|⟨e,_⟩
  ·rw[e]at h;show ?am
  ·rw[r.length,e]
 ·obtain⟨G,l,sm,r,h⟩:=hsp;rcases hF l with e|⟨_,e⟩
  ·rw[e]at h;show ?am
  ·rw[e]at h;refine⟨G,G,G,_,Mn sm r,Fi.seq h λfl h=>?_⟩;rcases fl with se|p
   ·exactλG' H' σ' q=>h _ _ _ q.ex .b_
   ·exact h
#where
inductive Z5(K:aaU)(n:Int)(vs:?B)(H:Hp)(Q:VK)(E:XK):Prop
 |mk (e C tp):vs=[?rm]->H e=?xV->?iM->(∀d,?Cg->d≠e->Q .b_ (upd (upd H d (.xd [(?ah,?AB)])) e ?zk))->Z5 K n vs H Q E
inductive Mo(K:aaU)(vs:?B)(H:Hp)(Q:VK)(E:XK):Prop
 |mk (e C tp n):vs=[?rm,?en]->H e=?xV->?iM->(∀d,?Cg->d≠e->Q .b_ (upd (upd H d (.xd [(?ah,?en)])) e ?zk))->Mo K vs H Q E
theorem Mp{K}{H0}{E}{pos p2 p3}{n}
  (c:?iM) (hnt:UG K n C) (hi:ag7 K ?u ?ck=?EO) (hfn:aor K (.ref fI)=true) (hkp:aiT K ?u=true) (Fn:ph P w K mg base ?bE k fI fd ps ?Cn)
  (hr:dP ?cz (?aM).A) (hm:mg x=some ?u) (hb:?jl)
  (hg:Gl (?aM) x:=by rfl) (hdb:?bh:=by decide):
  PS (?aM) (?lP (some (?I (?o x p2) [] [] p3)) none pos) (iu K E H0 λ_=>?ai):=
 (show PS (?aM) (?lP (some ?PX) none pos) (UE K H0 E (LX C ?Cn E))from by
    show ?sH;rw[arm_exec_Raise];refine ?QS;show wpAny _ _ (raiseStmt _ (some (do let v<-eval ?PX _;standAt pos;pure v)) none) _ _ _;unfold raiseStmt;refine wpAny_bind (wpAny_bind (O3 (Dg c hi hfn hkp Fn (⟨hr.dp,hr.un⟩) hg hm hb br hdb) I h (λv s1 y H1 I1 r1 Sy=>gf Sy λea C tp d Z6 h0 he xc hE=>?_)));clear Sy;subst Z6;refine wpAny_bind (wpAny_standAt (?bx));obtain rfl:v=afZ ea:=r1;refine i8 (I1.bq ea _ he) λvd _ _=>?_;have vd:?PW:=vd;have hn:s0.heap.get? ea=none:=by
     cases q:s0.heap.get? ea with
     |none=>rfl
     |some o=>
      have z:=I1.base.free ea o q h0 (λz=>absurd (show ea∈([]:?X)from z) ?i);rw[he]at z;show ?aD
    have fin:=UD (HP I1 he) vd hn qM xc hE;have ty:anu ?cF s1.heap (typeOf ?df) ?u:=?UG;have sb:=(wJ (M:=?ux) I1.qv xc.YO).LR;have hh:=I1.ok.hd rfl;obtain⟨hp,g,dd,tk,os⟩:=s1;have ty:anu ?cF hp (typeOf ?df) ?u:=ty;have sb:anu ?cF hp (isSubtype ?u (?n ?eT)) true:=sb;repeat (first|with_reducible kernel_rfl|rfl|wp_step)
    show wpAny _ _ (isSubtype ?u (?n ?eT)) _ _ _;refine ?Ow;have WV:hp.get? C=some oC:=I1.qv _ _ WV;repeat (first|show ?mg|with_reducible rfl|exact~~~(hcC)|wp_step)
    exact wpAny_raiseNew_none hh fin).imp λD σ H⟨G0,P',G,se,h,q⟩=>by
  refineλe tp he=>⟨e,C,tp,rfl,aa,c,λd hd hde=>⟨rfl,e,C,tp,d,rfl,h.ex.hh.free he,aa,c,?_⟩⟩;rw[ae hde]at hd;refine q _ C d (?fd) c ⟨[(?ah,?bB)],?_,rfl⟩ hnt
  ·have z2:=h.ex.hh _ _ z;have hbe:?fU:=az z2 he;have hbd:b≠d:=az z2 hd;simp only[pM hbe,ae hbd,ae hbe];exact z2
  ·rw[pM hde,ae hde,aa]
abbrev GE:=gZ->?k
abbrev GS:=gZ->Rs (?e)
abbrev GB:=gZ->?gA
abbrev cK(p:PV):GE:=λ_=>?bC
abbrev c0:GS:=λ_=>.ok []
abbrev c1(ga:GE)(gs:GS):GS:=λenv=>?fO>>=λx=>?dk>>=?GD
abbrev cF(gs:GS)(F:?e->?k):GE:=λenv=>?dk>>=F
abbrev c2(F:PV->PV->?k)(ga gb:GE):GE:=λenv=>?oj
abbrev cU(F:PV->?k)(ga:GE):GE:=λenv=>?fO>>=F
abbrev bV(ga:GE):GB:=λenv=>?fO>>=zZ
abbrev bN(ta:GB):GB:=λenv=>ta env>>=?zl
abbrev bA(ta tb:GB):GB:=?RC
abbrev bO(ta tb:GB):GB:=?Rh
abbrev bT:GB:=λ_=>?iE
abbrev cA(ga gb:GE):GE:=λenv=>P7 (?fO) (gb env)
abbrev cO(ga gb:GE):GE:=λenv=>vOr (?fO) (gb env)
abbrev cN(ga:GE):GE:=λenv=>?fO>>=λp=>zZ p>>=λc=>.ok (.bl (!c))
abbrev cI(ta:GB)(ga gb:GE):GE:=λenv=>ta env>>=λk=>if k=true then ?fO else gb env
abbrev dM(n:Nat)(own:?aw)(gi:GS)(ft:?zo)(gt:GB)(ge:GE):GE:=λenv=>if ?tr then ?ke>>=λl=>comp ft gt ge ?tA l>>=nh else .bad
abbrev GO:=gZ->Rs (?cN)
abbrev oN:GO:=λ_=>.ok none
abbrev oS(ge:GE):GO:=λenv=>?nP>>=asI
abbrev FY(ge:GE)(gl gu:GO):GE:=?Ns
abbrev vj:PV->Rs (?e):=vg .ok
abbrev iE(gs:GS):GS:=λenv=>?dk>>=qQ
abbrev WW(gs:GS):GS:=λenv=>?dk>>=FT
abbrev iR2(gs:GS):GS:=λenv=>?dk>>=FU
structure Gc(K:aaU)(mg:?bs)(x:Str)(p:PV):Prop where
 ex:∃u v,mg x=?Q/\?dg/\∀G,?av
theorem qT(c:Gc X.K X.mg x p)(hg:?cX)(hd:?bh:=by decide):PE X (?o x pos) (tP X.K E (cK p)):=ah c.ex λu v h1 h2 h3=>JC (Hr hg h1 h2 hd) h3
structure fP(P:Program)(w:World)(K:aaU)(mg:?bs)(base:Heap)(x:Str)(k:Nat)(ps:?t)(F:?e->?k):Prop where
 ex:∃f fd,gz P w K mg base ?bE k f fd ps (Qa K F)/\mg x=some ?aH/\aiT K ?aH=true/\?jl
theorem Mq{K}:Passes ?bE X E0:=λ_ _ _ _ _ _ _ h=>(LY h).elim
theorem pO{p pos}{gs:GS}(Fn:fP X.prog X.w X.K X.mg X.base x k ps F)(hr:?vf)(hk:k<=j)(hx:?wc)(hg:?cX)
 (ha:PA X ?bp ?cD) (hdb:?bh:=by decide) (he:?ft:=by rfl) (hpl:?hO:=by rfl):
 PE X (?I (?o x p) ?bp [] pos) (tP X.K E (cF gs F)):=bI Fn.ex λf fd h1 h2 h3 h4=>Qb h1 ?zU hg h2 h3 h4 hx ha hdb he hpl
structure Def(K:aaU)(mg:?bs)(x:Str)(st:Stmt)(ps:?t):Prop where
 ex:∃f fd,E3 K x x st f fd/\mg x=some ?aH/\?jl
theorem fnX{K}{st}(D:?xm)(S:aX N ps ?bH)(len:?oe)
  (hbody:∀(cdv:Value)(A:Around)(outer:?dy)(s:Shared)(H:Hp)(vs:?B)(Q:VK)(E:XK),dP k (A.deeper (envOfC qual ?bH s.heap.objs.size f cdv))->?lb->
   ∃t,oj (CB P w K mg base N qual ?bH f cdv A outer s H E) ?nC t/\t ?hR ?zO H):gz P w K mg base ?bE ?cz f fd ps sp:=by
 refine bU D.ex λoc od kV doc pm an cdv ct osl Z7 lk hcd=>?_;subst Z7;exact CQ lk hcd S len (hbody _)
theorem Def.ok{K}{st}(D:?Hh)(S:aX N ps ?bH)(len:?oe)
 (hbody:∀(f:Addr)(cdv:Value)(A:Around)(outer:?dy)(s:Shared)(H:Hp)(vs:?B)(Q:VK)(E:XK),dP k (A.deeper (envOfC x ?bH s.heap.objs.size f cdv))->?lb->
  ∃t,oj (CB P w K mg base N x ?bH f cdv A outer s H E) ?nC t/\t ?hR ?zO H):
 ∃f fd,gz P w K mg base ?bE ?cz f fd ps sp/\mg x=some ?aH/\aiT K ?aH=true/\?jl:=ah D.ex λf fd h1 h2 h3=>⟨f,fd,fnX h1 S len (hbody f),h2,h1.kp,h3⟩
theorem okP{K}{st}(D:?Hh)(S:aX N ps ?bH)
 (body:∀(f:Addr)(cdv:Value)(A:Around)(outer:?dy)(s:Shared)(H:Hp)(E:XK),dP k (A.deeper (envOfC x ?bH s.heap.objs.size f cdv))->oj (CB P w K mg base N x ?bH f cdv A outer s H E) ?nC (iu K E H g))
 (hF:?MQ):fP P w K mg base x ?cz ps F:=ah D.ex λf fd h1 h2 h3=>⟨f,fd,fnP h1 S (body f) hF,h2,h1.kp,h3⟩
theorem fP.imp{K}(h:?sc)(i:∀l,F' l=.bad\/F' l=F l):fP P w K mg base x k ps F':=bI h.ex λf fd h1 h2 h3 h4=>⟨f,fd,h1.imp (by
 rintro vs H Q E ⟨G,l,s,r,q⟩;rcases i l with e|e
 ·rw[e]at q;exact q.elim
 ·exact⟨G,l,s,r,by rw[<-e];exact q⟩),h2,h3,h4⟩
def Qk(N:?t)(sc scope:Scope)(own:?mu):Bool:=(scope.kind==?na)&&((scope.names.all λy=>?oy==some y.2)&&((own.all λp=>N[p.2]?==some p.1)&&
 ((scope.names.all λy=>!(y.2==?dp)||(?xj==?cl||?xj==?hk))&&(scope.names.all λy=>!(y.2==.local||y.2==?dD)||((own.map ?aT).contains y.1||!N.contains y.1)))))
theorem FZ(h:Qk N sc scope own=true):qH N sc scope own:=by
 delta Qk at h;simp only[abk,beq_iff_eq,adY]at h;refine o9 h λh1 h2 h3 h4 h5=>⟨h1,h2,h3,λy hy e=>?_,λy hy e=>?_⟩
 ·have z:=h4 y hy;simp_all[e]
 ·have z:=h5 y hy;have e2:(y.2==NameKind.local||y.2==ap6)=true:=by
   simp[e]
  simp_all
structure Raises(P:Program)(w:World)(K:aaU)(mg:?bs)(base:Heap)(x:Str)(n:Int):Prop where
 ex:∃C fI fd,?iM/\UG K n C/\ag7 K ?u ?ck=?EO/\aor K (.ref fI)=true/\aiT K ?u=true/\ph P w K mg base ?bE 2 fI fd [?ae] ?Cn/\mg x=some ?u/\Binds K fd [?ae] []
theorem Mr{K}{pos p2 p3}(r:?os)
 (hr:dP k (?aM).A) (hk:3<=k) (hg:Gl (?aM) x:=by rfl) (hdb:?bh:=by decide):
 PS (?aM) (?lP (some (?I (?o x p2) [] [] p3)) none pos) (iu K E H0 λ_=>?ai):=uv r.ex λC fI fd h1 hnt h2 h3 h4 h5 h6 h7=>Mp h1 hnt h2 h3 h4 h5 ?zU h6 h7 hg hdb
def SI(h:Heap):Bool->Addr->Addr->Nat->Prop
 |true,it,c,i=>h.IsListIter it c i
 |false,it,c,i=>h.IsTupleIter it c i
def SS(h:Heap):Bool->Addr->?ec->Prop
 |true,c,xs=>h.IsList c xs
 |false,c,xs=>h.IsTuple c xs
theorem SI.ob(x:SI h b it c i):∃o,h.get? it=?d/\∀v,o.data≠?dD v:=by cases b<;>obtain⟨o,e,_,d⟩:=x<;>exact⟨o,e,λv q=>?M⟩
theorem SI.keep(x:SI h b it c i)(k:∀o,h.get? it=?d->h'.get? it=?d):SI h' b it c i:=?Nu
theorem SS.keep(x:?AF)(k:∀o,?Co=?d->?qq=?d):SS h' b c xs:=?Nu
section
theorem lg(hit:?XO)(hl:?WG)(hx:?uI=?F)
  (hQ:∀h',SI h' b it c ?bf->ai3 it s.heap h'->Q x ?bw):wpAny ?E A (agq ?eA) Q E s:=by
 cases b
 ·refine ?NJ;refine wpAny_bind (wpAny_callSpecial?_slot hit.typeIs amk ?NU);show wpAny _ _ (field _ 0>>=_) _ _ s;refine ?NP;refine ?NK;refine ?OZ;simp only[alz,hx];refine wpAny_bind (wpAny_setField ho hd ?i (wpAny_pure ⟨x,rfl,wpAny_pure (hQ _ ?_ ?vg)⟩));exact⟨_,?SC,(arS ..).trans hc,by
   rw[amj hd];simp[rawInt]⟩
 ·exact wpAny_nextOf_list_item hit hl hx hQ
theorem km(hh:?eW)(hit:?XO)(hl:?WG)(hx:?uI=none)
  (hE:∀h' e,?SX->(∃o,?ql=?d/\o.cls=?n ?HG)->E ?bn ?bw):wpAny ?E A (agq ?eA) Q E s:=by
 cases b
 ·refine ?NJ;unfold agq;refine wpAny_bind (wpAny_callSpecial?_slot (name:=aee "__next__") hit.typeIs amk ?NU);show wpAny _ _ (field ?eA 0>>=_) _ _ s;refine ?NP;show wpAny _ _ (if(afZ c==ajC)=true then _ else _) _ _ s;rw[if_neg (show¬((afZ c==ajC)=true)from ago)];show wpAny _ _ (field ?eA 1>>=_) _ _ s;refine ?NK;show wpAny _ _ (seqItems? (.ref c)>>=_) _ _ s;refine ?OZ;simp only[alz,hx];refine wpAny_bind (wpAny_rule (wpAny_bind (wpAny_setField ho hd ?i ?_)));show wpAny _ _ (newExc (?n ?HG) []>>=_) _ _ _;refine ?du;simp only[newExc,newTuple];refine wpAny_bind (wpAny_newObj_type (wpAny_bind (m:=firstArgMember _ _) (wpAny_of_eq (a:=ajC) (by first|rfl|(simp only[firstArgMember];rfl)) ?_)) ?yC);refine wpAny_newObj_type ?_ ?yC;simp only[raiseNew];refine ?DF;first|rw[?Ql]|rw[hh]
  exact wpAny_bind (wpAny_pure (wpAny_throw (hE _ _ ?PG ⟨_,?de,rfl⟩)))
 ·exact wpAny_nextOf_list_end hh hit hl hx hE
abbrev K0(h:Heap)(z TI TO:Addr)(f0 f1:Value):Prop:=h.get? z=some {cls:=?n ?br,dict:=none,data:=?aO #[f0,f1,?io,.ref TI,.ref TO],slots:=#[]}
def Fr(f0:Value):Prop:=f0=?P\/∃T:Addr,f0=?qO
structure ZS(h:Heap)(z TI TO i1 i2:Addr)(b1 b2:Bool)(c1 c2:Addr)(k:Nat):Prop where
 Qm:∃f0 f1,K0 h z TI TO f0 (?eI f1)/\Fr f0
 aL:IsPair h TI (.ref i1) (.ref i2)
 out:∃x y,IsPair h TO x y
 fst:SI h b1 i1 c1 k
 snd:SI h b2 i2 c2 k
theorem ZS.keep{z TI TO i1 i2 c1 c2}(x:ZS h z TI TO i1 i2 b1 b2 c1 c2 k)(kk:∀b∈?sK,∀o,?co=?d->?aY=?d):?PH:=by obtain⟨⟨f0,f1,hz,hf⟩,F0,⟨x,y,Ic⟩,h1,h2⟩:=x;exact⟨⟨f0,f1,kk z ?ct _ hz,hf⟩,kk _ ?hW _ F0,⟨x,y,kk _ ?cf _ Ic⟩,h1.keep λo e=>kk _ ?i o e,h2.keep λo e=>kk _ ?i o e⟩
theorem isFree{w:World}{A:Around}{s:Shared}{z TI TO:Addr}{f0:Value}{f1:Bool}(hz:K0 s.heap z TI TO f0 (?eI f1))(hf:Fr f0)(p1:∀f0 f1,K0 s.heap z TI TO f0 f1->P true s)
  (p2:∀h'(T:Addr),K0 h' z TI TO (?qO) (?eI true)->ai3 z s.heap h'->P false ?bw):wpAny ?E A (al_ ?dA) P E s:=by
 rcases hf with rfl|⟨T,rfl⟩
 ·exact wpAny_bind (wpAny_field hz rfl (x:=?P) rfl (?Uj))
 ·refine wpAny_bind (wpAny_field hz rfl (x:=?qO) rfl ?_);show wpAny _ _ (loadIfAlive _>>=_) _ _ _;rw[alz];refine ?du;have al:∀R,R (s.heap.get? T) s->wpAny ?E A (loadIfAlive T) R E s:=λR r=>λ_ _ _=>r;refine al _ ?_;cases q:s.heap.get? T with
  |none=>exact ?Uj
  |some o=>
   refine wpAny_bind (wpAny_field hz rfl (x:=?eI f1) rfl ?_);cases f1 with
   |true=>
    exact wpAny_pure (by simpa using p2 s.heap T hz ⟨rfl,?pV⟩)
   |false=>
    exact wpAny_bind (wpAny_setField_rec hz ?i λh' WS K1=>wpAny_pure (p2 h' T WS K1))
theorem Mt{prog:Program}{w:World}{A:Around}{E:?ap}{s:Shared}{x:Value}{Q:?ap}{z TI TO i1 i2 c1 c2:Addr}{b1 b2:Bool}{k:Nat}{xs ys:?ec}{y:Value}(D:?mb)
  (st:?rN) (hl1:?kH) (hl2:?kI) (hx:xs[k]?=?F) (hy:ys[k]?=?bl)
  (hQ:∀h',ZS h' z TI TO i1 i2 b1 b2 c1 c2 ?cz->?QA->
   (∀c o,c≠z->c≠TO->?ry->?rz->?mB=?d->?qq=?d)->Q (?bT) ?bw):
  wpAny ?E A ?Og (λfin s'=>∃v,fin=.done (.ret v)/\Q v s') E s:=by
 show ?OD;show wpAny _ _ (field ?dA 2>>=_) _ _ _;refine wpAny_bind (wpAny_field hz rfl (x:=?io) rfl ?_);show wpAny _ _ (field ?dA 3>>=_) _ _ _;refine ?MB;show wpAny _ _ (al_ ?dA>>=_) _ _ _;refine ?Nh
 ·show ?mL;refine wpAny_bind (wpAny_rule (wpAny_bind (wpAny_field hz rfl (x:=.ref TO) rfl (wpAny_bind (wpAny_setField_rec hz ?i ?WH)))));replace Sz:K0 h₁ z TI TO ?qr f1:=Sz;refine ?du;simp only[ar5,ass,amJ,anD];refine ?vH;show ?vW;refine wpAny_bind (lg ?Dm ?Dk hx λh₂ Z8 hs₂=>?bx);show ?MX;refine wpAny_bind (wpAny_seqItems Mu rfl (wpAny_bind (wpAny_updateSeq_pair Mu λh₃ Qn hs₃=>?_)));replace Qn:IsPair h₃ TO x b:=Qn;refine wpAny_bind (wpAny_letGo (wpAny_pure (?vH)));show ?vX;refine wpAny_bind (lg ?Mr
   ?Mv hy λh₄ h2₄ hs₄=>?bx)
  have Z9:IsPair h₄ TO x b:=hs₄.extBut _ _ D.TOi2 Qn;refine wpAny_bind (wpAny_seqItems Z9 rfl (wpAny_bind (wpAny_updateSeq_pair Z9 λh₅ Qo hs₅=>?_)));replace Qo:IsPair h₅ TO x y:=Qo;refine wpAny_bind (wpAny_letGo (wpAny_pure (wpAny_pure (wpAny_bind (wpAny_seqItems Qo rfl (wpAny_bind (wpAny_newTuple ?_)))))));have hsz:h₅.objs.size=s.heap.objs.size:=by rw[hs₅.1,hs₄.1,hs₃.1,hs₂.1,hs₁.1]
  have hz₅:K0 h₅ z TI TO ?qr f1:=hs₅.extBut _ _ D.TOz.symm (hs₄.extBut _ _ D.i2z.symm ?Nd);have hk₅:∀c o,c≠z->c≠TO->?ry->?rz->?mB=?d->h₅.get? c=?d:=λc o c1 c2 c3 c4 e=>
   hs₅.extBut _ _ c2 (hs₄.extBut _ _ c4 (hs₃.extBut _ _ c2 (hs₂.extBut _ _ c3 (hs₁.extBut _ _ c1 e))))
  have h1₅:SI h₅ b1 i1 c1 ?cz:=Z8.keep λo e=>hs₅.extBut _ _ D.TOi1.symm (hs₄.extBut _ _ D.i12 (hs₃.extBut _ _ D.TOi1.symm e));have h2₅:SI h₅ b2 i2 c2 ?cz:=h2₄.keep λo e=>hs₅.extBut _ _ D.TOi2.symm e;have Z_:z<h₅.objs.size:=ae8 hz₅;show wpAny _ _ (anY ?dA ?UH>>=_) _ _ _;refine ?du;unfold anY;have hz₆:K0 (h₅.push {cls:=?n ?be,data:=?Lc}) z TI TO ?qr f1:=aba _ hz₅;refine wpAny_bind (wpAny_setField_rec hz₆ ?i λh₇ hz₇ hs₇=>?_);replace hz₇:K0 h₇ z TI TO ?TD f1:=hz₇;refine wpAny_setField_rec hz₇ ?i λh₈ hz₈ hs₈=>?_;replace hz₈:K0 h₈ z TI TO ?TD (?io):=hz₈;have up:∀c o,c≠z->h₅.get? c=?d->h₈.get? c=?d:=λc o c1 e=>hs₈.extBut _ _ c1 (hs₇.extBut _ _ c1 (?gy));have hT₈:IsPair h₈ h₅.objs.size x y:=hs₈.extBut _ _ (alS Z_) (hs₇.extBut _ _ (alS Z_) (?de));rw[hsz]at hz₈ hT₈;refine wpAny_pure ?gj;show Q ?UH _;rw[hsz];exact hQ h₈ ⟨⟨_,_,hz₈,.inr ?ad⟩,up _ _ D.TIz (hk₅ _ _ D.TIz D.TITO D.TIi1 D.TIi2 F0),⟨_,_,up _ _ D.TOz Qo⟩,h1₅.keep λo e=>up _ o D.i1z e,h2₅.keep λo e=>up _ o D.i2z e⟩ hT₈ λc o c1 c2 c3 c4 e=>up c o c1 (hk₅ c o c1 c2 c3 c4 e)
 ·show ?sI;refine ?du;rw[<-aoh];simp only[amJ,anD];refine ?Op;show ?vW;refine ?Mg;show ?vX;refine wpAny_bind (lg ?MO ?MV hy λh₃ h2₃ hs₃=>wpAny_pure (wpAny_pure (wpAny_pure (wpAny_bind (wpAny_newTuple (hsz:=(?c:2<=sizeLine)) ?_)))));have hsz:h₃.objs.size=s.heap.objs.size:=by rw[hs₃.1,hs₂.1,hs.1]
  have up:∀c o,c≠z->?ry->?rz->?mB=?d->h₃.get? c=?d:=λc o c1 c3 c4 e=>hs₃.extBut _ _ c4 (hs₂.extBut _ _ c3 (hs.extBut _ _ c1 e));have pu:∀c o,h₃.get? c=?d->(h₃.push {cls:=?n ?be,data:=?Lc}).get? c=?d:=λc o e=>?gy;refine wpAny_pure ?gj;show Q (.ref h₃.objs.size) _;have hT:=aeq h₃ (o:={cls:=?n ?be,data:=?Lc}) rfl;rw[hsz]at hT⊢;exact hQ _ ⟨⟨?qO,true,pu _ _ (hs₃.extBut _ _ D.i2z.symm (hs₂.extBut _ _ D.i1z.symm hz)),(.inr ⟨T,rfl⟩)⟩,pu _ _ (up _ _ D.TIz D.TIi1 D.TIi2 F0),⟨a,b,pu _ _ (up _ _ D.TOz D.TOi1 D.TOi2 Ic)⟩,Z8.keep λo e=>pu _ _ (hs₃.extBut _ _ D.i12 e),h2₃.keep λo e=>pu _ _ e⟩ hT λc o c1 c2 c3 c4 e=>pu _ _ (up c o c1 c3 c4 e)
theorem Qp{prog:Program}{w:World}{A:Around}{E:?ap}{s:Shared}{z TI TO i1 i2 c1 c2:Addr}{b1 b2:Bool}{k:Nat}{xs ys:?ec}{Q:Fin->?kY}(hh:?eW)(D:?mb)
  (st:?rN) (hl1:?kH) (hl2:?kI) (hend:?SY)
  (hE:∀h' e,(∀c o,c≠z->c≠TO->?ry->?rz->?mB=?d->?qq=?d)->(∃o,?ql=?d/\o.cls=?n ?HG)->E ?bn ?bw):
  wpAny ?E A ?Og Q E s:=by
 show ?OD;show wpAny _ _ (field ?dA 2>>=_) _ _ _;refine wpAny_bind (wpAny_field hz rfl (x:=?io) rfl ?_);show wpAny _ _ (field ?dA 3>>=_) _ _ _;refine ?MB;show wpAny _ _ (al_ ?dA>>=_) _ _ _;refine ?Nh
 ·show ?mL;refine wpAny_bind (wpAny_rule (wpAny_bind (wpAny_field hz rfl (x:=.ref TO) rfl (wpAny_bind (wpAny_setField_rec hz ?i ?WH)))));replace Sz:K0 h₁ z TI TO ?qr f1:=Sz;refine ?du;simp only[ar5,ass,amJ,anD];refine ?vH;show ?vW;cases hx:xs[k]? with
  |none=>
   refine wpAny_bind (km hh ?Dm ?Dk hx λh₂ e hs₂ he=>(?VE));have hz₂:K0 h₂ z TI TO ?qr f1:=hs₂ _ _ D.i1z.symm Sz;have hez:e≠z:=λx=>by subst x;rw[hz₂]at UW;cases UW;simp at Uv
   refine wpAny_setField_rec hz₂ ?i λh₃ _ hs₃=>hE h₃ e (λc o c1 _ c3 _ x=>hs₃.extBut _ _ c1 (hs₂ _ _ c3 ?TE)) ⟨oe,hs₃.extBut _ _ hez UW,Uv⟩
  |some x=>
   show ?Nv
   refine wpAny_bind (lg ?Dm ?Dk hx λh₂ Z8 hs₂=>?bx);show ?MX;refine wpAny_bind (wpAny_seqItems Mu rfl (wpAny_bind (wpAny_updateSeq_pair Mu λh₃ Qn hs₃=>(wpAny_bind (wpAny_letGo (wpAny_pure (?vH)))))));show ?vX;refine wpAny_bind (km hh ?Mr
    ?Mv hy λh₄ e hs₄ he=>?_)
   refine ?VE;have hz₄:K0 h₄ z TI TO ?qr f1:=hs₄ _ _ D.i2z.symm ?Nd;have hez:e≠z:=λx=>by subst x;rw[hz₄]at UW;cases UW;simp at Uv
   refine wpAny_setField_rec hz₄ ?i λh₅ _ hs₅=>hE h₅ e (λc o c1 c2 c3 c4 x=>hs₅.extBut _ _ c1 (hs₄ _ _ c4 (hs₃.extBut _ _ c2 (hs₂.extBut _ _ c3 ?TE)))) ⟨oe,hs₅.extBut _ _ hez UW,Uv⟩
 ·show ?sI;refine ?du;rw[<-aoh];simp only[amJ,anD];refine ?Op;show ?vW;cases hx:xs[k]? with
  |none=>
   exact wpAny_bind (km hh (h1.keep λo e=>hs.extBut _ _ D.i1z e) (hl1.keep λo e=>hs.extBut _ _ D.l1z e) hx λh₂ e hs₂ he=>(hE h₂ e (λc o c1 _ c3 _ x=>hs₂ _ _ c3 ?VF) he))
  |some x=>
   show ?Nv
   refine ?Mg;show ?vX;exact wpAny_bind (km hh ?MO ?MV hy λh₃ e hs₃ he=>(hE h₃ e (λc o c1 _ c3 c4 x=>hs₃ _ _ c4 (hs₂.extBut _ _ c3 ?VF)) he))
theorem w6{z TI TO i2 c1 c2}(D:?mb)
  (st:?rN) (hl1:?kH) (hl2:?kI) (hx:xs[k]?=?F) (hy:ys[k]?=?bl)
  (hQ:∀h',ZS h' z TI TO i1 i2 b1 b2 c1 c2 ?cz->?QA->
   (∀c o,c≠z->c≠TO->?ry->?rz->?mB=?d->?qq=?d)->Q (some (?bT)) ?bw):wpAny ?E A (pyNext ?dA) Q E s:=by
 refine ?DZ;have hT:s.TypeIs ?dA _:=?Is;exact wpAny_bind (wpAny_attempt (wpAny_callSpecial?_slot hT aoe
  (wpAny_call_entry aoe hT ar6 (Mt D st hl1 hl2 hx hy λh' a1 a2 a3=>wpAny_pure (hQ _ a1 a2 a3)) (arT _))))
theorem pq{z TI TO i1 i2 c1 c2}(hh:?eW)(D:?mb)
  (st:?rN) (hl1:?kH) (hl2:?kI) (hend:?SY)
  (hQ:∀h',(∀c o,c≠z->c≠TO->?ry->?rz->?mB=?d->?qq=?d)->Q none ?bw):wpAny ?E A (pyNext ?dA) Q E s:=by
 refine ?DZ;have hT:s.TypeIs ?dA _:=?Is;exact wpAny_bind (wpAny_attempt (wpAny_callSpecial?_slot hT aoe
  (wpAny_call_entry aoe hT ar6 (Qp hh D st hl1 hl2 hend λh' e hk he=>(ag he λo ho hc=>wpAny_bind (wpAny_isInstance ⟨o,ho,hc⟩ isSubtype_stop (wpAny_pure (hQ _ hk))))) (arT _))))
theorem UX{prog:Program}{w:World}{A:Around}{s:Shared}{z TI TO i1 i2 c1 c2:Addr}{k:Nat}{T:Addr}(D:?mb)(st:?rN)
  (hQ:∀h',?PH->ai3 z s.heap h'->Q () ?bw):wpAny ?E A (letOwnedTupleGo tg ?dA (?rv)) Q E s:=by
 obtain⟨⟨f0,f1,hz,hf⟩,F0,⟨a,b,Ic⟩,h1,h2⟩:=id st;have same:Q () s:=hQ s.heap st ⟨rfl,?pV⟩;have go:wpAny ?E A (do
   let o<-load z
   match o.cls,o.data with
   |?n n,?aO vs=>
    if ?vz n&&vs[0]?==some (?qO)then
     rule "for.unpacks-the-owned-tuple"
     updateField z 0 ?P
   |_,_=>pure ():Sem Unit) Q E s:=by
  refine wpAny_bind (wpAny_load hz ?_);show wpAny _ _ (if(?vz ?br&&
    (#[f0,?eI f1,?io,.ref TI,.ref TO]:?ec)[0]?==some (?qO))=true then _ else _) Q E s
  split
  ·exact wpAny_setField_rec hz ?i λh' WS K1=>hQ h' ⟨⟨_,f1,WS,?y⟩,K1.extBut _ _ D.TIz F0,⟨a,b,K1.extBut _ _ D.TOz Ic⟩,h1.keep λo e=>K1.extBut _ _ D.i1z e,h2.keep λo e=>K1.extBut _ _ D.i2z e⟩ K1
  ·exact wpAny_pure same
 cases tg<;>first
  |exact wpAny_pure same
  |exact go
#where
def SA(b:Bool)(c:Addr):Obj:={cls:=?n (match b with|true=>"list_iterator"|false=>"tuple_iterator"),data:=?aO #[.ref c,.int 0 0]}
abbrev zH1(h:Heap)(b1:Bool)(c1:Addr):Heap:=h.push (SA b1 c1)
abbrev zH2(h:Heap)(b1 b2:Bool)(c1 c2:Addr):Heap:=(zH1 h b1 c1).push (SA b2 c2)
abbrev zH3(h:Heap)(b1 b2:Bool)(c1 c2:Addr):Heap:=(zH2 h b1 b2 c1 c2).push {cls:=?n ?be,data:=.seq #[.ref h.objs.size,.ref (zH1 h b1 c1).objs.size]}
abbrev zH4(h:Heap)(b1 b2:Bool)(c1 c2:Addr):Heap:=(zH3 h b1 b2 c1 c2).push {cls:=?n ?be,data:=.seq #[?P,?P]}
abbrev WX(h:Heap)(b1 b2:Bool)(c1 c2:Addr):Heap:=(zH4 h b1 b2 c1 c2).push {cls:=?n ?br,data:=?aO #[?P,?io,?io,.ref (zH2 h b1 b2 c1 c2).objs.size,.ref (zH3 h b1 b2 c1 c2).objs.size]}
theorem SS.push(x:?AF)o:SS (h.push o) b c xs:=x.keep λ_ e=>?gy
theorem w8(h:SS s.heap b c xs)(hQ:Q (?bT) {s with heap:=s.heap.push (SA b c)}):
  wpAny ?E A (pyIter (.ref c)) Q E s:=by
 cases b
 ·exact wpAny_pyIter_tuple h hQ
 ·exact wpAny_pyIter_list h hQ
theorem F3(b1 b2:Bool)(c1 c2:Addr)xs ys:
  Meets (Builtin.«zip.__new__» ⟨[?n ?br,.ref c1,.ref c2],[]⟩) (λ_ R s=>?kH/\?kI/\
   R (.ok (.ret (.ref ?Dt))) {s with heap:=WX s.heap b1 b2 c1 c2}):=
 .of_wp λprog w A R s h=>by show ?GE;refine i8 h λhl1 hl2 h=>?_;have hsub:=sub_zip;have hL1:SS _ b1 c1 xs:=hl1;have hL2:SS (Shared.heap ⟨hp.push (SA b1 c1),g,d,tk,os⟩) b2 c2 ys:=hl2.push _;wp_walk using w8 hL1,w8 hL2;exact ?tz
theorem z9{xs:?ec}{prog:Program}{w:World}{A:Around}{E Q:?ap}{s:Shared}{b1 b2:Bool}{c1 c2:Addr}{ys:?ec}(hl1:?kH)(hl2:?kI)
  (h:∀h',ZS h' (?Ge) (?XP) (?XQ) s.heap.objs.size (?ca) b1 b2 c1 c2 0->
   (∀c o,?mB=?d->?qq=?d)->Q (.ref (?Ge)) ?bw):wpAny ?E A (call (?n ?br) [.ref c1,.ref c2]) Q E s:=by
 refine callType_new F.called_zip rfl (F.typeCall_zip_2 _ _) (F.newCall_zip_2 _ _) (λobj=>F.args_object_init_3 obj _ _) F.entry_zip_new (F3 b1 b2 c1 c2 xs ys) ⟨hl1,hl2,?_⟩;have z1:?Rj=?ca:=agl ..;have z2:?Pv=?XP:=by rw[agl,z1]
 have z3:?Pw=?XQ:=by rw[agl,z2]
 have z4:?Dt=?Ge:=by rw[agl,z3]
 have up:∀{h:Heap}{o:Obj}{c:Addr}{u:Obj},?Co=?Q->(h.push o).get? c=?Q:=λe=>?gy;have g5:?rZ ?Dt=?bk:=?de;have g4:?rZ ?Pw=?bk:=up (?de);have g3:?rZ ?Pv=?bk:=up (up (?de));have g2:?rZ ?Rj=some (SA b2 c2):=up (up (up (aeq _ (by cases b2<;>rfl))));have g1:?rZ s.heap.objs.size=some (SA b1 c1):=up (up (up (up (aeq _ (by cases b1<;>rfl)))));show _/\_;rw[z2,z3,z4]at g5;rw[z1,z2]at g3;rw[z3]at g4;rw[z1]at g2;rw[z4];have mk:∀{h:Heap}{b:Bool}{it c:Addr},h.get? it=some (SA b c)->SI h b it c 0:=λ{h b it c}e=>by cases b<;>exact⟨_,e,rfl,rfl⟩
 exact⟨⟨_,g5,rfl⟩,h _ ⟨⟨_,_,g5,?y⟩,g3,⟨_,_,g4⟩,mk g1,mk g2⟩ λc o x=>up (up (up (up (up x))))⟩
def Sq(K:aaU)(H:Hp):Bool->Addr->?B->Prop
 |true,a,xs=>?fc
 |false,a,xs=>?hg
theorem _root_.L2.Inv.Bf{b:Bool}{s:Shared}{X:Cx}{pins:?aF}{σ:L2.St}{H:Hp}{a:Addr}(I:?r){xs:?B}(h:Sq X.K H b a xs):∃aL,?pX/\SS s.heap b a aL.toArray/\a<s.heap.objs.size:=by
 cases b
 ·exact aG (I.tuple h) λaL rv p _=>⟨aL,rv,p,by refine ag p ?tQ;exact ?bO⟩
 ·exact aG (I.list h) λaL rv p _=>⟨aL,rv,p.isList,p.lt⟩
theorem _root_.L2.Inv.Mv{b:Bool}{s:Shared}{X:Cx}{pins:?aF}{σ:L2.St}{H:Hp}{a:Addr}(I:?r){xs ys:?B}(h:Sq X.K H b a xs)(h':Sq X.K H b a ys):xs=ys:=by
 cases b
 ·exact I.zL h h'
 ·exact I.qz h h'
def UY(K:aaU)(b1 b2:Bool)(a b:Addr):It:=
 ⟨λi H=>∃(xs ys:?B)(x y:V),?yD/\?yE/\?hI=?F/\ys[i]?=?bl,
  λi H v H'=>∃T x y,v=?rv/\H T=none/\H'=upd H T (.tup [x,y])/\(∀xs,?yD->?hI=?F)/\∀ys,?yE->ys[i]?=?bl,
  λi H=>∃xs ys:?B,?yD/\?yE/\(?zM\/ys.length<=i)⟩
theorem sT{w:World}{b1 b2:Bool}{a:Addr}{tg:Expr}{P:Program}{K:aaU}{b z TI TO i1 i2:Addr}(D:ZipApart z TI TO i1 i2 a b):
  Turn P w K tg ?Hi ?sK z (λi h=>ZS h z TI TO i1 i2 b1 b2 a b i)where
 mem:=?J
 obj:=λi h st c hc=>by
  show ?Dh;have e':?RG:=by simpa using hc
  rcases e' with q|q|q|q|q
  ·rw[q];exact⟨_,hz,?xU⟩
  ·rw[q];exact⟨_,F0,?xU⟩
  ·rw[q];exact⟨_,Ic,?xU⟩
  ·rw[q];exact h1.ob
  ·rw[q];exact h2.ob
 keep:=λi h h' st k=>st.keep k
 item:=by
  show ?dU;show ?ej;refine Cv hg λxs ys x y SD O9 hx hy=>aG (I.Bf SD) λaL rv p _=>aG (I.Bf O9) λka rv2 p2 _=>ag ?Al λu hu ru=>ag (rv2.get hy) λu2 Js Ym=>?_;have hlt:∀c∈?sK,?xB:=λc E8=>by
   show ?Dh;have e':?RG:=?Yy
   rcases e' with q|q|q|q|q
   ·rw[q];exact ae8 hz
   ·rw[q];exact ae8 F0
   ·rw[q];exact ae8 Ic
   ·rw[q];refine ag h1.ob ?tQ;exact ?bO
   ·rw[q];refine ag h2.ob ?tQ;exact ?bO
  refine w6 D st p p2 (x:=u) (y:=u2) ?oH (by simpa using Js) λh' vR hT hk=>⟨_,rfl,UX (s:=?bw) D vR λLI ahR sb=>?_⟩;have hT2:?SW=some {cls:=?n ?be,data:=.seq #[u,u2]}:=(sb.2 _ (alS (hlt z ?i))).trans hT;have new:dg X.prog X.w ?OR LI s.heap.objs.size (.tup [x,y]):=
   ⟨?RV,[u,u2],?p ru (?p Ym .nil),?UD⟩
  have I1:Inv X pins σ ?OR {s with heap:=LI}:=
   I.sP (t':=s.toks) (ch:=?sK) (λc o hb q=>(sb.2 c ?jb).trans (hk c o ?jb ?jb ?jb ?jb q)) hf ?A new
  refine⟨?bT,_,I1,rfl,⟨_,x,y,rfl,I.bq.fresh ?A,rfl,λl hl=>by rw[I.Mv hl SD];exact hx,λl hl=>by rw[I.Mv hl O9];exact hy⟩,ahR,λc E8=>?_⟩;rw[ae (af1 (hlt c E8))];exact(hf c E8).1
 done:=by
  show ?dU;show ?ej;refine ah hg λxs ys SD O9 hend=>aG (I.Bf SD) λaL rv p _=>aG (I.Bf O9) λka rv2 p2 _=>?_;have l1:=rv.length;have l2:=rv2.length;have he:aL.toArray[i]?=none\/ka.toArray[i]?=none:=by
   rcases hend with q|q
   ·exact .inl ?aj
   ·exact .inr ?aj
  exact pq ?cL D st p p2 he λh' hk=>⟨rfl,I.PQ (t':=s.toks) (ch:=?sK) (λc o hb q=>
   hk c o ?jb ?jb ?jb ?jb q) hf⟩
 self:=λA i s Q E st h=>by refine ?DZ;have hT:s.TypeIs ?dA ?br:=?Is;refine wpAny_pyIter_slot hT asu (wpAny_call_entry asu hT F.entry_zip_iter ?_ (F.args_zip_iter_1 _));show wpAny _ _ (ret ?dA) _ _ s;exact wpAny_pure ⟨_,rfl,?br,_,hT,aoe.lookup,h⟩
def aaa(K:aaU)(ta:TA):TI:=λσ H R=>ta σ H λvs H1=>∃a b b1 b2 xs ys,vs=[?C,?cH]/\Sq K H1 b1 a xs/\Sq K H1 b2 b ys/\R ?Hi H1
def F4(a b:?e):?e:=(a.zip b).map λx=>PV.tup [x.1,x.2]
def JK:?e->Rs (?e):=two λp q=>vg (λa=>vg (λb=>.ok (F4 a b)) q) p
abbrev iZ(gs:GS):GS:=λenv=>?dk>>=JK
theorem Dr{K}(h:Rd G a ?cm\/?ld):∃b,∀H,?aP->Sq K H b a xs:=h.elim (λh=>⟨true,λH s=>.inl ?Ci⟩) λh=>⟨false,λH s=>bF s h⟩
theorem Qq{K}(ha:∀H,aj G1 H->?yD)(r:?zn)(hb:∀H,aj G1 H->?yE)(r2:aI K G1 ys qs):
  UM K ?Hi (F4 ps qs) G1:=λi G H s1 s2=>by
 have h1:=ha H ?pr;have h2:=hb H ?pr;have hl:(F4 ps qs).length=min ps.length qs.length:=by simp[F4]
 refine⟨?dc,λhi=>⟨xs,ys,h1,h2,by rw[r.length,r2.length];lia⟩⟩;have hp2:∃q q',ps[i]?=?lN/\qs[i]?=some q'/\p=.tup [q,q']:=by
  unfold F4 at hp;rw[ad0]at hp;cases e:(ps.zip _)[i]? with
  |none=>rw[e]at hp;simp_all
  |some q=>
   rw[e]at hp;obtain⟨a1,a2⟩:=anW.mp e;exact⟨_,_,a1,a2,(afE hp).symm⟩
 refine ah hp2 λq q' e1 e2 aab=>?_;rw[aab];refine ag (r.get e1) λu g1 g2=>ag (r2.get e2) λu' g1' g2'=>⟨⟨xs,ys,u,u',h1,h2,g1,g1'⟩,λx H' y=>(cJ y λT z z' aac hT aad y1 y2=>?_)⟩;clear y;subst aac;subst aad;have e:=y1 _ h1;rw[g1]at e;cases e;have e:=y2 _ h2;rw[g1']at e;cases e;have sg:=s1.trans (Ex.laid (o:=.tup [u,u']) s2 hT).gg;exact⟨_,?Jh,.tup ?Bc (?p (g2.mono sg) (?p (g2'.mono sg) .nil))⟩
theorem Qr{pos}{tg a b}{gs:GS}{p}(hg:Gl X ?br)(hm:X.mg ?br=none)(ha:PA X ?aE ?cD)(hs:starEach ?aE X.env=?oF::?Gc:=by rfl)
  (hpl:(backTo pos (?Gc)).any ?aT=false:=by rfl):PI X tg (?I (?o ?br p) ?aE [] pos) (yY X.K E (iZ gs)):=
 (show PI X tg (?I (?o ?br p) ?aE [] pos) (aaa X.K ?cD)from by
   intro pins s σ H R I h;refine Call_ (i9 I hg hm zW (agW (ck ?RU λus s1 ?mm=>(Fd q1 λa b b1 b2 xs ys ex SD O9 q=>?_)) hs hpl));subst ex;cases r1 with
   |cons r rr=>
    cases rr with
    |cons r' rr=>
     cases rr;cases r;cases r';refine aG (I1.Bf SD) λaL rv p1 la=>aG (I1.Bf O9) λka rv2 p2 lb=>z9 p1 p2 λh' st hk=>?_;show ?NA;have D:=?Qm;refine(sT (P:=X.prog) (w:=X.w) (K:=X.K) (tg:=tg) D).self _ 0 _ _ _ st (⟨?Fp,?CL,_,_,H1,rfl,I2,sT D,st,λc E8=>?_,q⟩);have hle:?VG:=by
      show ?Mh
      rcases e' with z|z|z|z|z<;>rw[z]<;>first|exact ?vp|exact ?cs
     exact ?DN).imp λσ H R h=>tF.seq h λG env ps s er h G1 H1 vs ex rv=>by
  refine gf (ot h rv) λv u p q aae alk r1 r2 h=>?_;subst aae;refine bB (ki h r1) λa xs l aaf h1 k2 h=>?_;rw[aaf];refine bB (ki h r2) λc ys m aag h2 k4 h=>?_;subst aag;obtain⟨b1,k1⟩:=Dr h1;obtain⟨b2,k3⟩:=Dr h2;exact⟨a,c,b1,b2,xs,ys,rfl,k1 _ ex.gh,k3 _ ex.gh,h _ _ _ ex (Qq k1 k2 k3 k4)⟩
def aah:PV->?k:=E5 λi=>.ok (.int (-i))
def aai:PV->Option Str
 |?ru=>?kf
 |_=>none
theorem JL(e:aai p=?kf):p=?ru:=by
 show ?iY
 case str=>cases e;rfl
 show ?ps
abbrev strsOf:?e->Option (?t):=FV aai
theorem qU{K}(r:aI K G v ps)(e:strsOf ps=some bs):v=bs.map V.str:=wX (λe r=>by obtain rfl:=JL e;exact r.KW) r e
def Bg(p:PV)(l:?e):?k:=uH (λl'=>one (wN λx=>opt (λxs=>opt (λj=>.ok (?Kd)) (List.findIdx? (·==x) xs)) (strsOf l')) l) p
def yW(T:String):?Cl
 |?cY=>T==?bZ
 |?bB=>T==?fW
 |?fn=>T==?aC
 |_=>false
theorem Mw{K}(s:?aP)(r:?av)(h:yW T p=true):tyV K T v H:=by
 show ?iY
 case str=>obtain rfl:=r.KW;exact ?Au
 case int=>obtain rfl:=r.FL;exact ?Au
 case lst=>refine ah r.FO λa xs aaj ha _=>?_;subst aaj;exact .inl ⟨?Au,_,?pl⟩
 show ?Aj
abbrev cM(T:String)(F:PV->?e->?k)(go:GE)(gs:GS):GE:=λenv=>go env>>=λp=>if yW T p=true then ?dk>>=λl=>F p l else .bad
section
theorem SG{id}{apos cpos}{go:GE}{gs:GS}(pa:?zP)(slot:PySem.Slot T name id)(hty:typeOf (?U id)=pure (?n ?xi))(hm:?BC)(hr:MtP X.K E T r F)(ho:PE X o (tP X.K E go))(ha:PA X ?bp ?cD)
  (hbase:attributeBase o name X.env (?fB)=?fB:=by rfl)
  (hfew:((backTo cpos (?Eu)).all ?tP&&?CR
   &&decide ((e::es).length+?wr+?vG<30))=true:=by rfl)
  (hline:?iX:=by rfl) (hs:?ft:=by rfl) (hplain:(backTo cpos (?sw)).any ?aT=false:=by rfl):
  PE X (?I (?aq o name apos) ?bp [] cpos) (tP X.K E (cM T F go gs)):=
 (mY pa slot hty hm ho ha hbase hfew hline hs hplain).imp λσ H Q h=>tF.seq h λG env p sm er h G1 H1 v ex rv=>by obtain⟨hi,h⟩:=a_ h;exact⟨Mw ex.gh rv hi,G1,env,ex.gh,?kR,Fi.mO h (λps _ h G2 H2 vs ex2 rvs=>hr _ _ v _ p _ Q ex2.gh ?Hf rvs (fq.later h (?mH))) λ_ x=>x.mono ex.hh⟩
#where
theorem qV{α:Type}q:∀(l:?aa)j,l.findIdx? q=some j->(∃z,l[j]?=?kd/\q z=true)/\∀m z,m<j->l[m]?=?kd->q z=false:=by intro l j h;rw[aiO]at h;refine ag h λhj h1 h2=>⟨⟨_,aft _,h1⟩,λm z hm hz=>?_⟩;have hml:m<l.length:=Nat.lt_trans hm hj;rw[aft hml]at hz;cases hz;simpa using h2 m hm
theorem UZ{K}:MtP K E T (LD K) Bg:=λG H x vs p ps Q s rx rvs h=>by
 refine cJ (lR h rx) λa us l alm aak ha r h=>?_;rw[aak];refine bI (cn h rvs) λv q aal aln ru h=>?_;subst aal;refine aG (ir h ru) λy alo aam h=>?_;rw[aam];refine ag ?iN λxs e h=>ag ?iN λj ej h=>?_;obtain rfl:=qU r e;obtain⟨⟨z,h1,h2⟩,h3⟩:=qV _ _ _ ej;refine⟨_,_,_,j,V.str z,rfl,rfl,?pl,rfl,?_,by rw[ad0,h1];rfl,h2,λm z' hm hz=>?_,?fZ⟩
 ·rw[aox];exact adY.mpr ?pV
 ·rw[ad0]at hz;refine ag (afv.mp hz) λw e5 aan=>?_;rw[<-aan];exact h3 m w hm e5
inductive Qs(C:Addr)(fs:?t)(vs:?B)(H:Hp)(Q:VK)(E:XK):Prop
 |mk (x dx us):vs=?gF::us->H x=some ?sW->us.length=fs.length->Q .b_ (upd H x (.ins C dx (fs.zip us)))->Qs C fs vs H Q E
def U0(C:Addr)(fs:?t)(l:?e):?k:=if l.length=fs.length then .ok (.ins C (fs.zip l))else .bad
theorem aI.JK{K}{fs:?t}(r:?cE):jo K G (fs.zip vs) (fs.zip ps):=by
 induction fs generalizing vs ps with
 |nil=>show ?bJ
 |cons f fs ih=>
  show ?xt
  ·obtain rfl:=r.P2;show ?bJ
  ·show ?sd;exact ?p h (ih r)
structure Makes(P:Program)(w:World)(K:aaU)(mg:?bs)(base:Heap)(x:Str)(C:Addr)(k:Nat)(ps fs:?t):Prop where
 ex:∃f fd,Mk K C f/\gz P w K mg base ?bE k f fd ps (Qs C fs)/\mg x=some ?u/\?jl
theorem Qt{p pos}{gs:GS}(M:Makes X.prog X.w X.K X.mg X.base x C k ps fs)(hr:?vf)(hk:k+1<=j)(hx:?wc)(hg:?cX)
  (ha:PA X ?bp ?cD) (hdb:?bh:=by decide) (he:?ft:=by rfl) (hpl:?hO:=by rfl):
  PE X (?I (?o x p) ?bp [] pos) (tP X.K E (cF gs (U0 C fs))):=by
 refine bI M.ex λf fd h1 h2 h3 h4=>(HB h1 h2 ?zU hg h3 h4 .nil hx ha hdb he hpl).imp λσ H Q h=>pk (r:=λvs H1 Q=>∀x dx,H1 x=none->H1 dx=none->dx≠x->Qs C _ (?gF::(vs++[])) (upd (upd _ dx ?uY) x ?sW) ?Dz E) (λG H vs qs Q s r h x dx hx hd hn=>?_) h;obtain⟨hl,h⟩:=a_ h;refine⟨x,dx,vs,by rw[afM],aa,by show ?kj;exact hl,rfl,?_⟩;rw[lK];have s1:aj G (upd G x ?TF):=au (?bv) (none_of s hx);have s2:aj H (upd (upd H _ ?uY) x ?TF):=au (au (?bv) hd) hx;exact h _ _ _ ⟨s1,wV (s.trans s2) aa,s2,qS (?KZ) hx⟩ (.ins aa (r.JK.mono s1))
theorem ahS{α:Type}{l:?aa}(h:l.length=3):∃a b c,l=?lG:=by
 rcases l with _|⟨a,_|⟨b,_|⟨c,_|⟨d,l⟩⟩⟩⟩
 case cons.cons.cons.nil=>exact⟨a,b,c,rfl⟩
 all_goals show ?aR
theorem mk3{K}{mg}{base}{qual}{st}{f C}{fd}{N:?t}{n1 n2 n3 f1 f2 f3}{p1 p2 p3 p4 q1 q2 q3 q4 r1 r2 r3 r4}
  (Fn:E3 K ?ck qual st f fd) (S:aX [?ae,n1,n2,n3] [?ae,n1,n2,n3] ?bH) (c:?rr) (a1:fi K C f1) (a2:fi K C f2) (a3:fi K C f3)
  (hb:bQ st=[?di [?aq (?o ?ae p1) f1 p2] (?o n1 p3) p4,?di [?aq (?o ?ae q1) f2 q2] (?o n2 q3) q4,?di [?aq (?o ?ae r1) f3 r2] (?o n3 r3) r4])
  (v0:Cn ?bH ?ae) (v1:Cn ?bH n1) (v2:Cn ?bH n2) (v3:Cn ?bH n3) (hd:∀x∈[n1,n2,n3],?bh/\?ok)
  (hs:∀(env:Env),swapsWith (?o n1 p3) (some (?aq (?o ?ae p1) f1 p2)) p4.line env=?ff/\swapsWith (?o n2 q3) (some (?aq (?o ?ae q1) f2 q2)) q4.line env=?ff/\swapsWith (?o n3 r3) (some (?aq (?o ?ae r1) f3 r2)) r4.line env=?ff)
  (e12:f1≠f2) (e13:f1≠f3) (e23:f2≠f3):gz P w K mg base ?bE 1 f fd [?ae,n1,n2,n3] (Qs C [f1,f2,f3]):=by
 refine bU Fn.ex λoc od kV doc pm an cdv ct osl aao lk hcd=>?_;subst aao;refine CQ (k:=0) lk hcd S (λvs H Q E h=>by obtain⟨x,dx,us,e,_,hl,_⟩:=h;rw[e,ad2,hl];rfl) ?rU;rw[hb];have h1:=hd n1 ?i;have h2:=hd n2 ?i;have h3:=hd n3 ?i;refine⟨_,aq (mX (?tR) (pv 1 rfl v1 h1.1 h1.2) (hs _).1) (aq (mX (?tR) (pv 2 rfl v2 h2.1 h2.2) (hs _).2.1) (aq (mX (?tR) (pv 3 rfl v3 h3.1 h3.2) (hs _).2.2) cg)),?_⟩;obtain⟨x,dx,us,e,hx,hl,q⟩:=hsp;refine Jh (ahS hl) λu1 u2 u3 aap=>?_;subst aap
 ·subst e;refine⟨u1,rfl,?gF,rfl,x,C,dx,[],rfl,hx,c,a1,?c,u2,rfl,?gF,rfl,x,C,dx,_,rfl,aa,c,a2,?_,u3,rfl,?gF,rfl,x,C,dx,_,rfl,aa,c,a3,?_,?_⟩
  ·show 1<1000;decide
  ·simp[oY,e12]
  ·rw[lK,lK];show Q .b_ _;simpa[oY,e12,e13,e23]using q
def w9(r:?aX):?e->?aX
 |[]=>r
 |_=>.bad
theorem Ds{K}(h:Fi (w9 r ps) P e)(rv:?cE):vs=[]/\ps=[]/\?Ck:=by
 rcases ps with _|_
 ·exact⟨rv.P2,rfl,h⟩
 ·show ?am
def F5(p:PV)(l:?e):?k:=wN (λa=>w9 (.ok (?WI)) l) p
def Bh(p:PV)(l:?e):?k:=wN (λa=>one (wN λb=>.ok (.bl (asE a b))) l) p
def U1(p:PV)(l:?e):?k:=wN (λa=>w9 (if ?Fd then .ok (.lst ((anM a).map PV.str))else .bad) l) p
def qW(p:PV)(l:?e):?k:=wN (λa=>one (vg λl=>opt (λys=>if ?CX then .ok ?Ha else .bad) (strsOf l)) l) p
def Dt:?e->?k:=one (wN λx=>if ?LW then .ok ?DP else .bad)
def U2:?e->?k:=one (wN λa=>opt (λn=>if a.length<=640 then .ok (?en)else .bad) (aqW a))
def Du:PV->?k
 |?dC=>.ok (?dC)
 |?O=>if ?XR then .ok ?XS else .bad
 |_=>.bad
def Qu:?e->?k:=one Du
section
theorem aI.strs{K}:∀(ys:?t),aI K G ?ie (ys.map PV.str)
 |[]=>.nil
 |y::ys=>?p ?qP (aI.strs _)
theorem SH{K}:MtP K E T (λx xs H Q=>∃a p,∃ys,x=?dC/\xs=[?af]/\(cW K H p ?ie\/j9 K H p ?ie)/\?CX/\Q ?Ha H) qW:=λG H x vs p ps Q s rx rvs h=>by refine aG (ir h rx) λa alq aaq h=>?_;rw[aaq];refine bI (cn h rvs) λu q aar alr ru h=>?_;subst aar;refine bB ?BF λb xs l aas hq r h=>?_;rw[aas];refine ag ?iN λys e h=>?_;show ?mt;obtain rfl:=qU r e;exact⟨_,_,ys,rfl,rfl,YV.mono hq s,hz,h G H _ ?cj (?cY)⟩
theorem aat{K}:kj K E (λxs H Q=>∃x,xs=[?cW]/\?LW/\Q ?DP H) Dt:=λG H vs ps Q s r h=>by refine bI ?hB λu q aau als ru h=>?_;rw[aau];refine aG (ir h ru) λx alu aav h=>?_;rw[aav];show ?mt;exact⟨_,rfl,hz,?fZ⟩
def ahT:?bD:=λxs H Q=>(∃a,xs=[?dC]/\Q (?dC) H)\/∃i,xs=[?O]/\?XR/\Q ?XS H
theorem ahU{K}:kj K E ahT Qu:=λG H vs ps Q s r h=>by
 refine bI ?hB λu p aaw alv ru h=>?_;rw[aaw];rcases p with _|_|i|a|_|_|_|_|_|_
 case str=>obtain rfl:=ru.KW;exact .inl ⟨_,rfl,h G H _ ?cj (?cY)⟩
 case int=>
  obtain rfl:=ru.FL
  show ?mt
  exact .inr ⟨_,rfl,hz,h G H _ ?cj (?cY)⟩
 show ?cB
#where
def Qv(a b:Str):PV->?k:=wN λx=>if ?Pa then .ok (.str (a++x++b))else .bad
theorem U3{ge:GE}{a b}(ha:?Gf)(he:?hV):PE X (.JoinedStr [?cu (?dC) k1 p1,?HH e (-1) none p2,?cu (?ru) k2 p3] pos) (tP X.K E (cU (Qv a b) ge)):=by
 refineλpins s σ H Q I h=>ah h λG env sm er h=>PyProof.Rows.JoinedStr_many (anB (ap7 ?_));have e0:asP++a=a:=by
  cases a with
  |mk c=>
   show(⟨#[]++c⟩:Str)=⟨c⟩;rw[Array.empty_append]
 have len:∀x y:Str,(x++y).length=x.length+y.length:=λx y=>strLen_append x y;have I0:=I.tok (?nu);have h2:tP X.K E ge σ H λv H1=>∃x,v=?cW/\?Pa/\Q (.str (a++x++b)) H1:=by refine⟨G,env,sm,er,Fi.seq h λp h G1 H1 v ex rv=>(aG (ir h rv) λx alw aax h=>?_)⟩;subst aax;show ?mt;exact⟨_,rfl,hz,h _ _ _ ex (?cY)⟩
 refine⟨by rw[e0];exact ha,anB (PyProof.Rows.FormattedValue_plain (ck (he _ _ σ H _ I0 h2) λv s1⟨y,H1,I1,r1,x,ex,hz,q⟩=>?_))⟩;subst ex;show ?ti;refine PyProof.Rows.formatField_str (λt' tk=>?_) ?a;rw[e0];exact⟨by rw[len];lia,anB (ap7 (⟨?XT,PyProof.Rows.joinParts_nil (⟨?cY,H1,?Cp,?ad,q⟩) (?XT)⟩))⟩
def inS(neg:Bool)(i j:Str):Bool:=if neg then !(?wa)else ?wa
def jK(neg:Bool)(p q:PV):?k:=match p,q with
 |?nS,.str j=>.ok ?WJ
 |p,q=>Y7 neg p q
def U4(K:aaU)(neg:Bool):R2:=λx y H Q=>P8 K neg x y H Q\/∃i j,x=?nS/\y=.str j/\Q ?WJ H
theorem Mx(hu:?Gg):pb X ?HB (U4 X.K false):=(show pb X ?HB (P8 X.K false)from by
 refineλpins s σ H x y v u Q I rx ry h=>uw h λa xs ds d aay hq hx hd c1 c2 q=>?_;clear h;subst aay;obtain⟨bs,r2⟩:=?wC;show ?Ai
 ·obtain⟨as,r1⟩:=Dp.reads I (?j _) _ u (.lst hq hx) ry;exact SeqAt.in_list_reads r1 r2 c1 ?Cq ?wD ?jd
 ·show ?Pb;exact SeqAt.in_tuple_reads r1 r2 c1 ?Cq ?wD ?jd).or (by exactλpins s σ H x y v u Q I rx ry aaz=>ah aaz λi j e1 e2 q=>Jm _ s σ H x y v u Q I rx ry ⟨i,j,e1,e2,q⟩)
theorem z_(hu:?Gg):pb X ?Gh (U4 X.K true):=(show pb X ?Gh (P8 X.K true)from by
 refineλpins s σ H x y v u Q I rx ry h=>uw h λa xs ds d aaA hq hx hd c1 c2 q=>?_;clear h;subst aaA;obtain⟨bs,r2⟩:=?wC;show ?Ai
 ·obtain⟨as,r1⟩:=Dp.reads I (?j _) _ u (.lst hq hx) ry;exact SeqAt.notIn_list_reads r1 r2 c1 ?Cq ?wD ?jd
 ·show ?Pb;exact SeqAt.notIn_tuple_reads r1 r2 c1 ?Cq ?wD ?jd).or (by exactλpins s σ H x y v u Q I rx ry aaB=>ah aaB λi j e1 e2 q=>((show pb X ?Gh (λx y H Q=>∃i j,x=?nS/\y=.str j/\Q (.bl (!(?wa))) H)from by refineλpins s σ H x y v u Q I rx ry h=>ah h λi j U5 U6 q=>?_;clear h;subst U5;subst U6;show ?cC;show ?jn;exact notIn_str (Ll I q rfl)) _ s σ H x y v u Q I rx ry ⟨i,j,e1,e2,q⟩))
theorem Qw{K}neg:KY K E (U4 K neg) (jK neg):=by
 show ?kv;show ?XF
 case str=>
  rcases q with _|_|_|j|_|_|_|_|_|_
  case str=>exact .inr ⟨_,_,rx.KW,ry.KW,h G H _ ?cj (?bY)⟩
  all_goals exact .inl (inP neg G H x y _ _ Q s rx ry h)
 all_goals exact .inl (inP _ G H x y _ _ Q s rx ry h)
def pP(x:Str):?e:=x.cps.toList.map λc=>PV.str ?gm
def g6(p:PV):Rs (?e):=match p with
 |?cW=>.ok (pP x)
 |p=>vj p
abbrev iA(ge:GE):GS:=λenv=>?nP>>=g6
theorem Qx{K}:UM K (Its x) (pP x) G1:=λi G H s1 s2=>by
 have hl:(pP x).length=x.cps.size:=by simp[pP]
 refine⟨?dc,λhi=>ang (?W)⟩;have hi:i<x.cps.size:=by have:=?Jg;simp_all[hl]
 refine⟨hi,λv H' y=>(Fc y λaaC c hc aaD=>?_)⟩;clear y;subst aaC;subst aaD;have hp2:p=.str ?gm:=by unfold pP at hp;rw[ad0,amG,hc]at hp;exact(afE hp).symm
 rw[hp2];exact⟨G,?LN,?cY⟩
theorem lU{X}{E}{ge:GE}(he:?hV):PI X tg e (yY X.K E (iA ge)):=by
 show ?Sb;have h2:tP X.K E ge σ H λx H1=>(∃y,x=.str y/\R (Its y) H1)\/∃a,x=?C/\((∃xs,cW X.K H1 a xs)/\R (Pm X.K a) H1\/(∃xs,j9 X.K H1 a xs)/\R (Itt X.K a) H1):=by
  refine⟨G,env,sm,er,Fi.seq h λp h G1 H1 v ex rv=>?_⟩;rcases p with _|_|_|y|l|l|_|_|_|_
  case str=>exact .inl ⟨_,rv.KW,h G1 H1 _ ex Qx⟩
  case tup=>
   refine ah rv.yW λa xs aaE ha r=>?_
   subst aaE
   exact .inr ⟨_,rfl,.inr ⟨⟨_,bF ex.gh ha⟩,h G1 H1 _ ex (Qd ha r)⟩⟩
  case lst=>
   refine ah rv.FO λa xs aaF ha r=>?_
   subst aaF
   exact .inr ⟨_,rfl,.inl ⟨⟨_,.inl (aV ex.gh ha)⟩,h G1 H1 _ ex (Qc ha r)⟩⟩
  show ?tj
 refine ck ?TG λv s1⟨x,H1,I1,r1,q⟩=>?_;rcases q with⟨y,rfl,q⟩|⟨a,rfl,q⟩
 ·show ?ti;cases ha:y.cps.all (·<128)
  ·exact wpAny_pyIter_wide ha (A6 I1 _ (Dd _ y t "str_iterator" (?dz)) ?gb q)
  ·exact wpAny_pyIter_ascii ha (A6 I1 _ (Dd _ y t ?Vy (?y)) ?gb q)
 cases r1;have fp:∀b∈?FG,pJ X pins H1 b:=λb hb=>by
  have e:?xe:=?ds
  rw[e];exact I1.AQ ?A (I1.bq.fresh ?A)
 rcases q with⟨⟨xs,hq⟩,q⟩|⟨⟨xs,hq⟩,q⟩
 ·exact aG ?px λaL rv p hz=>wpAny_pyIter_list p.isList (⟨s1.heap.objs.size,?FG,_,_,H1,rfl,I1.kept ?ib,sI a _,?gb,fp,q⟩)
 ·exact aG (I1.tuple hq) λaL rv p hz=>wpAny_pyIter_tuple (show s1.heap.IsTuple a aL.toArray from p) (⟨s1.heap.objs.size,?FG,_,_,H1,rfl,I1.kept (t':=s1.toks) ?ib,Fo a _,?gb,fp,q⟩)
def keyOf:PV->Option Key
 |?O=>some (?nR)
 |?cW=>some (?kb)
 |_=>none
theorem Bi{K}(r:?av)(e:keyOf p=?as):v=kV k:=by
 show ?iY
 case int=>cases e;exact r.FL
 case str=>cases e;exact r.KW
 show ?ps
def lV(l:?gh)(k:Key):?lo:=(l.find? ?gP).map ?nO
theorem dQ.val{K}k:∀{kvs},?kT->(lV ps k=none->?lw=none)/\∀x,lV ps k=?F->∃u,?lw=?Q/\?Az:=by
 induction ps with
 |nil=>
  intro kvs r;obtain rfl:=(show kvs=[]from ?tb);exact⟨?ar,λx e=>nn e⟩
 |cons np ps ih=>
  obtain⟨n,w⟩:=np;intro kvs r;obtain⟨v,us,rfl,h,r⟩:=(show∃v us,kvs=(n,v)::us/\Rep K G v w/\dQ K G us ps from ?NS);by_cases e:n=k
  ·rw[<-e];have ev:lV ((n,w)::ps) n=some w:=by delta lV;simp
   exact⟨λz=>(by rw[ev]at z;show ?aD),λx z=>(by rw[ev]at z;cases z;exact⟨_,qI rfl,h⟩)⟩
  ·have ev:lV ((n,w)::ps) k=lV ps k:=by delta lV;rw[aqy (?jm)]
   rw[ev,qJ e];exact ih r
def ahV:R2:=λx y H Q=>∃a v,x=?C/\PL H a y (?V)/\Q v H
def aU(p q:PV):?k:=match p with
 |.vf l=>FP ((keyOf q).bind (lV l))
 |p=>UI p q
def aaG(K:aaU):R2:=λx y H Q=>rIx K x y H Q\/ahV x y H Q
theorem U7(hu:?oX):Ly X (aaG X.K):=Uo.or (by
 refineλvalue slice pins s σ H x y v u Q I rx ry h hs=>ah h λa z aaH g q=>?_;clear h;subst aaH;cases rx;exact tail_any (by
  rcases g with⟨kvs,k,e,_,_⟩|⟨kvs,k,b,e,_,_,_⟩
  ·refine mS ?Ar λ_ _ vs _ dd=>?_;exact dd.typeIs
  ·refine mS ?As λ_ _ xs _ dd=>?_;exact dd.typeIs) PySem.F.slot_dict_getitem.lookup (Jv hu I g ry λw' s' I' r'=>⟨z,H,I',r',q⟩) hs)
theorem ahW{K}:KY K E (aaG K) aU:=by
 show ?kv;show ?XU
 case vf=>
  refine ag (qP h) λz e h=>ag ?uk λk e1 e2=>?_
  obtain rfl:=Bi ry e1
  cases rx with
  |vf hd r=>
   exact ag ((r.val k).2 _ e2) λu g1 g2=>.inr ⟨_,u,rfl,.inl ⟨_,k,aV s hd,rfl,g1.symm⟩,h G H _ ?cj g2⟩
 all_goals exact .inl (ixP G H x y _ q Q s rx ry h)
def onD(f:?gh->?aX):PV->?aX
 |.vf l=>f l
 |_=>.bad
theorem Qy{K}(h:Fi (onD f p) P e)(r:?av):∃a kvs l,v=?C/\Rd G a ?ei/\dQ K G kvs l/\Fi (f l) P e:=by
 show ?XU
 case vf=>
  cases r with
  |vf h1 h2=>exact⟨_,_,l,rfl,h1,h2,h⟩
 show ?cB
abbrev cG(gd gk gx:GE):GE:=λenv=>gd env>>=onD λl=>gk env>>=λq=>gx env>>=λx=>opt (λk=>.ok ((lV l k).getD x)) (keyOf q)
theorem dQ.getD{K}(r:?kT)(rz:Rep K G z x):Rep K G ((?lw).getD z) ((lV ps k).getD x):=by
 obtain⟨g1,g2⟩:=r.val k;rcases ev:lV _ k with _|w
 ·rw[g1 ev];exact rz
 ·refine ag (g2 w ev) λu g3 g4=>?_;rw[g3];exact g4
theorem My{gd gk gx:GE}(hu:?oX)(ho:PE X o (tP X.K E gd))(he:PE X e (tP X.K E gk))(hf:PE X f (tP X.K E gx))(m:?RT):
  PE X (?I (?aq o "get" apos) [e,f] [] cpos) (tP X.K E (cG gd gk gx)):=
 (LN hu ho he hf m).imp λσ H Q h=>tF.seq h λG env p sm er h G1 H1 v ex rv=>by refine bB (Qy h rv) λa kvs l aaI hd r h=>?_;subst aaI;refine⟨_,rfl,.inl ⟨_,aV ex.gh hd⟩,G1,env,ex.gh,?kR,Fi.mO h (λq _ h G2 H2 y ex2 ry=>⟨G2,env,ex2.gh,er.mono (ex.gg.trans ex2.gg),Fi.mO h (λx _ h G3 H3 z ex3 rz=>(ag ?iN λk ek h=>?_)) λ_ h=>h.mono (?mH).hh⟩) ?xn⟩;obtain rfl:=Bi ry ek;have s3:=(?gk).gg;exact⟨_,.inl ⟨_,k,aV ex3.gh (aV s3 hd),rfl,rfl⟩,h _ _ _ (ex.trans (?gk)) ((r.mono s3).getD rz)⟩
def PD(X:Cx)(E:XK)(pos:Pos)(keys:?sv)(values:?bz)(ks:?t)(gs:GS):Prop:=
 ∃trs,?Sy/\∀σ H Q,pj X.K E gs σ H (λvs H1=>?WK/\Q ((?zV).zip vs) H1)->A5 trs σ H Q
theorem Mz:PD X E pos [] [] [] c0:=⟨[],(λpins s σ H Q I h=>pairTrees_nil_walk ?Wp),λσ H Q aaJ=>ah aaJ λG env s er h=>(h G H [] ?cj .nil).2⟩
theorem Ie{X}{E}{k}{ks}{g:GE}{gs}(hv:PE X v ?Kj)(h:?Rk):
  PD X E pos (some (?cu (.str k) j p2)::keys) (v::values) (k::ks) (c1 g gs):=by
 refine ag h λtrs h1 h2=>⟨_,LM (Lc) hv h1,λσ H Q ?Hj=>(⟨G,env,s,er,Fi.seq h λp h G1 H1 y ex ry=>h2 σ _ _ ⟨G1,env,ex.gh,?kR,Fi.mO h (λps _ h G2 H2 vs ex2 rvs=>?_) ?xn⟩⟩)⟩;have:=h _ _ _ (?mH) (?p (ry.mono ex2.gg) rvs);exact⟨apu ?nV,this.2⟩
def Aa(ks:?t)(l:?e):?k:=if ks.Nodup/\l.length=ks.length/\ks.length<=15 then .ok (.vf (?gT l))else .bad
theorem nj:∀more acc,(acc.map ?aT++more.map ?aT).Nodup->kN acc more=acc++more
 |[],acc,_=>by simp[kN]
 |p::r,acc,h=>by
  have hn:pK acc p.1=none:=by
   have h1:p.1∉acc.map ?aT:=by intro m;rw[ahL]at h;exact h.2.2 _ m _ ?ct rfl
   cases q:pK acc _ with
   |none=>rfl
   |some x=>
    exfalso;refine ag (afv.mp q) λkv e1 e2=>?_;have:=aqG e1;exact h1 (adX.mpr ⟨kv,apO e1,by show ?fD⟩)
  show kN (putK _ _ _) r=_;rw[(show putK _ _ _=_++[(_,_)]from by unfold putK;rw[wC,hn];exact if_neg (?c)),nj r _ (?gf)]
  simp
theorem dQ.zip{K}{ks:?jN}(r:?cE):dQ K G (ks.zip vs) (ks.zip ps):=by
 induction ks generalizing vs ps with
 |nil=>show ?bJ
 |cons f fs ih=>
  show ?xt
  ·obtain rfl:=r.P2;show ?bJ
  ·show ?sd;exact ?p h (ih r)
theorem MA:∀(ks:?t)(vs:?B),(?zV).zip vs=(?wi vs).map ?Fc
 |[],_=>rfl
 |_::_,[]=>rfl
 |k::ks,?eK=>by rw[abL,abL,apF,MA _ _];rfl
theorem Qz(h:?Rk)(hall:?Sz)(hl:?SA)(h0:keys≠[])(h15:keys.length<=15):
  PE X ?Ts (tP X.K E (cF gs (Aa ks))):=by
 refine ag h λtrs h1 h2=>(PN h1 hall hl h0 h15).imp λσ H Q ?Hj p hp=>?_;have s0:aj H ?FV:=au (?bv) hp;refine h2 σ _ _ ⟨G,env,s.trans s0,er,Fi.mO h (λps _ h G1 H1 vs ex rvs=>?_) λ_ h=>h.mono s0⟩;obtain⟨⟨c1,c2,c3⟩,h⟩:=a_ h;have hlen:?WK:=by rw[rvs.length,c2]
 have hp1:H1 p=?bk:=ex.hh _ _ aa;have gp:G1 p=none:=ja ex (none_of s hp) aa;have em:kN [] (?XV vs)=?gT vs:=by
  rw[nj _ _ ?_]
  ·rfl
  ·rw[ar7 (by simp[hlen])];exact akI.mpr (c1.imp λh e=>h (as4 e))
 refine⟨hlen,hp1,_,MA _ vs,?W,?_⟩;rw[em];have sg:aj _ (upd _ p (.dK (?gT vs))):=au (?bv) gp;refine h _ _ _ ⟨ex.gg.trans sg,wV (au ex.gh gp) aa,au (s0.trans ex.hh) hp,qS (?Ld) hp⟩ (.vf ?lh (dQ.zip (rvs.mono sg)));rcases ex.new b o q with z|z
 ·exact ?dl
 ·exact .inr (s0.free z)
abbrev CK:=Option Key
def sU(h:Heap):CK->Value->Prop
 |?as,v=>mU k v=true
 |none,v=>∃a,v=?C/\h.IsTuple a #[]
inductive CellsAre(h:Heap):?fM->?az->Prop
 |nil:CellsAre h [] []
 |cons {k:CK} {v:Value} {ks:?fM} {vs:?az}:sU h k v->CellsAre h ks vs->CellsAre h (k::ks) (?eK)
def o4(h:Heap)(ks:?fM)(a:Addr):Prop:=∃o items n,?gt=?d/\o.cls=?n ?be/\o.data=.seq items n/\CellsAre h ks items.toList
theorem Ab(h:mU k (?C)=true):False:=by rcases bg h with⟨i,t,_,e⟩|⟨x,t,_,e⟩<;>cases e
theorem F6(hx:sU h x v)(hy:sU h y v):x=y:=by
 cases x with
 |some k=>
  cases y with
  |some k'=>rw[(show k=k' from by rcases bg hx with⟨i,t,rfl,rfl⟩|⟨x,t,rfl,rfl⟩<;>rcases bg hy with⟨i',t',rfl,e⟩|⟨x',t',rfl,e⟩<;>cases e<;>rfl)]
  |none=>refine ag hy λa aaK _=>?_;clear hy;subst aaK;exact(Ab hx).elim
 |none=>
  cases y with
  |some k'=>refine ag hx λa aaL _=>?_;clear hx;subst aaL;exact(Ab hy).elim
  |none=>rfl
theorem CellsAre.inj(hx:CellsAre h x vs)(hy:CellsAre h y vs):x=y:=by
 induction hx generalizing y with
 |nil=>cases hy;rfl
 |cons h1 _ ih=>
  cases hy with
  |cons h2 t2=>rw[F6 h1 h2,ih t2]
theorem o4.inj(hx:o4 h x a)(hy:o4 h y a):x=y:=by
 refine bB hx λo items n ho _ hd hi=>bB hy λo' ahZ n' Co _ EY hi'=>?_;obtain rfl:o=o':=afE (ho.symm.trans Co);rw[hd]at EY;injection EY with h1 _
 subst h1;exact hi.inj hi'
theorem Ac{o:Obj}(x:h.IsTuple a items)(ho:?vh=?d)(hd:?eO)(hs:ai3 d h h'):h'.IsTuple a items:=by
 refine kc x λo' Co hc n EY=>?_;have hne:a≠d:=?M
 exact⟨o',(hs.2 a hne).trans Co,hc,n,EY⟩
theorem CellsAre.keeps(ho:?vh=?d)(hd:?eO)(hs:ai3 d h h'):∀{ks}{vs},CellsAre h ks vs->CellsAre h' ks vs
 |_,_,.nil=>.nil
 |_,_,?p (k:=k) c r=>by
  refine ?p ?_ (CellsAre.keeps ho hd hs r);cases k with
  |some k=>exact c
  |none=>exact ag c λa e t=>⟨a,e,Ac t ho hd hs⟩
theorem o4.keeps(x:o4 h ks a)(ho:?vh=?d)(hd:?eO)(hs:ai3 d h h'):o4 h' ks a:=by refine bB x λo' items n Co hc EY hi=>?_;have t:=Ac ⟨o',Co,hc,n,EY⟩ ho hd hs;exact kc t λo2 h1 h2 n2 h3=>⟨o2,items,n2,h1,h2,h3,hi.keeps ho hd hs⟩
theorem o4.typeIs{ks}{s:Shared}(x:?It):s.TypeIs (?C) ?be:=let⟨o,_,_,ho,hc,_⟩:=x;⟨o,ho,hc⟩
theorem U8{a}{h}(x:h.IsTuple a #[]):IsTupleKey (?hu) h [] a:=let⟨o,h1,h2,n,h3⟩:=x;⟨o,#[],n,h1,h2,h3,.nil⟩
section
def nk(prog:Program)(w:World):CK->Int
 |?as=>(?hu).hash k
 |none=>tupleKeyHash (?hu) []
theorem JM(hu:?Jk)(hk:sU s.heap k v)(h:Q (nk prog w k) ?ou):wpAny ?E A (pyHash v) Q E s:=by
 cases k with
 |some k=>exact(bf _ w).pyHash hk h
 |none=>
  refine ag hk λa aaM t=>?_;clear hk;subst aaM;exact wpAny_pyHash_tuple hu (U8 t) h
theorem QA(hu:?Jk)(hx:sU s.heap x u)(hy:sU s.heap y v)(h:Q (?pC) s):wpAny ?E A (eqBool u v) Q E s:=by
 cases x with
 |some k=>
  cases y with
  |some k'=>
   refine(bf _ w).eqBool hx hy ?_;have e:decide (k=k')=decide ((?as:CK)=some k'):=?J
   rw[e];exact h
  |none=>
   refine ag hy λb aaN t=>?_;clear hy;subst aaN;have e:decide ((?as:CK)=none)=false:=?J
   rw[e]at h;rcases bg hx with⟨i,t',rfl,rfl⟩|⟨z,t',rfl,rfl⟩
   ·exact SeqAt.EqAt.int_tuple i _ t hu _ w E Q h
   ·exact SeqAt.EqAt.str_tuple z _ t hu _ w E Q h
 |none=>
  refine ag hx λa aaO t=>?_;clear hx;subst aaO;cases y with
  |some k'=>
   have e:decide ((none:CK)=some k')=false:=?J
   rw[e]at h;rcases bg hy with⟨i,t',rfl,rfl⟩|⟨z,t',rfl,rfl⟩
   ·exact SeqAt.EqAt.tuple_int i _ t hu _ w E Q h
   ·exact SeqAt.EqAt.tuple_str z _ t hu _ w E Q h
  |none=>
   refine ag hy λb aaP t2=>?_;clear hy;subst aaP;exact wpAny_eqBool_tuple hu (U8 t) (U8 t2) (?gf)
def F7(prog:Program)(w:World)(ks:?fM):Int:=reduceHash (amI (ks.map (nk prog w)))
theorem QB(hu:?HI)(hk:?It)(h:Q (F7 prog w ks) {s with toks:=s.toks+(ks.length+1)}):wpAny ?E A (pyHash (?C)) Q E s:=by
 have hT:=hk.typeIs;refine ?PY;unfold pyHash;first|rfl|skip
 first|refine wpAny_bind (wpAny_cRoomFor_or (.inr ?a) ?_)|skip
 refine ?Oc;show wpAny _ _ _ Q E s;rw[if_neg (by rw[beq_builtin_none];exact ago)];refine ?Oc;show wpAny _ _ (callSpecialIfBoundUnlessNone? (?C) "__hash__" _>>=_) Q E s;refine wpAny_bind (wpAny_callSpecialIfBoundUnlessNone?_slot hT aoA (wpAny_call_entry aoA hT F.entry_tuple_hash ?_ (F.args_tuple_hash_1 _)));show wpAny _ _ (apB (?C)>>=_) _ _ s;refine wpAny_bind (wpAny_tupleItemsOf ho hd (?du));rw[<-aoh];refine wpAny_forIn_list _
  (λrest(b:Array Int)s'=>∃done left,ks=done++left/\CellsAre s.heap left rest/\b.toList=?Fe/\s'={s with toks:=s.toks+done.length})
  _ ?_ ?_ _ _ ⟨[],ks,rfl,hi,rfl,rfl⟩
 ·refineλx rest b s' SJ=>bI SJ λdone left aaQ hl hb aaR=>?_;clear SJ;rw[aaQ];subst aaR;cases hl with
  |@cons k _ ks' _ h1 Xp=>
   refine wpAny_bind (JM ?_ h1 ?_)
   ·show A.units+_<cLine;lia
   ·first
     |exact wpAny_pure ⟨done++[k],ks',?J,Xp,?Le,by simp[ama]⟩
     |rfl
 ·refineλb s' SK=>bI SK λdone left aaS hl hb aaT=>?_;clear SK;subst aaS;subst aaT;cases hl;rw[afM]at h;show wpAny _ _ (retInt (amI b.toList)) _ _ _;rw[hb];refine wpAny_ret_mkInt ?_;show wpAny _ _ (if(?qQ&&?qQ)=true then _ else _) Q E _;unfold F7 reduceHash at h;by_cases hr:(decide (-(2:Int)^63<=amI (?Fe))&&decide (amI (?Fe)<2^63))=true
  ·rw[if_pos hr];rw[if_pos hr]at h;exact ?PI
  ·rw[if_neg hr];rw[if_neg hr]at h;exact wpAny_bind (wpAny_rule (?PI))
theorem JN(hu:?Jk)(hx:o4 s.heap x a)(hy:o4 s.heap y b)(h:P (.done (.ret (?eI (?pC)))) s):
  wpAny ?E A (Builtin.«tuple.__eq__» ⟨[?C,?cH],[]⟩) P E s:=by
 have hTb:=hy.typeIs;refine bB hx λoa xs na hoa _ hda hia=>bB hy λob ys nb vd _ hdb hib=>?_;show wpAny _ _ (isInstance _ _>>=_) _ _ s;refine wpAny_bind (wpAny_isInstance hTb isSubtype_tuple_tuple ?_);simp only[if_false];refine wpAny_bind (wpAny_tupleItemsOf hoa hda (wpAny_bind (wpAny_tupleItemsOf vd hdb (?du))));refine wpAny_forIn_list _
  (λrest r s'=>r.1=none/\s'=s/\∃x' y' xs' ys',rest=List.zip xs' ys'/\CellsAre s.heap x' xs'/\CellsAre s.heap y' ys'/\decide (x'=y')=?qQ/\(xs'.length==ys'.length)=?Gi)
  _ ?_ ?_ _ _ ⟨rfl,rfl,x,y,_,ys.toList,rfl,hia,hib,rfl,?J⟩
 ·intro aaW rest r s' SM;obtain⟨u,v⟩:=aaW;refine uq SM λhr aaX x' y' xs' ys' hz U9 O6 QC hlen=>?_;clear SM;subst aaX;cases U9 with
  |nil=>simp at hz
  |@cons k1 u' x'' ah1 h1 ah2=>
   cases O6 with
   |nil=>simp at hz
   |@cons k2 v' y'' ah3 h2 ah4=>
    simp only[apF,List.cons.injEq,Prod.mk.injEq]at hz;obtain⟨⟨rfl,rfl⟩,rfl⟩:=hz;refine wpAny_bind (QA hu h1 h2 ?_);by_cases hk:k1=k2
    ·subst hk;rw[?Gj];simp only[arq];refine wpAny_pure ⟨rfl,rfl,x'',y'',ah1,ah3,rfl,ah2,ah4,?_,by simpa using hlen⟩;rw[<-QC];by_cases hxy:x''=y''
     ·simp
     ·simp
    ·rw[decide_eq_false hk];simp only[Bool.not_false];have hf:?pC=false:=by rw[<-QC];simp[hk]
     rw[hf]at h;exact wpAny_bind (wpAny_pure (wpAny_pure (?pz)))
 ·intro aaY s' SN;obtain⟨r1,r2⟩:=aaY;refine uq SN λhr aaZ x' y' xs' ys' hz U9 O6 QC hlen=>?_;clear SN;subst aaZ;simp only at hr;subst hr;refine ?bx;have ah5:?Gi=?pC:=by
   simp only[<-QC,<-hlen];cases U9 with
   |nil=>
    cases O6 with
    |nil=>simp
    |cons _ _=>simp
   |cons _ _=>
    cases O6 with
    |nil=>simp
    |cons _ _=>simp at hz
  show P (.done (.ret (?eI ?Gi))) s';rw[ah5];exact h
theorem aa0(hu:?HI)(hx:o4 s.heap x a)(hy:o4 s.heap y b)(h:Q (?pC) s):wpAny ?E A (eqBool (?C) (?cH)) Q E s:=by
 unfold eqBool;try with_reducible refine ?xR
 by_cases hab:(afZ a==afZ b)=true
 ·rw[if_pos hab];have e:a=b:=by have:=eq_of_beq hab;injection this
  subst e;obtain rfl:=hx.inj hy;exact wpAny_bind (wpAny_rule (wpAny_pure (?gf)))
 ·rw[if_neg hab];refine wpAny_bind (wpAny_richCompare_same_room hx.typeIs hy.typeIs ao5
   (wpAny_call_entry ao5 hx.typeIs F.entry_tuple_eq (JN ?_ hx hy ⟨_,rfl,(λe=>nomatch e),wpAny_truthy_bool h⟩) (F.args_tuple_eq_2 _ _)) ?a)
  show A.units+_<cLine;lia
theorem MB(hk:?It)(h:Q true s):wpAny ?E A (eqIsQuiet 8 (?C)) Q E s:=by
 have hT:=hk.typeIs;refine ?PY;unfold eqIsQuiet;refine wpAny_bind (wpAny_specialOf hT ao5.lookup (wpAny_bind (wpAny_isInstance hT isSubtype_tuple_tuple (wpAny_bind (wpAny_seqItems ho hd (?du))))));rw[<-aoh];refine wpAny_forIn_list _ (λrest r s'=>r.1=none/\s'=s/\∃left,CellsAre _ left rest) _ ?_ ?_ _ _ ⟨rfl,rfl,ks,hi⟩
 ·rintro v rest r s' ⟨hr,rfl,left,hl⟩;cases hl with
  |@cons k _ ks' _ h1 Xp=>
   have fin:wpAny ?E A (eqIsQuiet 7 v) (λb s1=>?dQ/\s1=s') E s':=by
    cases k with
    |some k=>
     rcases bg h1 with⟨i,t',_,rfl⟩|⟨z,t',_,rfl⟩
     ·exact wpAny_pure ?jv
     ·exact wpAny_pure ?jv
    |none=>
     refine ag h1 λa' aa1 t=>?_;clear h1;subst aa1;have hT:=t.typeIs;refine kc t λo ho hc m hd=>?_;unfold eqIsQuiet;exact wpAny_bind (wpAny_specialOf hT ao5.lookup (wpAny_bind (wpAny_isInstance hT isSubtype_tuple_tuple (wpAny_bind (wpAny_seqItems ho hd (wpAny_bind (wpAny_pure (wpAny_pure ?jv))))))))
   refine wpAny_bind (ck fin λb s1⟨e1,e2⟩=>?_);subst e1 e2;exact wpAny_pure ⟨rfl,rfl,ks',Xp⟩
 ·intro aa2 s' SO;obtain⟨r1,r2⟩:=aa2;refine i8 SO λhr aa3 _=>?_;clear SO;rw[aa3];subst hr;exact ?pz
#where
def sV prog w:HeapKind prog w (?fM)where
 is:=o4
 hash:=F7 prog w
 draws:=λks=>ks.length+1
 room:=λA=>?HI
 inj:=λhx hy=>hx.inj hy
 keeps:=λx ho hd hs=>x.keeps ho hd hs
 pyHash:=λhu hk h=>QB hu hk h
 eqBool:=λhu hx hy h=>aa0 hu hx hy h
 quiet:=λhk h=>MB hk h
section
variable{prog:Program}{w:World}{K:Type}[DecidableEq K]{knd:HeapKind prog w K}{A:Around}{E:?ap}{s:Shared}{d a:Addr}{k:K}{xs:List (K×Addr×Value)}
theorem Dv{dflt}(hu:knd.room A)(hkey:knd.is s.heap k a)(hm:?TH)(hsz:?ev)
  (h1:∀p,?lg=?Y->Q p.2 {s with toks:=?xE})
  (h2:?lg=none->∀h',?Pm->ai3 d s.heap h'->Q dflt {s with heap:=h',toks:=?xE}):wpAny ?E A (dictSetDefault d (?C) dflt) Q E s:=by
 refine sF hm λo es ep ho hc hd he his hn=>?_;delta dictSetDefault;try with_reducible refine ?xR
 refine wpAny_bind (knd.pyHash hu hkey (wpAny_bind (wpAny_dictFind_heap hu hkey ho hd he his hn ?_ ?_)))
 ·intro CT;have aoa:k∉xs.map _:=not_mem_keys_of_get CT;refine wpAny_bind (wpAny_rule (wpAny_bind (wpAny_updateDictKeys (hz:=by have e:=size_of_entries he;simp_all) ho hd (wpAny_pure (h2 (atKey_none_of_get CT) _ ⟨_,_,_,aj_ _ ho (Obj.isFreed_of_dict (aqY hd _)),
   hc.mapDictKeys _,aqY hd _,?_,?_,?_⟩ ?vg)))))
  ·simp[he,entryOfKey]
  ·intro x hx;show ?oG
   ·exact knd.keeps (his x hx) ho hd ?vg
   ·simp only[afO]at hx;rw[hx];exact knd.keeps hkey ho hd ?vg
  ·rw[afU,ahL];refine⟨hn,?J,?_⟩;grind [abL,agn,afO]
 ·refineλj p hj=>wpAny_bind (wpAny_dictEntries ho hd ?_);rw[entry_at he j,hj];exact wpAny_bind (wpAny_rule (wpAny_pure (h1 p (atKey_of_get hn hj))))
theorem qX(hd:?sh)dflt:
  MeetsIn prog w (Builtin.«dict.setdefault» ⟨[?ce,?C,dflt],[]⟩) (λA R s=>knd.room A.in1/\∃k xs,knd.is s.heap k a/\?TH/\?ev/\
   (∀p,?lg=?Y->R (.ok (.ret p.2)) {s with toks:=?xE})/\
   (?lg=none->∀h',?Pm->ai3 d s.heap h'->R (.ok (.ret dflt)) {s with heap:=h',toks:=?xE})):=
 .of_wp λA R s hh=>hh.2.elim λk hx=>hx.elim λxs hx=>by refine wpAny_bind (wpAny_bind (wpAny_notOrdered_dict hx.2.1.typeIs (?bx)));show wpAny _ _ (if(d==sysModules)=true then _ else(dictSetDefault d _ dflt>>=_)) _ _ s;rw[if_neg (by rw[hd];exact ago)];exact wpAny_bind (Dv hh.1 hx.1 hx.2.1 hx.2.2.1 (λp hp=>wpAny_pure ⟨_,rfl,hx.2.2.2.1 p hp⟩) λhn h' hm' K1=>wpAny_pure ⟨dflt,rfl,hx.2.2.2.2 hn _ hm' K1⟩)
#where
def GD(P:Program)(w:World)(d:Addr)(xs:?op):HO:=.ext λh=>
 ?sh/\?ev/\∃o es ep,?vh=?d/\o.ExactDict/\?eO/\?Dn/\(xs.map ?aT).Nodup
theorem Ig(a1:?sh)(a2:?ev)(a3:∃o es ep,?vh=?d/\o.ExactDict/\?eO/\?Dn/\(xs.map ?aT).Nodup):
 dg P w H h d ?kV:=mB a3 λo es ep e r=>⟨⟨a1,a2,o,es,ep,e,r⟩,?uW,(λh1 h2 aa5 k=>Pg aa5 λb1 b2 o es ep e r=>⟨b1,b2,o,es,ep,k o e,r⟩)⟩
def aa6:PV->Option CK
 |?O=>some (some (?nR))
 |?cW=>some (some (?kb))
 |.tup []=>?cv
 |_=>none
def mF:?e->Option (?fM)
 |[]=>some []
 |p::r=>(aa6 p).bind λc=>(mF r).map λs=>c::s
theorem SQ{σ:L2.St}(I:?r)(r:Rep X.K H (?C) ?uH)(e:mF ps=?jV):o4 s.heap cs a:=by
 cases r with
 |tup hq rl=>
  exact aG (?is) λaL r2 aa7 _=>kc aa7 λo h1 h2 n h3=>⟨o,_,n,h1,h2,h3,by simpa using((show∀{vs}{us}{ps}{cs},aI X.K H vs ps->mF ps=?jV->?hm->CellsAre s.heap cs us from by
   intro vs us ps cs h;induction ps generalizing vs us cs with
   |nil=>
    intro e rv;cases h;cases e;cases rv;show ?bJ
   |cons p ps ih=>
    refineλe rv=>ag ?uk λc e1 e=>ag ?qa λSR e2 z=>?_;rw[<-z];cases h with
    |cons h r=>cases rv with
     |cons rv rvs=>exact ?p (by
      cases h with
      |int i=>cases e1;exact wD (P:=X.prog) (w:=X.w) (k:=?nR) rv
      |str x=>cases e1;exact wD (P:=X.prog) (w:=X.w) (k:=?kb) rv
      |tup hq rl=>
       rename_i ps;cases ps with
       |nil=>
        cases e1;cases rl;cases rv;refine aG (?is) λaL r2 ht _=>?_;cases r2;exact⟨_,rfl,ht⟩
       |cons _ _=>exact nn e1
      |_=>exact nn e1) (ih r e2 rvs)) rl e r2)⟩
def U_(P:Program)(w:World):TE:=λ_ H Q=>∀p,?fi->Q (?af) (upd H p (GD P w p []))
def SU(P:Program)(w:World)(K:aaU)(td tk:TE):TE:=λσ H Q=>td σ H λx H1=>∃d,x=?ce/\(∃xs,H1 d=some ?kV)/\tk σ H1 λy H2=>∀p,H2 p=none->
 ∃(b:Addr)(xs:?op)(ps:?e)(cs:?fM),y=?cH/\H2 d=some ?kV/\Rep K H2 (?cH) ?uH/\mF ps=?jV/\(∀z∈xs,∃qs,Rep K H2 (.ref ?hM) ?BG/\mF qs=some z.1)/\?xy/\
  (∀z,?tS=?kd->∃l,z.2=?ax/\Q (?ax) (upd H2 p ?bu))/\(?tS=none->Q (?af) (upd (upd H2 p ?bu) d (GD P w d (xs++[(cs,b,?af)]))))
theorem QD(hu:X.A.units+20<cLine)(ho:PE X o td)(he:PE X e tk)(m:M2 X o "setdefault" apos e (.List [] lp) cpos):
  PE X (?I (?aq o "setdefault" apos) [e,.List [] lp] [] cpos) (SU X.prog X.w X.K td tk):=by
 refineλpins s σ H Q I h=>wpAny_Call_method m.base m.few m.line aqg apf PySem.F.type_dict_setdefault (O3 ho I h (λu s1 x H1 I1 rx aa8=>aG aa8 λd ex ah6 q1=>?_));clear aa8;obtain⟨xs0,Ad⟩:=ah6;subst ex;obtain rfl:u=afZ d:=rx;obtain⟨⟨_,_,ob,es,ep,g1,g2,g3,_⟩,_⟩:=I1.bq d _ Ad;refine⟨⟨ob,g1,g2.1⟩,?uG,?_⟩
 ·cases q;exact⟨ob,g1,g2.2.1⟩
 rw[m.trees];refine akG rfl (anC (akv (O3 he I1 q1 λiv s2 y H2 I2 ry q2=>akv (ck (lN aP pins s2 σ H2 (λv H3=>∃p,v=?af/\H2 p=none/\H3=upd H2 p ?bu) I2 ⟨?bg,λp hp=>⟨p,rfl,hp,rfl⟩⟩) λlv s3⟨z,H3,I3,rz,p,e1,hp,e3⟩=>?_))));subst e1 e3;cases rz;refine lJ (q2 p hp) λb xs ps cs Va hd2 rb ec hk hl f1 f2=>?_;subst Va;cases ry;refine anz ?_;have ne:∀{c}{o},H2 c=?d->c≠p:=λq e=>by rw[e,hp]at q;show ?aD
 have sm:aj H2 (upd H2 p ?bu):=λc o q=>by rw[ae (ne q)];exact q
 have hd3:upd H2 p ?bu d=?bk:=sm _ _ hd2;obtain⟨⟨hm0,hz,ob,es,ep,g1,g2,g3,g4,g5⟩,_⟩:=I3.bq d _ hd3;have dd:s3.heap.DictOfH _ d xs:=⟨ob,es,ep,g1,g2,g3,g4,λx hx=>ag (hk x hx) λqs r e=>SQ I3 (r.mono sm) e,g5⟩;refine call_meetsIn apf dd.typeIs PySem.F.entry_dict_setdefault (PySem.F.args_dict_setdefault_3 _ _ _) (qX hm0 (?af))
  ⟨?_,cs,xs,SQ I3 (rb.mono sm) ec,dd,aps hl,λz WS=>?_,λhn h' PM hs=>?_⟩
 ·show X.A.units+1+8<cLine;lia
 ·refine ag (f1 z WS) λl e q=>?_;rw[e];exact⟨?ax,_,I3.tok _,rfl,q⟩
 ·exact sF PM λob' Xn Xo k1 k2 k3 k4 k5 k6=>⟨?af,_,vS I3 (by rw[hd3];exact ajN) hs ⟨ob',k1⟩ (Ig hm0 (by simp only[adW,aoM];lia) ⟨ob',Xn,Xo,k1,k2,k3,k4,k6⟩),rfl,f2 hn⟩
abbrev Acc:=List (?fM×?e)
def g7(acc:Acc)(cs:?fM)(n:PV):Acc:=if acc.any (?Ff)=true then acc.map (λx=>?Du)else acc++[(cs,[n])]
def F8:PV->Option (?fM)
 |.tup ps=>mF ps
 |_=>none
def pQ(gk:Nat->PV->?k):Nat->?e->Acc->Rs Acc
 |_,[],acc=>.ok acc
 |i,row::r,acc=>gk i row>>=λk=>opt (λcs=>pQ gk ?bf r (g7 acc cs (.int ?bd))) (F8 k)
theorem MC(r:?aX)f(g:β->Rs γ):((r>>=f)>>=g)=r>>=λa=>f a>>=g:=by rcases r with _|_|_<;>rfl
theorem MD(h:Fi (opt f o>>=g) P e):∃a,o=?cr/\Fi (f a>>=g) P e:=by
 show ?uu
 ·show ?am
 ·exact ?tM
theorem Dw(e:F8 p=?jV):∃l,p=?dj/\mF l=?jV:=by
 show ?XN
 case tup=>exact⟨l,rfl,e⟩
 show ?ps
inductive iT(K:aaU)(G H0 H:Hp)(d:Addr):?op->?X->Acc->Prop
 |nil:iT K G H0 H d [] [] []
 |cons {cs:?fM} {b l:Addr} {qs:?e} {vs:?B} {ps:?e} {xs:?op} {ls:?X} {acc:Acc}:Rep K G (?cH) ?BG->mF qs=?jV->H l=some ?fF->?cE->?qR->?qs->l≠d->l∉ls->
  ?hT->iT K G H0 H d ((cs,b,?ax)::xs) (l::ls) ((cs,ps)::acc)
section
theorem iT.keys{K}(h:?hT):xs.map ?aT=acc.map ?aT:=by
 induction h with
 |nil=>rfl
 |cons _ _ _ _ _ _ _ _ _ ih=>simp_all
theorem iT.len{K}(h:?hT):xs.length=acc.length:=by have:=congrArg amN h.keys;show ?fD
theorem iT.key{K}(h:?hT):∀z∈xs,∃qs,Rep K G (.ref ?hM) ?BG/\mF qs=some z.1:=by
 induction h with
 |nil=>simp
 |cons h1 h2 _ _ _ _ _ _ _ ih=>
  intro z hz;rcases aed.mp hz with rfl|hz
  ·exact⟨_,h1,h2⟩
  ·exact ih z hz
theorem iT.grow{K}(h:?hT)(s:?fN)(hl:∀l∈ls,H' l=H l)(hg:∀l∈ls,G' l=none):iT K G' H0 H' d xs ls acc:=by
 induction h with
 |nil=>show ?bJ
 |@cons cs b l qs vs ps xs ls acc h1 h2 h3 h4 h5 h6 h7 h8 h9 ih=>
  exact ?p (h1.mono s) h2 (by rw[hl l ?i];exact h3) (h4.mono s) (hg l ?i) h6 h7 h8 (ih (λl' m=>hl _ ?uF) λl' m=>hg _ ?uF)
theorem iT.mem{K}(h:?hT):∀l∈ls,∃vs,H l=some ?fF/\?qR/\?qs/\l≠d:=by
 induction h with
 |nil=>simp
 |cons h1 h2 h3 h4 h5 h6 h7 h8 h9 ih=>
  intro l hl;rcases aed.mp hl with rfl|hl
  ·exact⟨_,h3,h5,h6,h7⟩
  ·exact ih l hl
theorem iT.aa9{K}(h:?hT)(e:?tS=none):(acc.any ?Ff)=false:=by
 rw[Bool.eq_false_iff];intro z;rw[akA]at z;refine ag z λx hx hc=>?_;have hm:cs∈xs.map ?aT:=by rw[h.keys];exact adX.mpr ⟨x,hx,of_decide_eq_true hc⟩
 refine ag (adX.mp hm) λy hy oe1=>?_;subst oe1;delta atKey at e;rw[Option.map_eq_none_iff,List.find?_eq_none]at e;exact e y hy ?i
theorem iT.put{K}{d}(h:?hT)(hn:(xs.map ?aT).Nodup)(e:?tS=?kd):∃l vs,z.2=?ax/\H l=some ?fF/\l∈ls/\(∃ps,?cE/\(cs,ps)∈acc)/\(acc.any ?Ff)=true/\
  ∀n v,Rep K G v n->iT K G H0 (upd H l (.lst (vs++[v]))) d xs ls (acc.map λx=>?Du):=by
 induction h with
 |nil=>show ?er
 |@cons SR b l qs vs ps xs ls acc h1 h2 h3 h4 h5 h6 h7 h8 h9 ih=>
  rw[abL,agA]at hn;by_cases q:SR=cs
  ·subst q;have e1:atKey ?XW SR=some (b,?ax):=by simp[atKey]
   rw[e1]at e;cases e;refine⟨l,vs,rfl,h3,?jS,⟨ps,h4,?jS⟩,?J,λn v rv=>?_⟩;have jA:acc.map (λx=>if x.1=SR then(x.1,x.2++[n])else x)=acc:=by rw[agu (?jF),List.map_id];rw[if_neg (λz=>hn.1 (by rw[h9.keys];exact adX.mpr ⟨x,hx,z⟩))];rfl
   simp only[abL,jA];exact ?p h1 h2 aa (h4.append (?p rv .nil)) h5 h6 h7 h8 (h9.grow (?bv) (λl' m=>ae (λz=>h8 (by simp_all[z]))) λl' m=>(h9.mem _ m).elim λ_ z=>?hM)
  ·have e2:atKey ?XW cs=?tS:=by simp[atKey,q]
   rw[e2]at e;refine qx (ih hn.2 e) λl2 vs2 a1 a2 a3 oz2 a6 a7=>ag oz2 λO_ a4 a5=>⟨l2,vs2,a1,a2,aaV _ a3,⟨O_,a4,aaV _ a5⟩,by simp only[amU,a6];simp,λn v rv=>?_⟩;rw[abL,?qM];have hne:l≠l2:=λz=>h8 (by rw[z];exact a3);exact ?p h1 h2 (by rw[ae hne];exact h3) h4 h5 h6 h7 h8 (a7 n v rv)
theorem iT.snoc{K}(h:?hT)(hb:Rep K G (?cH) ?BG)(hc:mF qs=?jV)(hp:H p=some (.lst [v]))(rv:Rep K G v n)(gp:G p=none)(h0:H0 p=none)(hd:p≠d)(hl:p∉ls):
  iT K G H0 H d (xs++[(cs,b,?af)]) (ls++[p]) (acc++[(cs,[n])]):=by
 induction h with
 |nil=>exact ?p hb hc hp (?p rv .nil) gp h0 hd ?bM .nil
 |@cons SR b' l qs' vs ps xs ls acc h1 h2 h3 h4 h5 h6 h7 h8 h9 ih=>
  rw[aed,not_or]at hl;have hx:l∉ls++[p]:=by rw[afC,not_or];exact⟨h8,by simpa using ahI hl.1⟩
  exact ?p h1 h2 h3 h4 h5 h6 h7 hx (ih hl.2)
theorem iT.fin{K}(h:?hT)(s:?fN)(hl:∀l∈ls,G' l=H l):aI K G' ?Iu ?SD/\?Sc:=by
 induction h with
 |nil=>exact⟨.nil,rfl⟩
 |@cons cs b l qs vs ps xs ls acc h1 h2 h3 h4 h5 h6 h7 h8 h9 ih=>
  obtain⟨i1,i2⟩:=ih λl' m=>hl _ ?uF;refine⟨?p (.lst (Rd.of (by rw[hl l ?ct];exact h3)) (h4.mono s)) i1,?_⟩;simp_all
#where
theorem Ae:∀ls:?X,Vals ?Iu (ls.map afZ)
 |[]=>.nil
 |_::ls=>?p rfl (Ae _)
def GOk(P:Program)(w:World)(d:Addr)(xs:?op)(o:Obj):Prop:=?sh/\?ev/\∃es ep,o.ExactDict/\?eO/\?Dn
theorem Vb{ls:?X}(g:?Iv)(e:?Sc):Dh d o ?Iu:=by
 refine vO g λa1 a2 es ep a4 a5 a6=>?_;have hl:xs.length=ls.length:=by have:=?yF;show ?fD
 refine⟨a1,?W,es,ep,a4,a5,?_⟩;have ev:?EA=ls.map afZ:=by simp only[a6,abV,<-e];rfl
 rw[ev];exact Ae _
def ah8(P:Program)(w:World)(t:TE):TE:=λσ H Q=>t σ H λx H1=>∃d xs,x=?ce/\H1 d=some ?kV/\∀o,?Iv->Q x (upd H1 d (.vQ o ?kV))
abbrev ME(P:Program)(w:World)(K:aaU)(E:XK)(gk:GE):TS:=dN (oX (U_ P w) ?lQ) (dN (CI (yY K E (iE (c1 ?b c0))) (Pl K 2 (WU [3,4])) (mC (Px K ?aC lO (SU P w K ?kg (tP K E gk)) (bL ?rA ee)))) (oW (ah8 P w ?kg)))
def Dx(acc:Acc):PV:=.E4 ?SD
def Bj(gk:GE):?e->?k:=two λa places=>uH (λrl=>if rl.length<sizeLine then pQ (λi row=>gk [some (.lst rl),some places,none,some (.int ?bd),?Cr]) 0 rl []>>=?FP else .bad) a
structure QF(P:Program)(w:World)(K:aaU)(G0 H G1:Hp)(d:Addr)(vr vp:V)(i:Nat)(σ:L2.St)(H' G:Hp)(xs:?op)(ls:?X)(acc:Acc):Prop where
 a1:?nJ
 a2:aj G H'
 a3:?lF
 new:∀a o,G a=?d->G0 a=?d\/?qG
 gd:G d=none
 hd:H' d=some ?kV
 gr:iT K G H H' d xs ls acc
 nd:(acc.map ?aT).Nodup
 st:σ[0]?=some (some vr)/\?nW=some (some vp)/\σ[2]?=?UI/\σ.length=5
 al:acc.length<=i
 ax:∀x∈acc,x.2.length<=i
section
theorem QF.fresh{K}(h:?Di)(hp:H' p=none):?fi/\G p=none/\p≠d/\p∉ls:=
 ⟨h.a3.free hp,none_of h.a2 hp,λe=>by(have:=h.hd;simp_all),λm=>by(refine ag (h.gr.mem p m) λvs e1 _=>?_;simp_all)⟩
theorem MG(h:(acc.map ?aT).Nodup):((?Lf).map ?aT).Nodup:=by
 delta g7;split
 ·rw[abV,agu (λx _=>by
   show(?Du).1=x.1;split<;>rfl)]
  exact h
 ·rename_i e6;rw[afU,ahL];refine⟨h,?EP,?GF⟩;obtain rfl:=afO.mp hb;refine ag ?tT λy2 hy2 oe5=>?_;subst oe5;exact e6 (akA.mpr ⟨y2,hy2,decide_eq_true e⟩)
theorem MH(h:acc.length<=i):(?Lf).length<=i+1:=by
 delta g7;split
 ·rw[aa_];exact apV h
 ·rw[adW];exact ar8 h
theorem MI(h:∀x∈acc,x.2.length<=i):∀x∈?Lf,x.2.length<=i+1:=by
 delta g7;split
 ·refineλx hx=>ag ?mP λy hy oe6=>?_;rw[<-oe6];split
  ·rw[adW];exact ar8 (h y hy)
  ·exact apV (h y hy)
 ·intro x hx;show ?oG
  ·exact apV (h x hx)
  simp_all
theorem QF.fin{K}(h:?Di)(s0:aj G0 G1)(hd:?Cg)(gok:?Iv):∃G',Ex G0 H G' (upd H' d (.vQ o ?kV))/\Rep K G' (?ce) (Dx acc):=by
 let G':Hp:=λa=>if a=d then some (.vQ o ?kV)else if a∈ls then H' a else G a
 have G'd:G' d=?bk:=?bV;have G'n:∀a,a≠d->a∉ls->G' a=G a:=λa h1 h2=>(if_neg h1).trans (if_neg h2);have gl:∀l∈ls,G' l=H' l:=λl hl=>(h.gr.mem l hl).elim λ_ z=>(if_neg z.2.2.2).trans (if_pos hl);have gG:?fN:=λa o q=>by
  rw[G'n a (λe=>by simp_all[h.gd]) (λe=>by refine aG (h.gr.mem a e) λ_ _ w2 _=>?_;simp_all)]
  exact q
 obtain⟨f1,f2⟩:=h.gr.fin gG gl;refine⟨G',⟨(s0.trans h.a1).trans gG,?Lg,au h.a3 hd,?Lg⟩,.E4 G'd (Vb gok f2) f1⟩
 ·by_cases c:a=d
  ·simp_all[aa]
  ·rw[ae c];by_cases c2:a∈ls
   ·rw[gl a c2]at q;exact q
   ·rw[G'n a c c2]at q;exact h.a2 _ _ q
 ·by_cases c:a=d
  ·rw[c];exact .inr hd
  ·by_cases c2:a∈ls
   ·exact(h.gr.mem a c2).elim λ_ z=>.inr z.2.2.1
   ·rw[G'n a c c2]at q;exact h.new a o q
#where
theorem wu{σ:L2.St}(h:σ[0]?=some (?cr)/\?nW=some (?kf)/\σ[2]?=some (?bj)/\σ.length=5):let τ:=(σ.set 3 (?F)).set 4 (?bl);(τ[0]?=some (?cr)/\τ[1]?=some (?kf)/\τ[2]?=some (?bj)/\τ.length=5)/\τ[3]?=some (?F)/\τ[4]?=some (?bl):=by grind
abbrev alE(rl:?e)(p:PV)(o q:?lo):gZ:=[some (.lst rl),?Y,none,o,q]
theorem abb{K}(h0:σ[0]?=some (?cr))(h1:?nW=some (?kf))(ra:Rep K G a (.lst rl))(rb:Rep K G b p)(ho:∀x,o=?F->∃v,σ[3]?=some (?V)/\?AG)(hq:∀x,q=?F->∃v,σ[4]?=some (?V)/\?AG):gA K G σ (alE rl p o q):=λi z e=>by
 rcases i with _|_|_|_|_|i
 ·cases e;exact⟨a,h0,ra⟩
 ·cases e;exact⟨b,h1,rb⟩
 ·cases e
 ·exact ho z (afE e)
 ·exact hq z (afE e)
 ·show ?er
theorem QG{K}(h:Qa K (Bj gk) vs H Q E):ME P w K E gk ?hR (L2.start [?R,?aI,?ly,?ah,"row"] vs) H:=by
 show ?Hk;refine gf ?Cm λvr vp q places oe8 oe9 rr rp h=>?_;subst oe8;subst oe9;refine cJ (lR h rr) λar ur rl Vc _ _ _ h=>?_;subst Vc;obtain⟨hlen,h⟩:=a_ h;intro d hd;have gd0:G0 d=none:=none_of s0 hd;have sH:aj H (upd H d (GD P w d [])):=au (?bv) hd;refine⟨G0,alE rl places none none,s0.trans sH,abb rfl rfl rr rp nofun nofun,?_⟩;show L9 K E (.ok (mD rl)) G0 _ _;refineλG1 H2 J ex1 UN=>⟨λi m σ H'=>m=rl.length-i/\i<=rl.length/\∃G xs ls acc,?Di/\fq K E (pQ (λi row=>gk (alE rl places (some (.int ?bd)) (?Cr))) i (rl.drop i) acc>>=?FP) G0 H Q,
  ⟨rl.length,rfl,?bg,G1,[],[],[],⟨?bv,ex1.gh,sH.trans ex1.hh,?Lg,ja ex1 gd0 aa,ex1.hh _ _ aa,.nil,aoB,?EQ,?cs,λx hx=>by show ?fY⟩,h⟩,?_⟩
 ·rcases ex1.new a o q with z|z
  ·exact ?dl
  ·exact .inr (sH.free z)
 refineλi m σ H3 Ph=>K9 Ph λVd hi G xs ls acc I t11=>?_;clear Ph;subst Vd;obtain⟨UO,wW⟩:=UN i G H3 I.a1 I.a2;by_cases hlt:i<rl.length
 ·have ep:(mD rl)[i]?=some (.tup [.int ?bd,rl[i]]):=by
   unfold mD;rw[ad0,amP,aft hlt];simp
  obtain⟨go,Ht⟩:=UO _ ep;rw[<-alY]at t11;refine .inr ⟨go,λσ' H'=>∃G xs ls acc,QF P w K G0 H G1 d vr vp ?bf σ' H' G xs ls acc/\fq K E (pQ (λi row=>gk (alE rl places (some (.int ?bd)) (?Cr))) ?bf (rl.drop ?bf) acc>>=?FP) G0 H Q,λσ' H' z=>⟨rl.length-?bf,?M,rfl,hlt,z⟩,λx H4 y=>(ag (Ht x H4 y) λG2 ex2 rx=>ah rx.yW λat' us MJ hq rl2=>?_)⟩;subst MJ;refine ah (show∃u w,us=[u,w]/\Rep K G2 u ?ts/\Rep K G2 w (rl[i])from by obtain⟨u,us,rfl,h,rl2⟩:=rl2.un;obtain⟨w,rfl,h2⟩:=rl2.one;exact⟨u,w,rfl,h,h2⟩) λv1 v2 MK r1 r2=>?_
  subst MK;refine⟨_,_,rfl,bF ex2.gh hq,rfl,⟨v1,_,rfl,⟨v2,_,rfl,⟨rfl,(i8 (wu (x:=v1) (y:=v2) I.st) λq0 q3 q4=>?_)⟩⟩⟩⟩;generalize(σ.set 3 (some v1)).set 4 (some v2)=σ2 at q0 q3 q4⊢;have g12:aj G0 G2:=(ex1.gg.trans I.a1).trans ex2.gg;refine⟨?ce,q0.2.2.1,d,rfl,⟨xs,ex2.hh _ _ I.hd⟩,G2,alE rl places (some (.int ?bd)) (some rl[i]),ex2.gh,abb q0.1 q0.2.1 (rr.mono g12) (rp.mono g12) (λ_ e=>by cases e;exact⟨v1,q3,r1⟩) (λ_ e=>by cases e;exact⟨v2,q4,r2⟩),(Fi.mO (by unfold pQ at t11;rw[MC]at t11;exact t11) (λkp _ t11 G3 H5 v ex3 rv p hp=>(ag (MD t11) λcs eg t12=>ag (Dw eg) λqs Ve ec=>?_)) λ_ z=>sA.mono z (I.a3.trans ex2.hh))⟩;subst Ve;refine ah (id rv.yW) λb ys Vf WY rl3=>?_;subst Vf;have I5:={((⟨I.a1.trans (?gk).gg,(?gk).gh,I.a3.trans (?gk).hh,sQ I.new I.a3 (?gk),ja (?gk) I.gd I.hd,(?gk).hh _ _ I.hd,I.gr.grow (?gk).gg (λl m=>?WL λ_ z=>((?gk).hh _ _ z.1).trans z.1.symm) λl m=>?WL λ_ z=>ja (?gk) ?hM z.1,I.nd,I.st,I.al,I.ax⟩:QF P w K G0 H G1 d vr vp i σ H5 G3 xs ls acc))with st:=q0:QF P w K G0 H G1 d vr vp i σ2 H5 G3 xs ls acc};refine Cu (I5.fresh hp) λf1 f2 f3 f4=>?_;have I6:=((Cu (I5.fresh hp) λf1 f2 f3 f4=>⟨I5.a1,au I5.a2 f2,au I5.a3 f1,I5.new,I5.gd,by rw[ae (ahI f3)];exact I5.hd,I5.gr.grow (?bv) (λl m=>ae λe=>f4 (e▸m)) λl m=>(I5.gr.mem l m).elim λ_ z=>?hM,I5.nd,I5.st,I5.al,I5.ax⟩:QF P w K G0 H G1 d vr vp i σ2 (upd H5 p ?bu) G3 xs ls acc));refine⟨b,xs,qs,cs,rfl,I5.hd,rv.mono ex3.gh,ec,λz hz=>?_,by rw[I.gr.len];exact akw (afh I.al hi) hlen,λz hz=>?_,λhn=>?_⟩
  ·exact ag (I5.gr.key z hz) λqs' w1 w2=>⟨qs',w1.mono ex3.gh,w2⟩
  ·exact bI (by refine qx (I6.gr.put (by rw[I6.gr.keys];exact I6.nd) hz) λl vs e1 e2 e3 oz7 e6 e7=>ag oz7 λps e4 e5=>Hm (I6.gr.mem l e3) λ_ _ w2 w3 w4=>?_;have eg:acc.map _=g7 _ _ ?ts:=(if_pos e6).symm;exact⟨l,vs,e1,e2,by rw[e4.length];exact I6.ax _ e5,I6.a1,au I6.a2 w2,au I6.a3 w3,I6.new,I6.gd,by rw[ae (ahI w4)];exact I6.hd,eg▸e7 ?ts v1 (r1.mono ex3.gg),MG I6.nd,I6.st,MH I6.al,MI I6.ax⟩) λl vs' e1 e2 e3 I7=>⟨l,e1,.inl ⟨rfl,vs',cW.of e2⟩,v1,q3,l,vs',v1,rfl,rfl,e2,akw (afh e3 hi) hlen,G3,xs,ls,_,I7,t12⟩
  ·have hP:upd (upd H5 p ?bu) d (GD P w d (xs++[(cs,b,?af)])) p=some ?bu:=by rw[ae f3,aa]
   exact⟨.inl ⟨rfl,[],cW.of hP⟩,v1,q3,p,[],v1,rfl,rfl,hP,by show 0<sizeLine;decide,G3,_,_,_,(by
     have eg:acc++[(cs,[?ts])]=g7 acc cs ?ts:=(if_neg (by rw[I6.gr.aa9 hn];exact ago)).symm;exact⟨I6.a1,au (au I6.a2 I6.gd) f2,au (au I6.a3 hd) f1,I6.new,I6.gd,by rw[ae (ahI f3),aa],eg▸iT.snoc (I6.gr.grow (?bv) (λl m=>?VH λ_ z=>by rw[ae (λ(hn:l=p)=>f4 (hn▸m)),ae z.2.2.2]) λl m=>?VH λ_ z=>?hM) rv ec aa (r1.mono ex3.gg) f2 f1 f3 f4,
      MG I6.nd,I6.st,MH I6.al,MI I6.ax⟩),t12⟩
 ·obtain rfl:=anr hi ?BE;refine .inl ⟨wW (by simp[mD]),?_⟩;rw[anN]at t11;exact⟨?ce,I.st.2.2.1,d,xs,rfl,I.hd,λob gok=>(ag (I.fin ex1.gg hd gok) λG' ex' r'=>(t11 G' _ _ ex' r'))⟩
section
theorem JO(hd:?sh)(ho:?jt=?d)(hc:o.ExactDict)(hdat:?eO)(hfit:(es.size:Int)<2^63)
  (h:Q (.int es.size (?nu)) {s with toks:=?nu+1}):wpAny ?E A (call (?U ?dG) [?ce]) Q E s:=by
 have hT:s.TypeIs (?ce) _:=⟨o,ho,hc.1⟩;refine Calls.call_function_entry kind_len plain_len entry_len (args_len1 _) (wpAny_bind (?bx));refine wpAny_bind (wpAny_callSpecial?_slot hT asv
  (call_meetsIn asv hT F.entry_dict_len (F.args_dict_len_1 _) ((.of_wp λA R s⟨⟨ho,hdat⟩,h⟩=>by show wpAny _ _ (dictSize d>>=_) _ _ s;exact wpAny_bind (wpAny_bind (wpAny_dictEntries ho hdat (wpAny_pure (wpAny_bind (wpAny_pendingCount_other hd (wpAny_ret_mkInt (h))))))):MeetsIn prog w (Builtin.«dict.__len__» ⟨[?ce],[]⟩) (λ_ R s=>(?jt=?d/\?eO)/\R (.ok (.ret (.int es.size s.toks))) ?ou))) ⟨⟨ho,hdat⟩,(wpAny_bind (wpAny_holding (wpAny_pure (wpAny_bind (wpAny_letGo ?_)))))⟩))
 rw[if_neg ?i];rw[if_neg (?W)];exact wpAny_bind (wpAny_mkInt (wpAny_pure ?tz))
theorem Bk(hv:s.heap.IsValuesView v d)(ho:?jt=?d)(hdat:?eO)
  (hQ:Q (?bT) {s with heap:=s.heap.push {cls:=?n "dict_valueiterator",data:=?aO #[?ce,.int 0 0,.int es.size 0,.int ep 0]}}):wpAny ?E A (pyIter (.ref v)) Q E s:=by
 refine aG (id hv) λov hov hcv hdv=>wpAny_pyIter_slot hv.typeIs aqk (wpAny_call_entry aqk hv.typeIs F.entry_dict_values_iter (wpAny_bind (wpAny_pure (wpAny_bind (wpAny_bind (wpAny_field hov hdv (x:=?ce) rfl (wpAny_pure (wpAny_bind (wpAny_bind (wpAny_dictEntries ho hdat (wpAny_bind (wpAny_dictEpoch ho hdat ?_))))))))))) (F.args_dict_values_iter_1 _));have Vg:?DA:=rfl;simp only[Vg,ahn,if_false];refine wpAny_newObj_type (wpAny_pure ⟨_,rfl,_,_,⟨_,?de,rfl⟩,ai5.lookup,?_⟩);simpa[rawInt]using hQ
theorem JP(hit:?Px)(hod:?jt=?d)(hdd:?eO)(hx:es[i]?=?gG)
  (hQ:∀h',h'.IsValIter it d ?bf es.size ep->ai3 it s.heap h'->Q (some e.val) ?bw):wpAny ?E A (pyNext ?eA) Q E s:=by
 refine ?QT;unfold pyNext;refine wpAny_bind (wpAny_attempt (wpAny_callSpecial?_slot hit.typeIs ai5
  (wpAny_call_entry ai5 hit.typeIs aoL (wpAny_bind (wpAny_pure (wpAny_bind (?du)))) (aoC _))))
 first|refine wpAny_bind (wpAny_typeNameOfWhole_valiter hit.typeIs (?bx))|refine wpAny_bind (wpAny_typeNameOf_valiter hit.typeIs (?bx))
 refine ?Pc;have Vg:?DA:=?H
 simp only[if_false];show wpAny _ _ (if ?xQ then _ else _) _ _ s;rw[if_neg (show¬(?xQ)from ago)];refine ?MR;rw[if_neg ?i];refine ?MW;rw[if_neg ?i];refine ?bx;obtain⟨aif,hval⟩:=akH.mp hx;simp only[alz,Array.getElem?_eq_getElem aif];refine ?du;first|refine wpAny_bind (wpAny_typeNameOfWhole_valiter hit.typeIs (?bx))|rfl
 refine wpAny_bind (wpAny_isOneOf_valiter hit.typeIs ?_);show wpAny _ _ (setField ?eA 1 _>>=_) _ _ s;refine wpAny_bind (wpAny_setField ho hd ?i ?_);have LP:(s.heap.update it (al9 (?kN 1 (rawInt (?lE+1))))).IsValIter it d ?bf es.size ep:=
  ⟨_,?SC,(arS ..).trans hc,by rw[amj hd];simp[rawInt]⟩
 refine wpAny_bind (wpAny_holding (wpAny_bind (wpAny_isOneOf_valiter LP.typeIs (wpAny_bind (wpAny_isOneOf_valiter LP.typeIs ?_)))));show wpAny _ _ (pure es[i].val) _ _ _;rw[hval];exact wpAny_pure (wpAny_pure ⟨_,rfl,wpAny_pure (hQ _ LP ?vg)⟩)
theorem Bl(hh:?eW)(hit:?Px)(hod:?jt=?d)(hdd:?eO)(hge:es.size<=i)
  (hQ:∀h',?SX->Q none ?bw):wpAny ?E A (pyNext ?eA) Q E s:=by
 refine ?QT;unfold pyNext;refine wpAny_bind (wpAny_attempt (wpAny_callSpecial?_slot hit.typeIs ai5
  (wpAny_call_entry ai5 hit.typeIs aoL (wpAny_bind (wpAny_pure (wpAny_bind (?du)))) (aoC _))))
 first|refine wpAny_bind (wpAny_typeNameOfWhole_valiter hit.typeIs (?bx))|rfl
 refine ?Pc;have Vg:?DA:=?H
 simp only[if_false];show wpAny _ _ (if ?xQ then _ else _) _ _ s;rw[if_neg (show¬(?xQ)from ago)];refine ?MR;rw[if_neg ?i];refine ?MW;rw[if_neg ?i];refine ?bx;simp only[alz,aqx hge];refine ?du;first|refine wpAny_bind (wpAny_typeNameOfWhole_valiter hit.typeIs (?bx))|refine wpAny_bind (wpAny_typeNameOf_valiter hit.typeIs (?bx))
 show wpAny _ _ (setField _ 0 ?P>>=_) _ _ s;refine wpAny_bind (wpAny_setField ho hd ?i ?_);show ?Kk;refine ?du;simp only[newExc];refine wpAny_bind (wpAny_newObj_type (wpAny_bind (wpAny_of_eq (a:=ajC) (?H) (wpAny_newObj_type ?_ ?yC))) ?yC);simp only[raiseNew];refine ?DF;rw[?Ql];refine wpAny_bind (wpAny_pure (wpAny_throw ?_));exact wpAny_bind (wpAny_isInstance ⟨_,?de,rfl⟩ isSubtype_stop (wpAny_pure (hQ _ ?PG)))
#where
def Itg(d:Addr)(o:Obj)(vs:?B):It:=⟨λi H=>(∃u,H d=?gV)/\?KT,λi H x H'=>H'=H/\vs[i]?=?F,λi H=>(∃u,H d=?gV)/\vs.length<=i⟩
theorem ML{K}{ep}(hdat:?eO)(rv:Vals vs (?EA)):
  Turn P w K tg (Itg d o vs) [it] it (λi h=>h.IsValIter it d i es.size ep)where
 mem:=?J
 obj:=λi h st b hb=>by
  have e:b=it:=?ds
  rw[e];exact aG st λoi e c dd=>⟨oi,e,λv z=>by rw[dd]at z;simp at z⟩
 keep:=λi h h' st k=>let⟨oi,e,r⟩:=st;⟨oi,k it ?i oi e,r⟩
 item:=by
  show ?dU;show ?ej;obtain⟨⟨u,hd⟩,hi⟩:=hg;refine fO (hf it ?i) ?gc;have QH:?jt=?d:=?HJ;obtain⟨v,hv,ru⟩:=rv.get (aft hi);rw[ad0]at hv;cases he:es.toList[i]? with
  |none=>rw[he]at hv;simp at hv
  |some en=>
   rw[he]at hv;have hv:en.val=v:=afE hv;subst hv;refine JP st QH hdat (by rw[<-amG];exact he) ?yx;have I1:Inv X pins σ H ?bw:=I.turned (λb ob hb e=>?Gz e) f0 f1 f3 f4 f5;exact aG ?vm λoi e c dd=>⟨en.val,rfl,zM e c dd (?H) ⟨_,H,I1,ru,⟨rfl,aft hi⟩,vR,?oI⟩⟩
 done:=by show ?dU;show ?ej;obtain⟨⟨u,hd⟩,hi⟩:=hg;refine fO (hf it ?i) ?gc;have QH:?jt=?d:=?HJ;show ?ua;refine Bl ?cL st QH hdat (by simp at hl;lia) λh' eb=>⟨rfl,I.turned (λb ob hb e=>eb b ob hb e) f0 f1 f3 f4 f5⟩
 self:=λA i s Q E st h=>wpAny_pyIter_valiter st h
def SV:PV->Rs (?e)
 |.E4 l=>.ok l
 |_=>.bad
abbrev iG(ge:GE):GS:=λenv=>?nP>>=SV
theorem MM{tg}{ge:GE}{apos cpos}(he:?hV)(hbase:attributeBase e "values" X.env (?ea)=?ea:=by rfl)(hline:?iX:=by rfl):
  PI X tg (?I (?aq e "values" apos) [] [] cpos) (yY X.K E (iG ge)):=by
 show ?Sb;have h2:tP X.K E ge σ H λx H1=>∃d o u vs,x=?ce/\H1 d=?gV/\Dh d o vs/\R (Itg d o vs) H1:=by
  refine⟨G,env,sm,er,?_⟩;have h:L9 X.K E (?nP>>=SV) G H R:=h;cases e1:?nP with
  |ok p=>
   rw[e1]at h;intro G1 H1 v ex rv;cases rv with
   |E4 hd ok r=>
    refine⟨_,_,_,_,rfl,ex.gh _ _ hd,ok,h G1 H1 _ ex λi G2 H2 s1 s2=>⟨λp hp=>(ag (r.get hp) λu g1 g2=>⟨⟨?Sd,(aeH.mp g1).1⟩,?zH⟩),λhi=>⟨?Sd,by show ?kj;exact ang hi.symm⟩⟩⟩;show ?ty;rw[g1]at y;cases y;exact⟨G2,?LN,g2.mono s1⟩
   |_=>show ?am
  |ex n=>rw[e1]at h;exact h
  |bad=>rw[e1]at h;exact h
 refine wpAny_Call_method hbase rfl hline F.plainAttrs_dict arD F.type_dict_values (ck ?TG λv s1⟨x,H1,I1,rx,d,o,u,vs,ex,hd,ok,q⟩=>?_);subst ex;obtain rfl:v=afZ d:=rx;refine vO ok λhs hz es ep hc hdat rv=>?_;have QH:s1.heap.get? d=?d:=(I1.bq d _ hd).1;have hT:s1.TypeIs (?ce) ?gD:=⟨o,QH,hc.1⟩;refine⟨hT,?uG,?_⟩
 ·cases q;exact⟨o,QH,hc.2.1⟩
 have I2:Inv X pins σ H1 {s1 with heap:=s1.heap.push {cls:=?n ?Jl,data:=?aO #[?ce]}}:=I1.kept λb ob q=>?eE;have fin:wpAny ?K X.A (pyIter (.ref s1.heap.objs.size)) ?xd X.xe {s1 with heap:=s1.heap.push {cls:=?n ?Jl,data:=?aO #[?ce]}}:=
  Bk ?gb (aba _ QH) hdat (A6 I2 _ (ML hdat rv) ?gb q)
 show wpAny _ _ (callWith cpos (?U "dict.values") [?ce] [] []) _ X.xe s1;exact method_meetsIn arD F.entry_dict_values rfl (apo ⟨rfl,hT,F.args_dict_values_1 _,_,((.of_wp λA R s⟨hT,h⟩=>by refine wpAny_bind (wpAny_bind (wpAny_notOrdered_dict hT (?bx)));unfold Builtin.Dict.showsAll;rw[if_neg (by rw[hs];exact ago)];exact wpAny_bind (wpAny_pure (wpAny_bind (wpAny_newObj_type (wpAny_pure ?tz)))):MeetsIn X.prog X.w (Builtin.«dict.values» ⟨[?ce],[]⟩) (λ_ R s=>s.TypeIs (?ce) ?gD/\R (.ok (.ret (?bT))) {s with heap:=s.heap.push {cls:=?n ?Jl,data:=?aO #[?ce]}}))),hT,fin⟩)
def aM:?e->?k
 |[.E4 l]=>?kD
 |l=>Zz l
def SW(K:aaU):?bD:=λxs H Q=>UP K xs H Q\/∃d o u vs,xs=[?ce]/\H d=?gV/\Dh d o vs/\Q (.int vs.length) H
theorem QJ:eJ X (?U ?dG) (SW X.K):=by
 refine UQ.or λpins s σ H xs us Q I r h=>Cv h λd o u vs abc hd abd q=>?_;clear h;subst abc;refine vO abd λhs hz es ep hc hdat rv=>ag ?iy λv abe rx=>?_;subst abe;cases rx;have QH:?jt=?d:=?HJ;have hl:vs.length=es.size:=by have:=rv.length;show ?fD
 exact JO hs QH hc hdat (by rw[sizeLine_eq]at hz;lia) (⟨?bB,H,?cG,⟨_,by rw[hl]⟩,q⟩)
theorem abf{K}:kj K E (SW K) aM:=by
 intro G H vs ps Q s r h;unfold aM at h;show ?ao
 ·refine ag r.one λu abg ru=>?_;rw[abg];cases ru with
  |E4 hd ok rl=>exact .inr ⟨_,_,_,_,rfl,s _ _ hd,ok,by rw[rl.length];exact ?fZ⟩
 ·exact .inl ((show kj K E (UP K) Zz from by
   refineλG H vs ps Q s r h=>bI ?hB λu p abh alF ru h=>?_;rw[abh];rcases p with _|_|_|x|l|l|_|_|_|_
   case tup=>
    refine ah ru.yW λa xs abi ha rl=>?_
    subst abi
    exact .inl ⟨_,_,rfl,.inr (bF s ha),by rw[rl.length];exact ?fZ⟩
   case lst=>
    refine ah ru.FO λa xs abj ha rl=>?_
    subst abj
    exact .inl ⟨_,_,rfl,.inl (?pl),by rw[rl.length];exact ?fZ⟩
   case str=>
    obtain rfl:=ru.KW
    show ?mt
    exact .inr ⟨_,rfl,hz,?fZ⟩
   show ?cB) G H _ ps Q s r h)
set_option backward.match.sparseCases false
def F9(ps:?gh)(k:Key)(v:PV):?gh:=if(ps.any ?gP)=true then ps.map (?Dr)else ps++[(k,v)]
theorem dQ.any{K}{G}k:∀{kvs}{ps},?kT->(kvs.any ?gP)=ps.any ?gP
 |_,_,.nil=>rfl
 |_,_,?p _ r=>by simp only[amU,dQ.any k r]
theorem dQ.FH{K}{G}k(h:?av):∀{kvs}{ps},?kT->dQ K G (kvs.map ?Dr) (ps.map λkv=>if kv.1=k then(kv.1,p)else kv)
 |_,_,.nil=>.nil
 |_,_,?p (n:=n) h0 r=>by
  rw[abL,abL];by_cases e:n=k
  ·rw[?qK,?qK];exact ?p h (dQ.FH k h r)
  ·rw[?qL,?qL];exact ?p h0 (dQ.FH k h r)
theorem dQ.snoc{K}{G}(h:?av):∀{kvs}{ps},?kT->dQ K G (kvs++[(k,v)]) (ps++[(k,p)])
 |_,_,.nil=>?p h .nil
 |_,_,?p h0 r=>?p h0 (dQ.snoc h r)
theorem dQ.length{K}{G}:∀{kvs}{ps},?kT->kvs.length=ps.length
 |_,_,.nil=>rfl
 |_,_,?p _ r=>by simp only[ad2,dQ.length r]
theorem Dy ps k v:(F9 ps k v).length<=ps.length+1:=by
 unfold F9;split
 ·simp
 ·simp
structure OD(K:aaU)(G0 H0 G H:Hp)(σ:L2.St)(di:Nat)(env:gZ)(d:Addr)(ps:?gh):Prop where
 gg:aj G0 G
 gh:?aP
 hh:?rg
 new:∀a o,G a=?d->G0 a=?d\/?iA
 len:env.length=σ.length
 er:?fa
 at_:σ[di]?=some (some (?ce))
 no:env[di]?=?cv
 gd:G d=none
 hd0:H0 d=none
 hd:∃kvs,H d=some ?ei/\?kT
def putL(gk gv:GE)(t:Nat):?e->gZ->?gh->Rs (gZ×?gh)
 |[],env,ps=>.ok (env,ps)
 |p::r,env,ps=>gv (env.set t (?Y))>>=λv=>gk (env.set t (?Y))>>=λq=>match keyOf q with
  |?as=>putL gk gv t r (env.set t (?Y)) (F9 ps k v)
  |none=>.bad
theorem OD.grow{K}(o:?DG)(ex:?hc):OD K G0 H0 G' H' σ di env d ps:=by
 refine ag o.hd λkvs h1 h2=>⟨o.gg.trans ex.gg,ex.gh,o.hh.trans ex.hh,λa u q=>?_,o.len,o.er.mono ex.gg,o.at_,o.no,ja ex o.gd h1,o.hd0,kvs,ex.hh _ _ h1,h2.mono ex.gg⟩;rcases ex.new a u q with z|z
 ·exact o.new a u z
 ·exact .inr (o.hh.free z)
theorem Ih{K}{gi:GS}(o:?DG)(hne:t≠di)(hi:?ke=.ok L)(hl:putL gk gv t L env ps=?AH)(hz:?XX<sizeLine)
  (k:∀G' H' σ',OD K G0 H0 G' H' σ' di jq d MN->D.nx σ' H'):CI (yY K E gi) (cP t) (HH (bj di) (tP K E gk) (tP K E gv)) D σ H:=by
 refine⟨G,env,o.gh,o.er,?_⟩;rw[hi];refineλG1 H1 J ex UN=>⟨λi m σ H=>m=L.length-i/\i<=L.length/\∃G env ps,?nJ/\?DG/\putL gk gv t (L.drop i) env ps=?AH/\ps.length+(L.length-i)<sizeLine,⟨L.length,?J,?bg,G1,env,ps,?bv,o.grow ex,hl,?YW⟩,(λi m σ2 H2 SX=>Jf SX λabl hi2 G2 env2 O_ s1 o2 e2 z2=>?_)⟩;clear SX;subst abl;obtain⟨UO,wW⟩:=UN i G2 H2 s1 o2.gh;by_cases hlt:i<L.length
 ·have ep:L[i]?=some L[i]:=aft hlt;obtain⟨go,Ht⟩:=UO _ ep;have abm:L.drop i=L[i]::L.drop ?bf:=(alY ..).symm;rw[abm]at e2;unfold putL at e2;refine ag (kl e2) λv q1 e2=>ag (kl e2) λq q2 e2=>?_;split at e2;case h_2=>simp at e2
  rename_i key ek;refine .inr ⟨go,λσ' H'=>∃G env ps,?nJ/\OD K G0 H0 G H' σ' di env d ps/\putL gk gv t (L.drop ?bf) env ps=?AH/\ps.length+(L.length-?bf)<sizeLine,λσ' H' z=>⟨L.length-?bf,?M,rfl,hlt,z⟩,λx H3 y=>(ag (Ht x H3 y) λG3 ex3 rx=>?_)⟩;have o3:=o2.grow ex3;have hσ:(σ2.set t (?F))[di]?=?UI:=by rw[afB hne];exact o3.at_
  have er4:gA K G3 (σ2.set t (?F)) (?wE):=wR t o3.er (by rw[o3.len];exact ?cs) rx;show tP K E gv (σ2.set t (?F)) H3 _;refine⟨G3,?wE,ex3.gh,er4,?_⟩;rw[q1];refineλG4 H4 vv Cr rv=>⟨?ce,hσ,G4,?wE,Cr.gh,er4.mono Cr.gg,?_⟩;simp only[q2];intro G5 H5 qq K2 rq;have ey:=Bi rq ek;subst ey;have o5:=(o3.grow Cr).grow K2;refine ag o5.hd λkvs h1 h2=>?_;have hlk:=h2.length;refine⟨d,_,rfl,LK.k h1 ?a,G5,?wE,F9 O_ key v,(?TC Cr.gg).trans K2.gg,⟨o5.gg,λa u z=>?_,λa u z=>?_,o5.new,by simp only[alI];exact o3.len,(er4.mono Cr.gg).mono K2.gg,hσ,by rw[afB hne];exact o3.no,o5.gd,o5.hd0,_,aa,(by
    unfold putK F9;rw[h2.any key];split
    ·exact h2.FH key (rv.mono K2.gg)
    ·exact h2.snoc (rv.mono K2.gg))⟩,e2,?_⟩
  ·rw[ae (λe=>by rw[e,o5.gd]at z;simp at z)];exact o5.gh _ _ z
  ·rw[ae (λe=>by rw[e,o5.hd0]at z;exact nn z)];exact o5.hh _ _ z
  ·have:=Dy O_ key v;lia
 ·have ei:i=L.length:=?M
  subst ei;rw[anN]at e2;unfold putL at e2;have e3:(env2,O_)=(jq,MN):=?sp e2;cases(e3);exact .inl ⟨wW rfl,k G2 H2 σ2 o2⟩
def Af(gi1:GS)(gk1 SY:GE)(gi2:GS)(gk2 Vh ge:GE):?e->?k
 |[p]=>match gi1 [?Y,none,none,none]with
  |.ok L1=>match putL gk1 SY 2 L1 [?Y,none,none,none] []with
   |.ok (dt,ps1)=>match gi2 dt with
    |.ok L2=>match putL gk2 Vh 3 L2 dt ps1 with
     |.ok (env2,O_)=>if L1.length+L2.length<sizeLine then ?QB else .bad
     |_=>.bad
    |_=>.bad
   |_=>.bad
  |_=>.bad
 |_=>.bad
abbrev S0(K:aaU)(E:XK)(gi1:GS)(gk1 SY:GE)(gi2:GS)(gk2 Vh ge:GE):TS:=dN (oX Uw ?rB) (dN (CI (yY K E gi1) ?lQ (HH ?gE (tP K E gk1) (tP K E SY))) (dN (CI (yY K E gi2) (cP 3) (HH ?gE (tP K E gk2) (tP K E Vh))) (oW (tP K E ge))))
theorem Vi{K}(hN:N.length=4)(h:Qa K (Af gi1 gk1 SY gi2 gk2 Vh ge) vs H Q E):S0 K E gi1 gk1 SY gi2 gk2 Vh ge ?hR ?ym H:=by
 show ?Hk;unfold Af at h;show ?ao;case h_2=>show ?am
 rename_i p;refine ag r.one λv abn rv=>?_;subst abn;show ?ao;case h_2=>show ?am
 rename_i L1 e1;show ?ao;case h_2=>show ?am
 rename_i dt ps1 e2;show ?ao;case h_2=>show ?am
 rename_i L2' e3;show ?ao;case h_2=>show ?am
 rename_i env2 O_ e4;show ?ao;case isFalse=>show ?am
 rename_i hz;have hl1:=((show∀{L}{env jq}{ps MN},putL gk1 SY 2 L env ps=?AH->MN.length<=?XX from by
    intro L;induction L with
    |nil=>intro env jq ps MN h;cases ?sp h;simp
    |cons p r ih=>
     intro env jq ps MN h;refine ag (kl h) λv _ h=>ag (kl h) λq _ h=>?_;show ?ao
     ·rename_i k _;have:=ih h;have:=Dy ps k v;simp only[ad2];lia
     ·show ?aR) e2)
 intro d hd;have gd0:G0 d=none:=by
  cases q:G0 d with
  |none=>rfl
  |some o=>rw[s0 _ _ q]at hd;exact nomatch hd
 have est:L2.start N [v]=[?V,none,none,none]:=by unfold L2.start;rw[hN];rfl
 simp only[est];have o0:OD K G0 H G0 (upd H d (.dK [])) [?V,some (?ce),none,none] 1 [?Y,none,none,none] d []:=by
  refine⟨?bv,?Ld,?Ld,λa o q=>.inl q,rfl,?_,rfl,rfl,gd0,hd,[],aa,.nil⟩
  ·rw[ae (λe=>by rw[e,gd0]at q;exact nn q)];exact s0 _ _ q
  ·rw[ae (λe=>by rw[e,hd]at q;exact nn q)];exact q
  ·intro i q e;match i,e with
   |0,e=>cases e;exact⟨v,rfl,rv⟩
   |1,e=>cases e
   |2,e=>cases e
   |3,e=>cases e
   |n+4,e=>show ?er
 refine Ih o0 (?c) e1 e2 ?aj λG1 H1 σ1 o1=>Ih o1 (?c) e3 e4 (by simp at hl1;lia) λG2 H2 σ2 o2=>ag o2.hd λkvs k1 k2=>?_;have sg:aj G2 (upd G2 d ?ei):=λb o q=>by rw[ae (λe=>by rw[e,o2.gd]at q;exact nn q)];exact q
 have sh:aj (upd G2 d ?ei) H2:=λb o q=>by
  by_cases e:b=d
  ·cases e;rw[aa]at q;cases q;exact k1
  ·rw[ae e]at q;exact o2.gh _ _ q
 have ex:Ex G0 H _ H2:=⟨o2.gg.trans sg,sh,o2.hh,λa u q=>by
  by_cases e:a=d
  ·rw[e];exact .inr hd
  ·rw[ae e]at q;exact o2.new a u q⟩
 refine⟨upd G2 d ?ei,_,sh,λi q e=>?_,?zc⟩;by_cases hi:1=i
 ·subst hi;have hlt:1<env2.length:=(aeH.mp o2.no).1;rw[ag2 hlt]at e;cases e;exact⟨?ce,o2.at_,.vf ?lh (k2.mono sg)⟩
 ·rw[afB hi]at e;exact ag (o2.er i q e) λu a1 a2=>⟨u,a1,a2.mono sg⟩
set_option backward.match.sparseCases true
section
def QE(X:Cx)(e:Expr)(t:TE):Prop:=∀pins s(σ:L2.St)H Q,?uJ->?r->?hy->wpAny ?K X.A (?ea) ?Ox X.xe s
def DE(X:Cx)(e:Expr)(t:TE):Prop:=∀pins s(σ:L2.St)H Q,?r->?hy->wpAny ?K X.A (?ea) ?Ox X.xe s
def DT(X:Cx)(e:Expr)(t:TT):Prop:=∀pins s(σ:L2.St)H Q,?r->?hy->wpAny ?K X.A (isTrue e X.env (?ea)) (λv s'=>?LP/\TP X pins σ Q v s') X.xe s
def DS(X:Cx)(st:Stmt)(t:TS):Prop:=∀pins s(σ:L2.St)H D,?r->?nw->wpAny ?K X.A ?Hx (λf s'=>?LP/\SP X pins D f s') X.xe s
def QS(X:Cx)(st:Stmt)(t:TS):Prop:=∀pins s(σ:L2.St)H D,?uJ->?r->?nw->wpAny ?K X.A ?Hx ?zf X.xe s
def QSs(X:Cx)(st:?uB)(t:TS):Prop:=∀pins s(σ:L2.St)H D,?uJ->?r->?nw->wpAny ?K X.A (execs st X.env) ?zf X.xe s
def QI(X:Cx)(tg iter:Expr)(wi:TI):Prop:=∀pins s(σ:L2.St)H R,?uJ->?r->wi σ H R->
 wpAny ?K X.A ?xH (λv s1=>wpAny ?K X.A (pyIter v) ?xd X.xe s1) X.xe s
theorem uI(hn:?uJ)(h:?YB):wpAny M A t (λa s'=>?LP/\Q a s') E s:=
 wpAny_mono (wpAny_toks_of hn h) (?LT) λ_ _ x=>x.2
theorem QE.of(h:?Ca):QE X e t:=λpins s σ H Q ht I q=>uI ht (h _ s σ H Q I q)
def Vj:?e->?k
 |[?cx]=>?kD
 |_=>.bad
theorem Vk{gs:GS}{p pos}(hg:Gl X ?dG)(hm:X.mg ?dG=none)(ha:PA X [e] ?cD)(he:?oR=?kA::?eQ:=by rfl)(hpl:(backTo pos (?eQ)).any ?aT=false:=by rfl):
  DE X (?I (?o ?dG p) [e] [] pos) (tP X.K E (cF gs Vj)):=by
 refineλpins s σ H Q I h=>wpAny_Call_Name_kw (i9 I hg hm aml ?_ (?c) (?H));have h2:=pk (r:=λvs H1 Q=>∃q ys,vs=[.ref q]/\cW X.K H1 q ys/\Q (?pj) H1) (λG H vs ps Q s r h=>by
  delta Vj at h;show ?ao
  ·refine ag r.one λu abo ru=>?_;rw[abo];cases ru with
   |lst hq rl=>exact⟨_,_,rfl,.inl (aV s hq),by rw[rl.length];exact ?fZ⟩
  ·show ?am) h
 refine aoS (ck (ha _ _ s σ H _ I h2) λus s1⟨vs,H1,I1,r1,q,ys,ev,hq,qq⟩=>?_) he hpl;subst ev;refine ag (vals1 r1) λu abp rx=>?_;rw[abp];cases rx;have hn:=sJ;refine aG ?px ?sy;show ?pp;exact arb pl.isList (by simp<;>lia) ⟨?M,?bB,H1,?Cp,⟨_,?HD⟩,qq⟩
theorem Vl(ho:?se)(ha:DE X a ta)(hb:?nc)(hm:?ja):DT X ?mc (uz ?tB):=by
 refineλpins s σ H Q I h=>wpAny_isTrue_Compare1 (ck ?fx λv s1 ?VI=>ck (uI k1 ?EK) λu s2⟨k2,y,H2,I2,r2,q2⟩=>
  ck (uI k2 (ho _ _ σ _ x y v u _ I2 r1 r2 q2)) λc s3⟨k3,z,H3,I3,r3,k,e,q3⟩=>?_) hm
 subst e;cases r3;exact wpAny_truthy_bool ⟨k3,H3,I3,q3⟩
theorem abq(hc:DT X c tc)(ha:oj X a t)(hb:oj X b u):DS X ?Hz (qA tc t u):=by
 refineλpins s σ H D I h=>wpAny_If (ck ?Fu λd s1⟨k1,H1,I1,q1⟩=>?_);cases d with
 |true=>exact uI k1 (?Wj)
 |false=>exact uI k1 (?Wk)
theorem JQ{st}{rest}(h1:DS X st t)(h2:QSs X rest u):oj X ?ue ?Cb:=by
 refineλpins s σ H D I h=>wpAny_execs_cons (ck ?Fv ?VJ);cases f with
 |next=>
  exact ?OE
 |ret v=>exact q
 |brk=>exact q
 |cont=>exact q
theorem MO{st}{rest}(h1:PS X st t)(h2:QSs X rest u):QSs X ?ue ?Cb:=by
 refineλpins s σ H D k I h=>wpAny_execs_cons (ck (uI k ?Fv) ?VJ);cases f with
 |next=>
  exact ?OE
 |ret v=>exact q
 |brk=>exact q
 |cont=>exact q
theorem JR{st}{rest}(h1:QS X st t)(h2:oj X rest u):QSs X ?ue ?Cb:=by
 refineλpins s σ H D k I h=>wpAny_execs_cons (ck (h1 _ s σ H _ k I h) ?JW);cases f with
 |next=>
  exact ?OP
 |ret v=>exact q
 |brk=>exact q
 |cont=>exact q
def MP(to:TE)(y z:Str):TE:=λσ H Q=>to σ H λx H1=>∃a,x=?dC/\(y==z)=false/\a.length+(a.length+1)*z.length<=16777216/\Q (.str (apW a y z)) H1
theorem w_{y z}{j1 j2}{p1 p2 apos cpos}(ho:QE X o to)(hbase:attributeBase o "replace" X.env (?fB)=?fB:=by rfl)(hline:?iX:=by rfl)
  (ht:backTo cpos (starEach [?cu ?qP j1 p1,?cu (?nT) j2 p2] X.env)=[(false,eval (?cu ?qP j1 p1) X.env),(false,eval (?cu (?nT) j2 p2) X.env)]:=by rfl):
  QE X (?I (?aq o "replace" apos) [?cu ?qP j1 p1,?cu (?nT) j2 p2] [] cpos) (MP to y z):=by
 refineλpins s σ H Q k I h=>wpAny_Call_method2_late hbase hline ht (ck ?UJ λv s1⟨k1,x,H1,I1,r1,a,ex,hyz,hz,q⟩=>?_);subst ex;show ?ti;exact⟨_,_,ar9,F.slot_str_replace,F.type_str_replace,typeIs_str _ _ _,(?xT),(akG rfl (anC (akv (apx (akv (apx (anz (uI ?lH (PySem.SC.replace ?a ?a ?a hyz hz λt' kk=>(⟨?cY,H1,?Cp,?ad,q⟩))))))))))⟩
def MQ(to:TE):TE:=λσ H Q=>to σ H λx H1=>∃a,x=?dC/\?Fd/\wH (anM a) H1 Q
theorem MR{apos cpos}(ho:QE X o to)(hbase:attributeBase o "split" X.env (?fB)=?fB:=by rfl)(hline:?iX:=by rfl):
  QE X (?I (?aq o "split" apos) [] [] cpos) (MQ to):=by
 refineλpins s σ H Q k I h=>wpAny_Call_method0_late hbase hline (ck ?UJ λv s1⟨k1,x,H1,I1,r1,a,ex,hz,q⟩=>?_);subst ex;obtain⟨t,rfl⟩:=id r1;exact⟨_,_,ar9,ar4,F.type_str_split,rfl,(?xT),akG rfl (apo (uI k1 (De _ _ σ _ _ [] _ [] Q I1 r1 .nil ⟨a,rfl,rfl,hz,q⟩)))⟩
theorem QK(hl:QE X l tl):QI X tg l (Hu X.K tl):=by
 refineλpins s σ H R k I h=>ck (hl _ s σ H _ k I h) λv s1 ?VI=>aG q1 λa e abr q=>?_;clear q1;obtain⟨xs,hq⟩:=abr;subst e;cases r1;refine aG ?px λaL rv p hz=>wpAny_pyIter_list p.isList (⟨_,_,_,_,H1,rfl,I1.kept ?ib,sI a _,?gb,?hl,q⟩);have e:?xe:=?ds
 subst e;exact I1.AQ ?A (I1.bq.fresh ?A)
theorem Vm(hp:PassesOwn ?K X.A X.env X.xe)(hc:?db)(hi:QI X tg iter wi)(hg:?Bz)(hb:?JX)
  (hs:?kr:=by intro _;rfl):QS X ?DQ (CI wi g tb):=by
 refineλpins s σ H D k I h=>wpAny_For (ck (hi _ s σ H _ k I h) λv s1 h1=>ck h1 λitv s2 h2=>(o_ h2 λit fp tn J H2 e I2 T st2 f2 W abt turn=>?_)) hs;clear h2;obtain⟨m0,w0⟩:=abt;subst e;have stat:∀{H'},?jc->∀b∈fp,?Ii:=?OW;refine codeAny_forLoop_any (λn s'=>∃i σ' H',?YC/\?zN/\?jc/\W i n σ' H') (λn s3 abu=>bB abu ?RO) _ ?Oj;rcases turn i n _ H3 w3 with⟨stop,qn⟩|⟨go,N,hN,step⟩
 ·refine wpAny_passesOwn hp (ck (T.done X rfl rfl rfl hc i pins s3 σ3 H3 X.xe I3 (stat XB) EZ stop) ?Ux);rw[hr];exact ?Pq
 ·refine ?Mo;subst hr;refine ?MY;have I5':=?Pi;refine wpAny_passesOwn hp (ck (hg _ s5 σ3 H5 x u _ I5' r5 (step x H5 y5)) λ_ s6⟨σ6,H6,I6,q6⟩=>(wpAny_passesOwn hp (ck (hb _ s6 σ6 H6 _ I6 q6) λf s7 q7=>?_)));have again:∀{σ7}{H7},Inv X _ _ H7 _->N _ _->∃m,m<n/\∃i σ' H',?Vo/\tn i _/\?jc/\W i m σ' H':=λ{σ7 H7}I7 n7=>ag (hN σ7 H7 n7) λm' hm w7=>⟨m',hm,_,σ7,H7,I7.jF,T.keep _ _ _ wu λb hb o e=>(?vQ).1,λb hb=>(ag ?Wn λo e d=>((?vQ).2.1)),w7⟩;cases f with
  |next=>exact ?vT
  |cont=>exact ?vT
  |brk=>exact ?Ok
  |ret v=>exact ?Nw
#where
theorem mG(c:Gc X.K X.mg x (?en))(hg:?cX)(hd:?bh:=by decide):PE X (?o x pos) (tC (?en)):=by refine ah c.ex λu v h1 h2 h3=>?_;have h4:=h3 ?iz;cases h4;exact Hr hg h1 h2 hd
def MS(K:aaU)(E:XK)(H0:Hp)(n:Int):TS:=λ_ _ H=>?rg/\?Lb
theorem xa{K}{H0}{E}{pos p2 p3}{n}(r:?os)
  (hr:dP k (?aM).A) (hk:3<=k) (hg:Gl (?aM) x:=by rfl) (hdb:?bh:=by decide):
  PS (?aM) (?lP (some (?I (?o x p2) [] [] p3)) none pos) (MS K E H0 n):=
 (Mr r hr hk hg hdb).imp λD σ H⟨s,e⟩=>by
  have no:∀i(z:Slot),(?WM)[i]?=?kd->z=.no:=λi z q=>by rw[ad0]at q;simp_all
  refine⟨?iz,?iz,?iz,?WM,⟨⟨?_,?_,s,?_⟩,?_,by rw[aa_],λi p q=>?_,λi p q=>?_,λi j l l' a q=>?_⟩,e⟩
  ·exactλ_ _ q=>by cases q
  ·exactλ_ _ q=>(nn q)
  ·exactλ_ _ q=>nn q
  ·exactλ_ _ q=>by cases q
  ·cases no i _ q
  ·exact nomatch no i _ q
  ·exact nomatch no i _ q
inductive Bm(K:aaU)(m:Nat)(n:Int)(vs:?B)(H:Hp)(Q:VK)(E:XK):Prop
 |mk (u ls):vs=[?nX]->?Gk->ls.length<sizeLine->(if m<ls.length then ?AS else∀p,?fi->Q .b_ (upd (upd H p ?bu) u (.lst (ls++[?af]))))->Bm K m n vs H Q E
inductive Ii(K:aaU)(n:Int)(vs:?B)(H:Hp)(Q:VK)(E:XK):Prop
 |mk (u ls):vs=[?nX]->?Gk->(((ls.length=1/\?AS)\/∃Pa l l2 ys ys2,ls=Pa++[.ref l2,?ax]/\l≠u/\l2≠u/\H l=some ?BS/\H l2=some (.lst ys2)/\ys2.length<sizeLine/\
 ∀t,H t=none->Q .b_ (upd (upd (upd H u (.lst (Pa++[.ref l2]))) t ?ls) l2 (.lst (ys2++[?dR])))))->Ii K n vs H Q E
def uJ(K:aaU):?bD:=λxs H Q=>∃p ys,xs=[?af]/\(?AC\/?AD)/\Q (?pj) H
theorem lh:eJ X (?U ?dG) (uJ X.K):=qE
def aih:R2:=E1 λi j=>?xw
theorem Bn{K}(hs:?jZ=some (some (?nX)))(hu:?Gk)(hr:∀Q',Q' (.bl c) H->r (.int ls.length) (?en) H Q')(h:Q c H):
 uz (zN r (O4 ?nY (bL (bj i) ee)) (tC (?en))) σ H Q:=⟨_,hs,u,ls,rfl,.inl (cW.of hu),hr _ ⟨c,rfl,h⟩⟩
def abv(K:aaU):?bD:=λxs H Q=>∃p ys,xs=[?af]/\((?AC/\∀l,?ny->Q (?ax) (upd H l ?ls))\/(?AD/\Q (?af) H))
def Vn:R2:=E1 λi j=>.bl (?Ak)
theorem jb:pb X (compareOp .Eq) Vn:=by refineλpins s σ H x y v u Q I rx ry h=>ah h λi j abw abx q=>?_;clear h;subst abw;subst abx;show ?cC;show ?jn;exact eq_int (?jd)
structure qY(K:aaU)(G H0 H:Hp)(u:Addr)(as:?X)(st:List (?e)):Prop where
 hu:H u=some (.lst (?fC))
 gu:G u=none
 h0:H0 u=none
 len:?FH
 at_:∀(i:Nat)(l:Addr),as[i]?=?dS->∃vs ps,st[i]?=some ps/\H l=some ?fF/\?cE/\?qR/\?qs/\l≠u
 nd:as.Nodup
section
theorem qY.grow{K}{st}(h:?FI)(ex:?hc):qY K G' H0 H' u as st:=
 ⟨ex.hh _ _ h.hu,ja ex h.gu h.hu,h.h0,h.len,λi l e=>qx (h.at_ i l e) λvs ps a1 a2 a3 a4 a5 a6=>⟨vs,ps,a1,ex.hh _ _ a2,a3.mono ex.gg,ja ex a4 a2,a5,a6⟩,h.nd⟩
theorem qY.set{K}{st}(h:?FI)(e:as[j]?=?dS)(r:?cE):qY K G H0 (upd H l ?fF) u as (st.set j ps):=by
 refine ah (h.at_ j l e) λ_ _ a1 a2 a3=>⟨by rw[ae (ahI a3.2.2.2)];exact h.hu,h.gu,h.h0,?EB,λi l' e'=>?_,h.nd⟩;by_cases hi:i=j
 ·subst hi;rw[e]at e';cases e';exact⟨vs,ps,ag2 (aeH.mp a1).1,aa,r,a3.2⟩
 ·refine ah (h.at_ i _ e') λvs' MN b1 b2 b3=>?_;have hne:l'≠l:=λz=>hi (by
   subst z;exact(apX (aeH.mp e').1 h.nd).mp (e'.trans e.symm))
  exact⟨vs',MN,by rw[afB (ahI hi)];exact b1,by rw[ae hne];exact b2,b3⟩
theorem aby{α:Type}{as:?aa}(h:as.length=n+1):∃vV l,as=vV++[l]/\vV.length=n:=by
 have hne:as≠[]:=λe=>by simp_all[e]
 exact⟨_,_,(List.dropLast_concat_getLast hne).symm,?W⟩
theorem vW{α:Type}as(l:α):?By[as.length]?=?dS:=by rw[aiU ?A,Nat.sub_self];rfl
theorem qY.top{K}{st}(h:qY K G H0 H u as (st++[a])):∃vV l vs,as=vV++[l]/\vV.length=st.length/\H l=some ?fF/\aI K G vs a/\?qR/\?qs/\l≠u:=by refine bR (aby (by rw[h.len,adW];rfl)) λvV l abz e=>?_;subst abz;refine bR (h.at_ _ l (vW _ l)) λvs ps a1 a2=>?_;simp only[e,vW]at a1;cases a1;exact⟨vV,l,vs,rfl,e,a2⟩
theorem qY.drop{K}{st}(h:qY K G H0 H u ?By (st++[a])):qY K G H0 (upd H u (.lst (?fC))) u as st:=by
 have hl:?FH:=by have:=h.len;simp only[adW]at this;exact apu this
 refine⟨aa,h.gu,h.h0,hl,λi l' e=>?_,(ahL.mp h.nd).1⟩;have hi:=(aeH.mp e).1;obtain⟨vs,ps,a1,a2,a3⟩:=h.at_ i _ (by rw[aiy hi];exact e);rw[aiy (by simp_all[hl])]at a1;exact⟨vs,ps,a1,by rw[ae a3.2.2.2];exact a2,a3⟩
#where
def fh(leaf:PV->?k):?t->List (?e)->Rs (List (?e))
 |[],st=>.ok st
 |p::r,st=>if aiF ?Cs=false then .bad else if(p==("(":Str))=true then(if 40<st.length then ?eC else fh leaf r (st++[[]]))
  else if(p==(")":Str))=true then(if ?Lh then ?eC else match st.reverse with
   |a::b::c=>?MK
   |_=>.bad)
  else leaf ?Cs>>=λx=>match st.reverse with
   |a::c=>if a.length<sizeLine then fh leaf r (c.reverse++[a++[x]])else .bad
   |[]=>.bad
theorem aii{α:Type}{st}{a b:α}{c}(h:st.reverse=a::b::c):st=c.reverse++[b,a]:=?W
def F_(K:aaU)(E:XK)(leaf:?e->?k):TS:=
 qA (j_ K E (bV (c2 ?G ?h (cK (.str "("))))) (mC (kY (Bm K 40 (-1)) [] E ?kP))
  (qA (j_ K E (bV (c2 ?G ?h (cK (.str ")"))))) (mC (kY (Ii K (-1)) [] E ?kP))
   (mC (Px K ?aC lO (zN (Fz K) ?gE (tUn ?xf (tC ?nr))) (pj K E (c1 (cF (c1 ?h c0) leaf) c0)))))
theorem abA(hx:aiF ?ag=true):A9 ?ag=some ?ag:=if_pos (by unfold anh;rw[hx];rfl)
theorem eqS(hx:aiF ?ag=true)(hy:aiF ?qP=true):bz false ?ag ?qP=.ok (.bl (x==y)):=by unfold bz;rw[abA hx,abA hy];rfl
structure Dz(K:aaU)(G0 H0:Hp)(a u:Addr)(L:?B)(σ:L2.St)(H G:Hp)(as:?X)(st:List (?e)):Prop where
 g0:aj G0 G
 gh:?aP
 hh:?rg
 new:∀c o,G c=?d->G0 c=?d\/H0 c=none
 ha:Rd G a (.lst L)
 sk:?FI
 s1:?nW=some (some (V.ref u))
 sl:σ.length=3
 ne:st≠[]
def sW(K:aaU)(E:XK)(G0 H0:Hp)(a u:Addr)(L:?B)(D:Ends)(r:Rs (List (?e))):Prop:=Fi r (λst=>∀G H σ as,?rW->?uC) λn=>?Lb
def RdN(K:aaU)(E:XK)(G0 H0:Hp)(a u:Addr)(L:?B)(D:Ends)(leaf:PV->?k)(r:?t)(σ:L2.St)(H:Hp):Prop:=∃G as st,?rW/\st.length+r.length<sizeLine/\sW K E G0 H0 a u L D (fh leaf r st)
section
theorem Dz.ex{K}{st}(I:?rW)(e:?hc):Dz K G0 H0 a u L σ H' G' as st:=⟨I.g0.trans e.gg,e.gh,I.hh.trans e.hh,sQ I.new I.hh e,aV e.gg I.ha,I.sk.grow e,I.s1,I.sl,I.ne⟩
theorem Dz.add{K}{st}(I:?On)(e:?FH)(rb:aI K G ys b)(rv:?AG)(gl:?qR)(h0:?qs):Dz K G0 H0 a u L σ ?Se G ?By (st++[b++[x]]):=
 ⟨I.g0,au I.gh gl,au I.hh h0,I.new,I.ha,(by have:=(I.sk).set (vW _ l) (rb.append (?p rv .nil));simp_all),I.s1,I.sl,?HK⟩
theorem Dz.pop{K}{st}(I:?On)(ne:st≠[]):Dz K G0 H0 a u L σ (upd H u (.lst (?fC))) G as st:=
 ⟨I.g0,au I.gh I.sk.gu,au I.hh I.sk.h0,I.new,I.ha,I.sk.drop,I.s1,I.sl,ne⟩
theorem MT{K}{st}(I:?rW)(hz:?Qn)
  (h:sW K E G0 H0 a u L D (if ?Lh then ?eC else match st.reverse with
   |a::b::c=>?MK
   |_=>.bad)):Ii K (-1) [?nX] H (λ_=>RdN K E G0 H0 a u L D leaf r σ) E:=by
 have aij:(?fC).length=st.length:=?SE
 refine⟨u,_,rfl,I.sk.hu,?_⟩;by_cases c3:?Lh
 ·rw[if_pos c3]at h;exact .inl ⟨aij.trans c3,sA.mono h I.hh⟩
 ·rw[if_neg c3]at h;rcases hr:st.reverse with _|⟨a',_|⟨b,c⟩⟩
  ·rw[hr]at h;show ?am
  ·rw[hr]at h;show ?am
  ·rw[hr]at h;obtain⟨hb,h⟩:=a_ h;obtain rfl:=aii hr;have ediv:c.reverse++[b,a']=(?za)++[a']:=by rw[akJ];rfl
   rw[ediv]at I hz;refine lH I.sk.top λas1 l ys abC e1 x2 x3 x4 x5 x6=>?_;subst abC;have J:=I.pop (?HK);refine lH J.sk.top λvV l2 ys2 abD e2 y2 y3 y4 y5 y6=>?_;subst abD;rw[ae y6]at y2;rw[afU,afU]at*;refine .inr ⟨_,l,l2,ys,ys2,by rw[akJ];rfl,x6,y6,x2,y2,by rw[y3.length];exact hb,?qb⟩;have tu:t≠u:=λe=>by have:=I.sk.hu;rw[<-e,ht]at this;show ?iT
   have Ga:=Ex.laid (o:=.tup ys) J.gh (by rw[ae tu];exact ht);have rt:Rep K _ _ _:=.tup ?Bc (x3.mono Ga.gg);refine⟨_,_,_,(J.ex Ga).add e2 (y3.mono Ga.gg) rt (by rw[ae (λe=>by rw[e,ht]at y2;exact nn y2)];exact y4) y5,?_,h⟩;rw[adW,adW]at hz;rw[adW];exact akw (anZ ?jU _) (akw (Nat.add_le_add_right ?jU _) hz)
theorem QL{K}{c:List (?e)}(J:Dz K G0 H0 a u L σ H G (vV++[l]) (?za))(e2:vV.length=c.reverse.length)(x3:aI K G ys b)(x4:?qR)(x5:?qs)(rv:?AG)(hz:(?za).length+(r.length+1)<sizeLine)
  (h:sW K E G0 H0 a u L D (fh leaf r (c.reverse++[b++[x]]))):RdN K E G0 H0 a u L D leaf r σ ?Se:=by
 refine⟨_,_,_,J.add e2 x3 rv x4 x5,?_,h⟩;rw[adW]at hz⊢;exact akw (anZ ?jU _) hz
#where
theorem EZ{σ:L2.St}(h1:?nW=some (?F))(h:σ.length=3):(σ.set 2 v)[1]?=some (?F)/\(σ.set 2 v)[2]?=?V/\(σ.set 2 v).length=3:=by grind
theorem Vo{K}(h:?Rl):gA K G σ [none,none,some ?Cs]:=λj z e=>by
 rcases j with _|_|_|j
 ·cases e
 ·cases e
 ·cases e;exact⟨_,h,.str p⟩
 ·show ?er
theorem CW as(l:α):zU ?By (-1)=?dS:=by unfold zU;rw[show HD _ _=some as.length by unfold HD;simp;lia];exact vW _ l
theorem MU{K}{st}(I:?rW)(q2:?Rl)(hz:?Qn)
  (h:sW K E G0 H0 a u L D (fh ?sL (p::r) st)):F_ K E leaf {D with nx:=RdN K E G0 H0 a u L D ?sL r,ct:=RdN K E G0 H0 a u L D ?sL r,bk:=D.nx} σ H:=by
 have h:sW K E G0 H0 a u L D (if aiF _=false then .bad else _):=h;rcases hp:aiF _ with _|_
 ·rw[if_pos hp]at h;show ?am
 rw[if_neg (by rw[hp];exact anP)]at h;refine⟨G,_,I.gh,Vo q2,?_⟩;show uG K E (bz false ?Cs _>>=zZ) G H _;rw[eqS hp ?ak];intro G3 H3 ex3;have I3:=I.ex ex3;rcases c1:(p==("(":Str))with _|_
 ·rw[if_neg (by rw[c1];exact anP)]at h;refine yU ⟨G3,_,I3.gh,Vo q2,?_⟩;show uG K E (bz false _ _>>=zZ) G3 H3 _;rw[eqS hp ?ak];intro G4 H4 Cr;have I4:=I3.ex Cr;rcases c2:(p==(")":Str))with _|_
  ·rw[if_neg (by rw[c2];exact anP)]at h;rcases hr:st.reverse with _|⟨b,c⟩
   ·exact absurd (List.reverse_eq_nil_iff.mp hr) I.ne
   obtain rfl:=(show st=?za from ?W);rw[hr]at h;refine lH I4.sk.top λvV l ys abE e2 x2 x3 x4 x5 x6=>?_;subst abE;refine yU ⟨_,I.s1,⟨1,rfl,u,_,-1,?ax,rfl,rfl,cW.of I4.sk.hu,by rw[afU];exact CW _ _,.inl ⟨rfl,ys,cW.of x2⟩,G4,_,I4.gh,Vo q2,?_⟩⟩;show Sl K E _ G4 _ _;refine Fi.bnd h (λx h G5 H5 vs K2 rvs=>?_) λ_ h=>sA.mono h I4.hh;obtain⟨hb,h⟩:=a_ h;refine ag rvs.one λv abF rv=>?_;rw[abF];exact⟨l,ys,v,rfl,rfl,K2.hh _ _ x2,by rw[x3.length];exact hb,QL (I4.ex K2) e2 (x3.mono K2.gg) (ja K2 x4 x2) x5 rv hz h⟩
  ·rw[if_pos c2]at h;exact wI ⟨_,I.s1,MT I4 hz h⟩
 ·rw[if_pos c1]at h;refine wI ⟨_,I.s1,u,_,rfl,I3.sk.hu,?_,?_⟩
  ·rw[aa_,I.sk.len];exact akw (?vp) hz
  rw[aa_,I.sk.len];by_cases c2:40<st.length
  ·rw[if_pos c2]at h⊢;exact sA.mono h I3.hh
  ·rw[if_neg c2]at h⊢;exactλq WY=>⟨G3,_,_,((have gp:=none_of I3.gh WY
     ⟨I3.g0,au (au I3.gh gp) I3.sk.gu,au (au I3.hh (I3.hh.free WY)) I3.sk.h0,I3.new,I3.ha,(by
      have pu:_≠u:=λe=>by have:=(I3.sk).hu;rw[<-e,WY]at this;exact nn this
      have pn:∀l∈as,l≠_:=λl hl e=>by obtain⟨i,hi⟩:=agj.mp hl;refine ah ((I3.sk).at_ i l hi) λvs ps _ a2 _=>?_;rw[e,WY]at a2;exact nn a2
      refine⟨by simp only[aa,afU];rfl,(I3.sk).gu,(I3.sk).h0,by simp only[adW,?Li];rfl,λi l e=>?_,?_⟩
      ·by_cases hi:?Lj
       ·rw[aiy hi]at e;exact ah ((I3.sk).at_ i l e) λvs ps a1 a2 a3=>⟨vs,ps,by rw[aiy (by rw[<-?Li];exact hi)];exact a1,by rw[ae a3.2.2.2,ae (pn l (ail e))];exact a2,a3⟩
       ·have hi:=am1 hi;rw[aiU hi]at e;obtain⟨k,rfl⟩:=Nat.exists_eq_add_of_le hi;rw[aql]at e;rcases k with _|k
        ·cases e;exact⟨[],[],by rw[?Li,aiU (?vp),aql];rfl,by rw[ae pu,aa],.nil,gp,(I3.hh.free WY),pu⟩
        ·show ?er
      ·rw[ahL];exact⟨(I3.sk).nd,?EP,λa ha b hb e=>pn a ha (e.trans (afO.mp hb))⟩),I3.s1,I3.sl,?HK⟩:Dz K G0 H0 a u L σ (upd (upd H3 _ ?bu) u (.lst (?fC++[?fo]))) G3 (as++[_]) (st++[[]]))),by rw[adW,ama,aqz [[]].length];exact hz,h⟩
theorem MV{K}{st}(I:Dz K G0 H0 a u ?Jm σ H G as st)(hz:st.length+L.length<sizeLine)
  (h:sW K E G0 H0 a u ?Jm D (fh ?sL L st)):
  ∃W:Nat->Nat->L2.St->?aZ,(∃m,W 0 m σ H)/\∀i m σ H,W i m σ H->((?rq).stop i H/\?uC)\/((?rq).go i H/\∃N,(∀σ' H',N σ' H'->∃m',m'<m/\W ?bf m' σ' H')/\
   ∀x H',(?rq).Ht i H x H'->cP 2 x σ H' λσ2 H2=>F_ K E leaf ?DD σ2 H2):=by
 refine⟨λi m σ H=>m=L.length-i/\i<=L.length/\RdN K E _ H0 a u _ D _ (L.drop i) σ H,⟨_,rfl,?bg,G,as,st,I,hz,h⟩,(λi m σ H S1=>K8 S1 λalH hi G as st I hz h=>?_)⟩;clear S1;have hq:cW K H a _:=.inl (aV I.gh I.ha);by_cases hlt:i<L.length
 ·have ep:?Jm[i]?=some (V.str L[i]):=?VK
  rw[<-?Ki]at h hz;refine .inr ⟨⟨_,_,hq,ep⟩,_,λσ' H' z=>⟨L.length-?bf,?M,rfl,hlt,z⟩,λx H2 y=>?_⟩;show ?ty;have ex:=y _ hq;rw[ep]at ex;cases ex;exact i8 (EZ I.s1 I.sl) λq1 q2 q3=>MU ⟨I.g0,I.gh,I.hh,I.new,I.ha,I.sk,q1,q3,I.ne⟩ q2 hz h
 ·obtain rfl:=anr hi ?BE;rw[anN]at h;exact .inl ⟨⟨_,hq,?J⟩,h G H σ _ I⟩
structure Bo(P:Program)(w:World)(K:aaU)(mg:?bs)(base:Heap)(x:Str)(k:Nat)(ps:?t)(sp:Sp):Prop where
 ex:∃f fd,gz P w K mg base ?bE k f fd ps sp/\mg x=some ?aH/\aiT K ?aH=true/\?jl
theorem iU{p pos}(Fn:Bo X.prog X.w X.K X.mg X.base x k ps sp)(hr:?vf)(hk:k<=j)(hx:?wc)(hg:?cX)
 (ha:PA X ?bp t) (hdb:?bh:=by decide) (he:?ft:=by rfl) (hpl:?hO:=by rfl):
 PE X (?I (?o x p) ?bp [] pos) (kY sp [] E t):=bI Fn.ex λf fd h1 h2 h3 h4=>Hz h1 ?zU hg h2 h3 h4 .nil hx ha hdb he hpl
theorem DT.imp(h:DT X e t)(i:?om):DT X e t':=?vD
theorem abG{ga gb:GE}(ha:DE X a (tP X.K E ga))(hb:?oE):DT X (?lt a [.Gt] [b] pos) (j_ X.K E (bV (c2 E6 ga gb))):=
 (Vl Hw ha hb ?lL).imp λσ H Q h=>by have h2:=Di h;exact Y1 ?jg h2
def Vp:R2:=E1 λi j=>.bl (! ?Ak)
theorem Vq:pb X ?Xy Vp:=by refineλpins s σ H x y v u Q I rx ry h=>ah h λi j abH abI q=>?_;clear h;subst abH;subst abI;show ?cC;show ?jn;exact ne_int (?jd)
def uK(x:Str):Str:=apW (?HL) ")" " ) "
def Vr:List (?e)->?k
 |[a]=>.ok (.lst a)
 |_=>?eC
def DA(lW leaf:?e->?k):?e->?k:=one (uH λcs=>if 4000<cs.length then ?eC else lW [.lst cs]>>=wN λx=>
 if x.length+(?Mb)*3<=16777216/\(?HL).length+((?HL).length+1)*3<=16777216/\(uK x).length+2<=sizeLine/\1+(anM (uK x)).length<sizeLine then
  fh ?sL (anM (uK x)) [[]]>>=Vr else .bad)
def S2(K:aaU)(E:XK)(H0:Hp)(lW leaf:?e->?k):TS:=
 dN (qA (j_ K E (bV (c2 E6 (cF (c1 ?b c0) Vj) (cK (.int 4000))))) (MS K E H0 (-1)) mW) (dN (oX (Jq (bL (Jq ee) ee)) ?rB)
  (dN (CI (Hu K (MQ (MP (MP (tP K E (cF (c1 ?b c0) lW)) "(" " ( ") ")" " ) "))) ?lQ (F_ K E leaf))
   (dN (qA (uz (zN Vp (O4 ?nY ?kP) (tC ?nr))) (MS K E H0 (-1)) mW) (oW (zN (Fz K) ?gE (tC ?ns))))))
theorem dt{K}(r:?av):gA K G [?V,a,b] [?Y,none,none]:=λi q e=>by
 rcases i with _|_|_|i
 ·cases e;exact⟨v,rfl,r⟩
 ·cases e
 ·show ?qF
 ·show ?er
theorem MW{K}{st}(I:Dz K G0 H a u L σ H5 G5 as st)(h:fq K E (Vr st) G0 H Q):
  dN (qA (uz (zN Vp (O4 ?nY ?kP) (tC ?nr))) ?HM mW) (oW (zN (Fz K) ?gE (tC ?ns))) ?hR σ H5:=by
 refine Bn I.s1 I.sk.hu ?DH ?_;have hl:(?fC).length=st.length:=?SE
 rw[hl];rcases st with _|⟨b,_|⟨c,st⟩⟩
 ·exact absurd rfl I.ne
 ·refine lH (qY.top (st:=[]) I.sk) λvV l vs abJ e y2 y3 y4 y5 y6=>?_;subst abJ;obtain rfl:=aoo.mp e;have sg:aj _ (upd _ l ?fF):=au (?bv) y4;exact⟨_,I.s1,u,_,0,_,rfl,rfl,cW.of I.sk.hu,rfl,h _ _ _ ⟨I.g0.trans sg,wV I.gh y2,I.hh,qS I.new y5⟩ (.lst ?lh (y3.mono sg))⟩
 ·exact⟨I.hh,h⟩
theorem Vs{K}(hN:N.length=3)(h:Qa K (DA lW leaf) vs H Q E):S2 K E H lW leaf ?hR ?ym H:=by
 show ?Hk;obtain⟨v,p,rfl,rfl,rv,h⟩:=cn h r;obtain⟨_,_,cs,rfl,-,-,-,h⟩:=lR h rv;rw[show L2.start N _=[?V,none,none] by unfold L2.start;rw[hN];rfl];refine⟨G0,_,s0,dt rv,?_⟩;intro G1 H1 ex1;by_cases c1:4000<cs.length
 ·rw[if_pos c1]at h;rw[if_pos ?a];exact⟨ex1.hh,h⟩
 rw[if_neg c1]at h;rw[if_neg ?aj];refine⟨?bg,λp hp=>⟨?Sf,λu hu=>?_⟩⟩;have pu:u≠p:=λe=>by rw[e,aa]at hu;exact nomatch hu
 have hu1:H1 u=none:=by rw[ae pu]at hu;exact hu
 have gp:=none_of ex1.gh hp;have gu:=none_of ex1.gh hu1;have gh2:aj _ (upd (upd _ p ?bu) u (.lst [?af])):=au (au ex1.gh gp) gu;have hh2:aj H (upd (upd _ p ?bu) u (.lst [?af])):=au (au ex1.hh (ex1.hh.free hp)) (ex1.hh.free hu1);have st0:qY K G1 H (upd (upd H1 p ?bu) u (.lst [?af])) u [p] [[]]:=by
  refine⟨by rw[aa];rfl,gu,ex1.hh.free hu1,rfl,λi l' e=>?_,?EP⟩;rcases i with _|n
  ·cases e;exact⟨[],[],rfl,by rw[ae (ahI pu),aa],.nil,gp,ex1.hh.free hp,ahI pu⟩
  ·show ?er
 refine⟨G1,_,gh2,dt (rv.mono ex1.gg),(Fi.mO h (λt _ h G3 H3 tv ex3 rt=>?_) λ_ h=>sA.mono h hh2)⟩;obtain⟨x,rfl,rfl,h⟩:=ir h rt;obtain⟨⟨z1,z2,z3,z4⟩,h⟩:=a_ h;refine⟨_,rfl,?H,z1,_,rfl,?H,z2,_,rfl,z3,λa ha=>⟨a,rfl,⟨_,cW.of aa⟩,?_⟩⟩;have Cr:=Ex.laid (o:=.lst ((anM (uK x)).map V.str)) ex3.gh ha;have QM:=ex3.trans Cr;exact MV ⟨ex1.gg.trans QM.gg,Cr.gh,hh2.trans QM.hh,sQ ex1.new hh2 QM,Rd.of aa,st0.grow QM,rfl,rfl,aoU _ _⟩ z4 (Fi.seq h λst h G5 H5 σ5 as5 I=>MW I h)
def QN(s:Stmt):?uB:=match s with
 |.ClassDef _ _ _ b _ _ _ _ _ _ _=>b
 |_=>[]
theorem MX{K}{st}(Fn:E3 K ?ck qual st f fd)(S:aX [?ae,?ah] [?ae,?ah] ?bH)
  (hb:bQ st=[?di [?aq (?o ?ae p1) ?ah p2] (?o ?ah p3) p4]) (v0:Cn ?bH ?ae) (v1:Cn ?bH ?ah) (hs:∀(env:Env),swapsWith (?o ?ah p3) (some (?aq (?o ?ae p1) ?ah p2)) p4.line env=?ff):
  ph P w K mg base ?bE 1 f fd [?ae,?ah] (Mo K):=by
 refine bU Fn.ex λoc od kV doc pm an cdv ct osl abK lk hcd=>?_;subst abK;refine LW lk hcd S (by rintro vs H Q E ⟨e,C,tp,n,ev,_⟩;rw[ev];rfl) ?rU;rw[hb];refine⟨_,aw (PZ (?tR) (pv 1 rfl v1) (hs _)),?_⟩;obtain⟨e,C,tp,n,rfl,he,xc,q⟩:=hsp;exact⟨_,rfl,_,rfl,e,C,tp,rfl,he,xc,xc.na,q⟩
def fQ(val:Nat->Str):Nat->?t
 |0=>[]
 |i+1=>if(?lu).any (·==?fV)then ?lu else ?lu++[?fV]
theorem vX val:∀i,?oZ<=i
 |0=>?cs
 |i+1=>by
  unfold fQ;have:=vX val i;split
  ·lia
  ·simp;omega
theorem DB val i k:(fQ val ?bf).any (·==k)=((?lu).any (·==k)||decide (k=?fV)):=by
 conv=>lhs;unfold fQ
 by_cases h:(?lu).any (·==?fV)=true
 ·rw[?uZ];by_cases e:k=?fV
  ·subst e;rw[h];simp
  ·simp[e]
 ·rw[?fK];by_cases e:k=?fV
  ·subst e;simp
  ·have hb:(?fV==k)=false:=?M
   simp[hb,e]
theorem DC val i:(fQ val ?bf).length=if(?lu).any (·==?fV)then ?oZ else ?oZ+1:=by
 conv=>lhs;unfold fQ
 split<;>simp
theorem uL{h:Heap}(hS:h.SetOf (?gX) a S n)(e:∀k,S k=S' k)(en:n=n'):h.SetOf (?gX) a S' n':=by have:S=S':=funext e;simp_all
section
theorem JS{I}{St}(W:WalksS prog w A.in1 I fp wr G n P St)S(hSf:S∉fp)val(hval:∀i v,P i v->∃t,v=.str (?fV) t)(hb:n+1<scanBound):
  ∀k i s,n-i=k->i<=n->St i s->s.heap.SetOf (?gX) S (λk'=>(?lu).any ?qS) ?oZ->
   (∀s',Moved (S::wr) G s s'->s'.heap.SetOf (?gX) S (λk'=>(fQ val n).any ?qS) (fQ val n).length->R (.ok (.ret ?P)) s')->
   codeAny ?E A (?U "set.update.loop" ⟨[.ref S,.ref I],[]⟩) R s:=by
 have hSw:S∉wr:=λh=>hSf (W.sub _ h);have hsub:∀b∈wr,b∈S::wr:=λb hb=>?BX;intro k;induction k with
 |zero=>
  intro i s hk hi hst hS hR;have hin:i=n:=?M
  subst hin;refine ?Uk;rw[anE alR _];show ?Qo;refine wpAny_bind (W.done s _ _ hst λs' hm=>?_);show wpAny _ A.in1 (ret ajC) _ _ s';exact wpAny_pure (hR s' (hm.mono hsub) (dw hS λo es ep t ho rest=>⟨o,es,ep,t,?XY,rest⟩))
 |succ k ih=>
  intro i s hk hi hst hS hR;have hlt:i<n:=?M
  refine ?Uk;rw[anE alR _];show ?Qo;refine wpAny_bind (W.item i s _ _ hlt hst λv s' hP aim hm=>?_);obtain⟨t,rfl⟩:=hval i v hP;have hS':s'.heap.SetOf (?gX) S (λk'=>(?lu).any ?qS) ?oZ:=dw hS λo es ep tb ho rest=>⟨o,es,ep,tb,?XY,rest⟩;show wpAny _ A.in1 (holding [ar2 (?fV) t] (setAdd S (.str (?fV) t))>>=_) _ _ s';refine wpAny_bind (?xR);unfold setAdd;refine wpAny_holding (wpAny_bind ((?gX).pyHash (k:=?fV) ?VL ?_));have abM:?oZ+1<scanBound:=by have:=vX val i;lia
  refine wpAny_setAddHashed_of (knd:=?gX) (s:={s' with toks:=_}) ?VL rfl hS' abM λh' hsb hS2=>?_;have hSi:h'.SetOf (?gX) S (λk'=>(fQ val ?bf).any ?qS) (fQ val ?bf).length:=
   uL hS2 (λk'=>by rw[DB]) (by rw[DC])
  refine wpAny_pure ⟨plainId_quiet alR _,ih ?bf _ ?a hlt (W.frame _ s' _ _ aim ?jU λb hb o e=>?_) hSi λXJ aio aip=>?_⟩
  ·rw[hsb.2 b (λh:b=S=>hSf (by rw[<-h];exact hb))];exact e
  ·refine hR XJ (Moved.trans W.gtrans ((hm.mono hsub).then_heap ?jU ?Iw) aio) aip;rw[hsb.2 b (λh:b=S=>hb (by rw[h];exact adP))];exact e
#where
def nmS:Bool->String
 |true=>?aC
 |false=>?be
theorem MY:∀b,isSubtype (?n ?vq) (?n ?fq)=?ff
 |true=>F.sub_list_set
 |false=>F.sub_tuple_set
theorem xb:∀b,isSubtype (?n ?vq) (?n "frozenset")=?ff
 |true=>F.sub_list_frozenset
 |false=>F.sub_tuple_frozenset
theorem abO(x:?AF):∃o,?Co=?d/\o.cls=?n ?vq/\∃n,o.data=.seq xs n:=by cases b<;>exact x
theorem Vt(hh:?eW)b I ax(hne:ax≠I)items:Walks prog w A I [I,ax] [I] items.size (λi v=>?uI=?V) (λi h=>SI h b I ax i/\SS h b ax items):=by
 cases b
 ·exact Walks.tuple hh I _ hne _
 ·exact asC hh I _ hne _
section
set_option maxHeartbeats 3200000 in
theorem JT{prog:Program}{w:World}{A:Around}{E:?ap}{s:Shared}(b:Bool){l:Addr}{items:?ec}{val:Nat->Str}{Q:?ap}(hh:?eW)(hl:SS s.heap b l items)(hval:∀(i:Nat)(v:Value),?uI=?V->∃t,v=.str (?fV) t)(hb:items.size+1<scanBound)
  (h:∀(h':Heap)(tk:Nat),h'.SetOf (?gX) s.heap.objs.size (λk'=>(?xL).any ?qS) (?xL).length->
   (∀b o,?xA->?aN=?d->?aY=?d)->Q (?bT) ?gO):
  wpAny ?E A (call (?n ?fq) [?ax]) Q E s:=by
 refine uu anj.mro λc tl aok=>?_;have alK:=anj.made;have hsub:=anj.sub;refine wpAny_call (?XB);show wpAny _ _ (callAny (?n ?fq) _) _ _ _;refine wpAny_pure ⟨apE _ (?g),codeAny_builtin F.entry_type_call ?_⟩;rw[Around.under_plain (weight_type_call_type ?fq [?ax] []) rfl];have h1:=anj.notType;have h2:=anj.canCreate;have hct:=F.typeCall_set_1 (?ax);show ?og
 refine codeAny_mono (code_set_new_1 (?ax) (E:=E) (Q₁:=λobj s₁=>∃led:Bool,obj=?bT/\s₁={s with heap:=s.heap.push ?gL}) λled=>⟨led,rfl,rfl⟩) λr s₁ hr=>?_;cases r with
 |error e=>exact hr
 |ok fl=>
  cases fl with
  |ret obj=>
   refine ag hr λled abP abQ=>?_;clear hr;subst abP;subst abQ;have hS:(s.heap.push ?gL).get? s.heap.objs.size=some ?gL:=?de;have hT:Shared.TypeIs {s with heap:=s.heap.push ?gL} (?bT) ?fq:=⟨_,hS,rfl⟩;have hli:=anj.init.lookup;have hbi:=anj.init.bind (?bT);show ?og
   refine codeAny_mono (codeAny_call_builtin (R:=wants (λr s₂=>r=?P/\∃h' tk,s₂=?gO/\
     h'.SetOf (?gX) s.heap.objs.size (λk'=>(?xL).any ?qS) (?xL).length/\
     (∀b o,?xA->?aN=?d->?aY=?d)) E) anj.init.plain F.entry_set_init (check_set_init_1 hT ?_)) λr₂ s₂ hr₂=>?_
   ·refine kc (abO hl) λol Ms hcl nl Ql=>?_;obtain⟨aol,abR,alM,Vu⟩:=ol;simp only at hcl Ql;subst hcl;subst Ql;have aiq:(s.heap.push ?gL).get? l=some {cls:=?n ?vq,dict:=abR,data:=.seq items nl,slots:=Vu}:=aba _ Ms;have aom:=MY b;have aon:=xb b;have hne:(arA ?vq==arA ?gD)=false:=by cases b<;>decide
    have hl1:SS (s.heap.push ?gL) b l items:=by cases b<;>exact⟨_,aiq,rfl,nl,rfl⟩
    unfold Builtin.«set.__init__» noKeywords asw;generalize hPI:pyIter=PI;wp_walk;subst hPI;refine w8 hl1 (wpAny_bind (wpAny_runValue ?_));have hlS:?Xx:=ae8 Ms;have hh3:A.in1.in1.in1.handled=none:=by simp[hh]
    have air:l≠(s.heap.push ?gL).objs.size:=by rw[agl];exact af1 (anA hlS)
    have hSf:s.heap.objs.size∉[(s.heap.push ?gL).objs.size,l]:=by rw[agl];show ?TI;exact⟨?KR,alS hlS⟩
    refine JS ((Vt hh3 b _ l air items).toS) s.heap.objs.size
     hSf val hval hb (items.size-0) 0 _ ?a (?bg)
     ⟨(by cases b<;>exact ?gb),(hl1.push _)⟩ ?hS0 ?hRR
    case hS0=>
     have ais:((s.heap.push ?gL).push (SA b l)).get? s.heap.objs.size
       =some ?gL:=aba _ hS
     exact uL ((PyProof.Rows.setObjOf_fresh (knd:=?gX) led).setOf ais (by unfold scanBound;lia)) (?ar) rfl
    case hRR=>
     intro s' hm hS'
     obtain⟨h',g',d',PR,os'⟩:=s'
     have eg:g'=s.gens:=hm.gens
     have ed:d'=s.drawn:=hm.drawn
     have eo:os'=s.os:=hm.os
     subst eg;subst ed;subst eo
     show ?Kk
     refine ?bx
     show wpAny _ _ (ret ajC) _ _ _
     refine wpAny_pure ⟨rfl,h',PR,rfl,hS',?Iw⟩
     have hb1:b≠s.heap.objs.size:=af1 hb
     have O7:b≠(s.heap.push ?gL).objs.size:=by rw[agl];exact af1 (anA hb)
     exact hm.heap b o (by show ?TI;exact⟨hb1,O7⟩) (aba _ (?gy))
   ·cases r₂ with
    |error e=>exact hr₂
    |ok fl₂=>
     cases fl₂ with
     |ret r=>
      refine sE hr₂ λabS h' tk abT hS' E2=>?_;clear hr₂;subst abS;subst abT;show ?og
      exact h _ _ hS' E2
     |_=>exact hr₂.elim
  |_=>exact hr.elim
#where
theorem MZ:∀{us},?Wg->(∀(i:Nat)x u,?hI=?F->us[i]?=?Q->?lv)->?ee:=by
 induction xs with
 |nil=>
  intro us h _;obtain rfl:=aoo.mp h.symm;show ?bJ
 |cons x xs ih=>
  intro us h k;rcases us with _|⟨u,us⟩
  ·cases h
  ·exact ?p (k 0 x u rfl rfl) (ih (apu h) λi y v e1 e2=>k ?bf y v e1 e2)
theorem DD{K}{α:Type}{f}{g}(h:∀a,Rep K G ?dF (g a)):∀l:?aa,aI K G ?iB (l.map g)
 |[]=>.nil
 |a::l=>?p (h a) (DD h l)
def abU(ta:TA):TE:=λσ H Q=>ta σ H λvs H1=>∃j,vs=[?fP]/\∀p,?jI->Q (?af) (upd H1 p ?qt)
def lrF:?e->?k:=one (E5 λj=>if ?qo then .ok (.lst (Dk 0 j.toNat))else .bad)
theorem Gb{gs:GS}{p p2 p3 pos}(hc:?db)(hg:Gl X ?aC)(hm:X.mg ?aC=none)(hg2:Gl X ?cR)(hm2:X.mg ?cR=none)(ha:PA X [a] ?cD)(hs:?Gb=[?oF]:=by rfl)
  (he:starEach [?I (?o ?cR p2) [a] [] p3] X.env=(false,eval (?I (?o ?cR p2) [a] [] p3) X.env)::?eQ:=by rfl) (hpl:(backTo pos (?eQ)).any ?aT=false:=by rfl):
  PE X (?I (?o ?aC p) [?I (?o ?cR p2) [a] [] p3] [] pos) (tP X.K E (cF gs lrF)):=
 (kZ (show eJ X (?n ?aC) (λxs H Q=>∃(p:Addr)(j:Int),xs=[?af]/\H p=some ?qt/\j<=2^24/\?nF<=j/\∀l,?ny->Q (?ax) (upd H l (.lst ((afs j.toNat).map λ?bd=>V.int (0+i)))))from by
   refineλpins s σ H xs us Q I r h=>cH h λp j abW hp h1 h2 q=>?_;clear h;subst abW;refine ag ?iy λu abX ru=>?_;subst abX;cases ru;refine Jh (I.bq p _ hp) λt t2 t3 e=>?_;have hsz:aqa 0 j 1=((j.toNat)):=?PQ
   refine call_list_range ?cL e (small_one (?c) (?c) h2 ?a) hsz ?a λh' tk acc c hk ho abY=>?_;have hl:((afs j.toNat).map λ?bd=>V.int (0+i)).length=j.toNat:=?J
   refine⟨?fo,_,I.laid (o:=?fn) hk ?A ⟨by simp only[hl,sizeLine_eq];lia,acc.toList,c,(MZ (by simp only[hl,akO,abY.1]) λi x u e1 e2=>?_),by simpa using ho⟩,rfl,q _ (I.bq.fresh ?A)⟩;rw[amG]at e2;obtain⟨t',rfl⟩:=abY.2 i u e2;have hi:i<j.toNat:=by have:=(aeH.mp e1).1;rw[hl]at this;show ?eM
   rw[ad0,apq hi]at e1;cases e1;exact⟨t',?J⟩) hg hm ank (ak (show PE X (?I (?o ?cR p2) [a] [] p3) (abU ?cD)from by refineλpins s σ H Q I h=>Call_ (i9 I hg2 hm2 boot_range (agW (ck ?kx λus s1 ?mm=>(ag q1 λj abZ q=>?_)) hs rfl));clear q1;subst abZ;refine La (vals1 r1) λu ab0 t ab1=>?_;rw[ab0];rw[ab1];refine call_range_1 ⟨?fo,_,I1.laid (o:=.Lb 0 j) (?ib) ?A ⟨_,_,_,?de⟩,rfl,q _ (I1.bq.fresh ?A)⟩) aP he) (?c) ?ko he hpl).imp λσ H Q h=>by
  refine pk (r:=λvs H1 Q=>∃j,vs=[?fP]/\∀p,?jI->∃(p2:Addr)(j2:Int),?WN/\upd _ p ?qt p2=some (.Lb 0 j2)/\j2<=2^24/\?nF<=j2/\∀l,upd _ p ?qt l=none->Q (?ax) (upd (upd _ p ?qt) l (.lst ((afs j2.toNat).map _)))) (λG H vs ps Q s r h=>(bI ?hB λu q ab2 alO ru h=>?_)) h;rw[ab2];refine aG (qN h ru) λj alP ab3 h=>?_;rw[ab3];show ?yZ;refine⟨j,rfl,λp hp=>⟨p,j,rfl,aa,Int.le_trans (HV hc).2 (?c),(wQ hc).1,?qc⟩⟩;have s0:aj H (upd H p ?qt):=au (?bv) hp;exact(z0 (s.trans s0) (DD (λi=>?bB) _) (fq.later h ⟨?bv,s.trans s0,s0,?KZ⟩)) l hl
def JU(p:Addr)(n:Nat):HO:=.ext λh=>∃o es ep t,h.get? p=?d/\o.ExactSet/\o.data=.set es ep t/\t.fits es.size=true/\es.size=n/\n<4096
def gm(ys:?t):Nat:=(fQ (?ot) ys.length).length
def lsF:?e->?k:=one (vg λl=>opt (λys=>if ?Ix then .ok (.int (gm ys:Nat))else .bad) (strsOf l))
theorem JV{gs:GS}{p p2 p3 pos}(hc:?db)(hg:Gl X ?dG)(hm:X.mg ?dG=none)(hg2:Gl X ?fq)(hm2:X.mg ?fq=none)(ha:PA X [a] ?cD)
  (hs:?Gb=?oF::?eQ:=by rfl) (hpl2:(backTo p3 (?eQ)).any ?aT=false:=by rfl)
  (he:starEach [?I (?o ?fq p2) [a] [] p3] X.env=(false,eval (?I (?o ?fq p2) [a] [] p3) X.env)::?eQ:=by rfl) (hpl:(backTo pos (?eQ)).any ?aT=false:=by rfl):
  PE X (?I (?o ?dG p) [?I (?o ?fq p2) [a] [] p3] [] pos) (tP X.K E (cF gs lsF)):=
 (jG (show eJ X (?U ?dG) (λxs H Q=>∃p n,xs=[?af]/\H p=some (JU p n)/\Q (?hd) H)from by
   refineλpins s σ H xs us Q I r h=>ah h λp n ab4 hp q=>?_;clear h;subst ab4;refine ag ?iy λu ab5 ru=>?_;subst ab5;cases ru;obtain⟨⟨o,es,ep,t,ho,hex,hd,hf,hn,h4⟩,_⟩:=I.bq p _ hp;subst hn;exact call_len_set ho hex hd hf ?a ⟨?bB,H,?cG,?ad,q⟩) hg hm aml (ak (kZ (show eJ X (?n ?fq) (λxs H Q=>∃(a:Addr)(b:Bool)(ys:?t),xs=[?C]/\Sq X.K H b a ?ie/\?Ix/\∀p,?fi->Q (?af) (upd H p ?Iy))from by
    refineλpins s σ H xs us Q I r h=>bB h λa b ys ab6 hq hl q=>?_;clear h;subst ab6;refine ag ?iy λu ab7 ru=>?_;rw[ab7];cases ru;refine aG (I.Bf hq) λaL rv ss _=>?_;have el:aL.length=ys.length:=by simp only[<-rv.length,aa_]
    refine JT b (val:=?ot) ?cL ss (λi v hv=>?_) (by delta scanBound;simp;lia) λh' tk hS hk=>?_
    ·have Ue:aL[i]?=?V:=?oV
     have hi:i<ys.length:=by rw[<-el];exact(aeH.mp Ue).1
     have hx:?ie[i]?=some (V.str ys[i]):=?VK
     refine ag ?Al λu2 Js rx=>?_;rw[Ue]at Js;cases Js;show ?cC;exact⟨t,by rw[ah7,aft hi];rfl⟩
    ·have hsz:aL.toArray.size=ys.length:=?qH
     rw[hsz]at hS;refine lJ hS λo es ep t ho hex hd _ _ _ hf hn=>?_;have hle:=vX (?ot) ys.length;refine⟨?fo,_,I.laid (o:=JU _ (gm _)) (λb o e=>hk b o (?bO) e) ?A ⟨⟨o,es,ep,t,ho,hex,hd,hf,hn,?_⟩,⟨o,ho⟩,?_⟩,rfl,q _ (I.bq.fresh ?A)⟩
     ·delta gm;lia
     ·exactλh1 h2 ab8 k=>dw ab8 λo es ep t e r=>⟨o,es,ep,t,k o e,r⟩) hg2 hm2 (?H) ha (?c) rfl hs hpl2) aP he) (?c) rfl he hpl).imp λσ H Q h=>by
  refine pk (r:=λvs H1 Q=>∃(a:Addr)(b:Bool)(ys:?fR),vs=[?C]/\Sq _ _ b a (ys.map _)/\?Ix/\∀p,?jI->∃p2 n,?WN/\upd _ p ?Iy p2=some (JU p2 n)/\Q (.int (n)) (upd _ p ?Iy)) (λG H vs ps Q s r h=>(bI ?hB λu q ab9 alQ ru h=>?_)) h;rw[ab9];refine bB ?BF λa xs l ab_ hq k2 h=>?_;subst ab_;obtain⟨b,k1⟩:=Dr hq;refine ag ?iN λys e h=>?_;obtain⟨hl,h⟩:=a_ h;obtain rfl:=qU k2 e;exact⟨a,b,ys,rfl,k1 _ s,hl,λp hp=>⟨p,_,rfl,aa,h G _ _ ⟨?bv,au s (none_of s hp),au (?bv) hp,λb o q=>.inl q⟩ (?bB)⟩⟩
theorem y8:typeLookup (?n ?br) "keys"=pure none:=am_miss_of_fast rfl
theorem sX:typeLookup (?n ?br) ?zi=pure none:=?tk
theorem Bp:entryFor table ?Ul=some Builtin.«object.__getattribute__»:=
 entryFor_alias (id':=?DX) (?H) (?H) ?ak (?H)
theorem qZ(a:Addr)(xs:?ec)(name:Str)(u:Tok)(hmiss:typeLookup (?n ?br) name=pure none)(hname:(?MP:?t).contains name=false)(hsz:name.length+100<=sizeLine:=by size_fits):
  Meets (Builtin.«object.__getattribute__» ⟨[?C,.str name u],[]⟩) (λA R s=>?ze=some {cls:=?n ?br,dict:=none,data:=?aO xs,slots:=#[]}/\raisesAttr (?C) name A R s):=
 Meets.of_wp λprog w A R s hs=>by
  show ?GE;obtain⟨hx,hs⟩:=hs;have hT:(⟨hp,g,d,tk,os⟩:Shared).TypeIs (?C) ?br:=?IS;show ?RB;show ?og
  simp only[hname,ahn,if_false];show ?og
  exact wpAny_raiseAttrError hs.1 hs.2 (attrMsg_fits (?g) hsz)
theorem M0{prog:Program}{w:World}{A:Around}{E:?ap}{s:Shared}{a:Addr}{xs:?ec}{Q:?mG->?kY}(hx:?ze=some {cls:=?n ?br,dict:=none,data:=?aO xs,slots:=#[]})(hA:?eW)
  (h:∀h' tk,(∀b ob,?aN=?rc->?aY=?rc)->Q none ?gO):wpAny ?E A (getAttr? (?C) "keys") Q E s:=by
 show ?GE;have hT:∀PR,(⟨hp,g,d,PR,os⟩:Shared).TypeIs (?C) ?br:=λ_=>?IS;have hmiss:=y8;have hname:(?MP:?t).contains "keys"=false:=?g
 have hsz:("keys":Str).length+100<=sizeLine:=by first|size_fits|decide+kernel
 have f1:=sub_AttributeError;have f3:=ane.lookup;have f4:=ane.bind (?C);have f5:=sX;unfold getAttr? getAttrBy? getAttrBy;repeat (any_goals(first|show ?cJ|exact hT _|((with_reducible show wpAny _ _ (call (an6 ?Ul) _ _) _ _ _);refine call_meets ane (hT _) Bp (PySem.F.args_zip_getattribute_2 _ _) (qZ a xs "keys" _ hmiss hname hsz) ⟨hx,hA,λh' PR e U9=>?_⟩)|wp_step))
 refine uu U9.there λt' u' he=>?_;show wpAny _ _ (getattributeRaised _ _ _ _ _ _ _) _ _ _;unfold getattributeRaised;show ?og
 all_goals first|exact h _ _ U9.keeps|(dsimp only;repeat (any_goals(first|show ?cJ|exact h _ _ U9.keeps|wp_step)))
section
theorem Ij{S z TI TO i1 i2 c1 c2}{b1 b2:Bool}{xs ys}{res}(hh:?eW)(D:?mb)(hS:∀c∈?ER,S≠c):
  ∀(rest:?sz)(i:Nat)(acc:?sz)(ix:Int)(t:Tok)(s:Shared),(xs[i+rest.length]?=none\/ys[i+rest.length]?=none)->acc.length+rest.length<=sizeLine->
   (∀(j:Nat)(q:Key×Value),rest[j]?=?lN->∃u:Value,xs[i+j]?=?Q/\ys[i+j]?=?Cf/\mU q.1 u=true)->
   ZS s.heap z TI TO i1 i2 b1 b2 c1 c2 i->?kH->?kI->s.heap.DictOf (?hu) S acc->
   (∀h' tk,h'.DictOf (?hu) S (merged acc rest)->(∀b o,b∉[S,z,TO,i1,i2]->?aN=?d->?aY=?d)->R (.ok (.ret res)) ?gO)->
   codeAny ?E A (?U ?FX ⟨[.ref S,.ref z,.int ix t,res],[]⟩) R s
 |[],i,acc,ix,t,s,hend,hln,ht,hz,hl1,hl2,hm,hR=>by
  refine ?UK;rw[anE m_ _];show wpAny _ A.in1 (pyNext ?dA>>=_) _ _ s;refine wpAny_bind (pq (A:=A.in1) hh D hz hl1 hl2 ?UL λh' hk=>?_);show wpAny _ A.in1 (Builtin.Dict.addKeywords S []>>=_) _ _ _;refine wpAny_bind (wpAny_pure (wpAny_pure (hR h' s.toks (hm.at λo e=>?_) ?Iw)))
  ·exact hk S o (hS z ?i) (hS TO ?i) (hS i1 ?i) (hS i2 ?i) e
  ·simp only[aed,af3,or_false,not_or]at hb;exact hk b o hb.2.1 hb.2.2.1 hb.2.2.2.1 hb.2.2.2.2 e
 |q::rest,i,acc,ix,t,s,hend,hln,ht,hz,hl1,hl2,hm,hR=>by
  refine aG (ht 0 q rfl) λu hu hv hk=>?_;rw[ad2]at hln;refine ?UK;rw[anE m_ _];show wpAny _ A.in1 (pyNext ?dA>>=_) _ _ s;refine wpAny_bind (w6 (A:=A.in1) D hz hl1 hl2 (x:=u) (y:=q.2) ?oH (?oV) λh1 hz1 hT hk1=>?_);have hdS:∃o,s.heap.get? S=?d:=let⟨o,_,_,e,_⟩:=hm;?uW;have aot:S<s.heap.objs.size:=let ?CJ:=hdS;?bO;have hm1:h1.DictOf (?hu) S acc:=hm.at λo e=>hk1 S o (hS z ?i) (hS TO ?i) (hS i1 ?i) (hS i2 ?i) e;have hl11:SS h1 b1 c1 xs:=hl1.keep λo e=>hk1 c1 o D.l1z D.l1TO D.l1i1 D.l1i2 e;have hl21:SS h1 b2 c2 ys:=hl2.keep λo e=>hk1 c2 o D.l2z D.l2TO D.l2i1 D.l2i2 e;show wpAny _ A.in1 (holding [afZ s.heap.objs.size] _>>=_) _ _ _;refine wpAny_bind (wpAny_holding (wpAny_bind (wpAny_tryCatch ?_)));unfold Builtin.Dict.pairItems;refine wpAny_bind (wpAny_typeOf (T:=?be) ⟨_,hT,rfl⟩ ?_);rw[if_pos (by first|decide|rfl|simp)];refine wpAny_bind (wpAny_seqItems hT rfl (?bx));show wpAny _ A.in1 (holding [u,q.2] (dictSet S u q.2)) _ _ _;refine wpAny_holding (wpAny_dictSet_pairs (knd:=?hu) (k:=q.1) hk hm1 (λh2 hm2 hs2=>?_) ?a);have nS:∀c∈?ER,c≠S:=λc hc e=>hS c hc e.symm;refine wpAny_pure ⟨plainId_quiet m_ _,Ij hh D hS rest ?bf (stored acc q.1 q.2) (ix+1) 0 _ ?_ ?_ (λj q' e=>?_) (hz1.keep λb hb o e=>?_) (hl11.keep λo e=>?_) (hl21.keep λo e=>?_) hm2 λh' tk EY k=>?_⟩
  ·have e2:i+(q::rest).length=i+1+rest.length:=by rw[ad2];lia
   rw[e2]at hend;exact hend
  ·have z:=stored_length_le acc q.1 q.2;lia
  ·refine aG (ht (j+1) q' (?jm)) λu' h3 h4 h5=>?_;have e2:i+1+j=i+(j+1):=?M
   exact⟨u',by rw[e2];exact h3,by rw[e2];exact h4,h5⟩
  ·refine hs2.extBut b o (nS b ?_) e;simp only[aed,af3,or_false]at hb⊢;rcases hb with q|q|q|q|q<;>simp[q]
  ·exact hs2.extBut c1 o (nS c1 ?i) e
  ·exact hs2.extBut c2 o (nS c2 ?i) e
  ·refine hR h' tk EY λc oc hc e=>k c oc hc ?_;simp only[aed,af3,or_false,not_or]at hc;exact hs2.extBut c oc hc.1 (hk1 c oc hc.2.1 hc.2.2.1 hc.2.2.2.1 hc.2.2.2.2 e)
theorem Gd{z TI TO i1 i2 c1 c2}(hh:?eW)(D:?mb)
  (hz:ZS s.heap z TI TO i1 i2 b1 b2 c1 c2 0) (hl1:?kH) (hl2:?kI) (hlt:∀c∈?ER,?xB) (hend:xs[prs.length]?=none\/ys[prs.length]?=none) (hln:prs.length<=sizeLine)
  (ht:∀(j:Nat)(q:Key×Value),prs[j]?=?lN->∃u:Value,xs[j]?=?Q/\ys[j]?=?Cf/\mU q.1 u=true)
  (h:∀h' tk,h'.DictOf (?hu) s.heap.objs.size (merged [] prs)->(∀b o,b∉[z,TO,i1,i2]->?aN=?d->?aY=?d)->Q (?bT) ?gO):
  wpAny ?E A (call (?n ?gD) [.ref z]) Q E s:=by
 refine callType_codes (Q₁:=λobj s₁=>obj=?bT/\s₁={s with heap:=s.heap.push ?es}) PySem.F.kt_called_dict (PySem.F.kt_typeCall_dict_1 _) PySem.F.entry_dict_init (kt_code_dict_new _ ?jv) ?_;rintro obj s₁ ⟨rfl,rfl⟩;have hnew:(s.heap.push ?es).DictOf (?hu) s.heap.objs.size []:=asp s.heap;have k0:∀b o,?aN=?d->(s.heap.push ?es).get? b=?d:=?ib;refine bR (id hz.Qm) λf0 f1 hzr _=>⟨hnew.typeIs,PySem.F.args_dict_init_2 _ _,?_⟩;unfold Builtin.«dict.__init__»;refine ?du;unfold Builtin.Dict.selfAndRest;refine wpAny_bind (wpAny_notOrdered_dict hnew.typeIs ?_);show wpAny _ _ (pure (s.heap.objs.size,[afZ z])) _ _ _;refine ?bx;show wpAny _ _ (aqm "dict.__init__" s.heap.objs.size ?dA [] ?P) _ _ _;unfold aqm;refine wpAny_bind (wpAny_typeOf ⟨_,k0 _ _ hzr,rfl⟩ ?_);rw[if_pos (?H)];refine wpAny_bind (M0 (k0 _ _ hzr) hh λh1 tk1 hk1=>?_);rw[if_pos (show(none:?mG).isNone=true from rfl)];refine wpAny_bind (wpAny_rule ?_);have kk:∀b o,?aN=?d->h1.get? b=?d:=λb o e=>hk1 _ _ (k0 _ _ e);have hz1:ZS h1 z TI TO i1 i2 b1 b2 c1 c2 0:=hz.keep λb _ o e=>kk b o e;refine wpAny_bind ((sT (P:=prog) (w:=w) (K:=[]) (tg:=?o "x" ?pt) D).self _ 0 _ _ _ hz1 ?_);have key:=Ij (prog:=prog) (w:=w) (A:=A.in1) (R:=wants (λr s₂=>r=?P/\Q (?bT) s₂) E) (xs:=xs) hh D (λc hc=>alS (hlt c hc)) prs 0 [] 0 0
  {s with heap:=h1,toks:=tk1} ?UL (by simpa using hln) (λj q e=>by simpa using ht j q e) hz1 (hl1.keep λo e=>kk _ o e) (hl2.keep λo e=>kk _ o e) (hnew.at λo e=>hk1 _ _ e)
  (λh' tk EY k=>⟨rfl,h h' tk EY λb o hb e=>k b o (by simp only[aed,af3,or_false,not_or]at hb⊢;exact⟨af1 (?bO),hb⟩) (kk _ _ e)⟩)
 first
  |exact ?OK
  |exact wpAny_bind (wpAny_pure (?OK))
#where
def dzF:?e->?k:=two λp q=>vg (λl=>vg (λm=>opt (λks=>if ks.Nodup/\ks.length=m.length then .ok (.vf (?gT m))else .bad) (strsOf l)) q) p
theorem M5(x:?AF):∃o,?Co=?d/\True:=by cases b<;>obtain⟨o,e,_⟩:=x<;>exact⟨o,e,trivial⟩
theorem M6:∀{ks:?jN}{ys}{us},Vals ys us->KV (ks.zip ys) (ks.zip us)
 |[],_,_,_=>.nil
 |_::_,_,_,.nil=>.nil
 |k::ks,_,_,?p h t=>?p ⟨rfl,h⟩ (M6 t)
def tDZ(K:aaU)(ta:TA):TE:=λσ H Q=>ta σ H λvs H1=>∃(a b:Addr)(b1 b2:Bool)(ks:?t)(ys:?B),vs=[?C,?cH]/\Sq K H1 b1 a (?zV)/\Sq K H1 b2 b ys/\ks.Nodup/\?WO/\
 ∀p,?jI->Q (?af) (upd H1 p (.dK (?gT ys)))
theorem aca{gs:GS}{p p2 p3 pos}(hc:?db)(hg:Gl X ?gD)(hm:X.mg ?gD=none)(hg2:Gl X ?br)(hm2:X.mg ?br=none)(ha:PA X ?nZ ?cD)
  (hs:starEach ?nZ X.env=?kA::?WP:=by rfl) (hpl:(backTo p3 (?WP)).any ?aT=false:=by rfl)
  (he:starEach [?I (?o ?br p2) ?nZ [] p3] X.env=(false,eval (?I (?o ?br p2) ?nZ [] p3) X.env)::?eQ:=by rfl) (hpl2:(backTo pos (?eQ)).any ?aT=false:=by rfl):
  PE X (?I (?o ?gD p) [?I (?o ?br p2) ?nZ [] p3] [] pos) (tP X.K E (cF gs dzF)):=
 (show PE X (?I (?o ?gD p) [?I (?o ?br p2) ?nZ [] p3] [] pos) (tDZ X.K ?cD)from by
    refineλpins s σ H Q I h=>wpAny_Call_Name_kw (i9 I hg hm PyProof.Rows.boot_dict (agW ?_ he hpl2) (?c) (?c));rw[he];show wpAny _ _ (spliced ((false,eval (?I (?o ?br p2) ?nZ [] p3) X.env)::backTo pos (?eQ))) _ _ s;refine akv (Call_ (i9 I hg2 hm2 zW (agW (ck (ha p3 pins s σ H _ I h) λus s1 ?mm=>?_) hs hpl)));obtain⟨a,b,b1,b2,ks,ys,ex,SD,O9,hnd,hlen,q⟩:=q1;subst ex;refine aG (I1.Bf SD) λaL rv pp1 la=>aG (I1.Bf O9) λka rv2 pp2 lb=>?_;cases r1 with
    |cons r rr=>
     cases rr with
     |cons r' rr=>
      cases rr;cases r;cases r';refine z9 pp1 pp2 λh' st hk=>anz ?_;have D:=?Qm;show ?NA;have acb:SS h' b1 a aL.toArray:=pp1.keep λo e=>hk _ o e;have acd:SS h' b2 b ka.toArray:=pp2.keep λo e=>hk _ o e;have hlt:∀c∈[?Fp,?Wd,?We,s1.heap.objs.size,?Fo,a,b],c<h'.objs.size:=λc E8=>by
       show ?Dh;have e':c=?Fp\/c=?Wd\/c=?We\/c=s1.heap.objs.size\/c=?Fo\/c=a\/c=b:=?Yy
       rcases e' with q|q|q|q|q|q|q
       ·rw[q];exact ae8 hz
       ·rw[q];exact ae8 F0
       ·rw[q];exact ae8 Ic
       ·rw[q];exact ag h1.ob λo e _=>?bO
       ·rw[q];exact ag h2.ob λo e _=>?bO
       ·rw[q];exact ag (M5 acb) λo e _=>?bO
       ·rw[q];exact ag (M5 acd) λo e _=>?bO
      have l1:aL.length=ks.length:=by rw[<-rv.length,aa_]
      have l2:ka.length=ks.length:=by rw[<-rv2.length,hlen]
      have hf:∀c∈?CL,pJ X pins H1 c:=λc E8=>by
       have hle:?VG:=by
        show ?Mh
        rcases e' with z|z|z|z|z<;>rw[z]<;>first|exact ?vp|exact ?cs
       exact ?DN
      have hsz:?WQ:=by
       cases b2
       ·refine aG (I1.tuple O9) λ_ _ _ z=>?_;rw[hlen];exact z
       ·refine aG (I1.list O9) λ_ _ _ z=>?_;rw[hlen];exact z
      have zl:(?wi ka).length=ks.length:=by rw[apg,aa_,l2];exact Nat.min_self _
      refine Gd (s:=?Xp) (prs:=?gT ka) (I2.ok.hd hc) D st acb acd hlt ?_ (by rw[zl];exact hsz) (λj q' ej=>?_) λLI tk dd kk=>?_
      ·rw[zl];exact .inl (by rw[aoP];exact akS ?a)
      ·obtain⟨e1,e2⟩:=anW.mp ej;rw[ad0]at e1;cases e3:ks[j]? with
       |none=>rw[e3]at e1;exact nomatch e1
       |some k=>
        rw[e3]at e1;have e1:ahX k=q'.1:=afE e1;have hx:(?zV)[j]?=some (V.str k):=by rw[ad0,e3];rfl
        refine ?DI;show ?Lk;exact⟨_,by rw[aoP];exact hu,by rw[aoP];exact e2,by rw[<-e1];simp[mU,arn]⟩
      ·have hm0:(h'.objs.size==sysModules)=false:=beq_eq_false_iff_ne.mpr (alS I2.big);have em:∀xs,xs.length=ks.length->kN [] (?wi xs)=?gT xs:=λxs hx=>by
        rw[nj _ _ ?_]
        ·rfl
        ·rw[agn,afP,ar7 (by rw[aa_,hx];exact ?cs)];exact akI.mpr (hnd.imp λh e=>h (as4 e))
       have rel:KV (?wi ys) (?gT ka):=M6 rv2;have new:dg X.prog X.w (upd H1 h'.objs.size (.dK (?gT ys))) LI h'.objs.size (.dK (?gT ys)):=by refine⟨by rw[apg,aa_,<-hlen,Nat.min_self];exact hsz,hm0,_,?_,dd⟩;have:=KV.merge rel (kvs:=[]) (vs:=[]) .nil;rw[em ys hlen.symm]at this;show ?eM
       have I3:=I2.sP (t':=tk) (ch:=?CL) (h':=LI) (λc o hb q=>kk c o (λm=>hb ?_) q) hf ?A new
       ·exact⟨?YM,_,I3,rfl,q _ (I2.bq.fresh ?A)⟩
       ·simp only[aed,af3,or_false]at m⊢;rcases m with m|m|m|m<;>simp[m]).imp λσ H Q h=>by
  refine pk (r:=λvs H1 Q=>∃(a b:Addr)(b1 b2:Bool)(ks:?fR)(ys:?B),vs=[?C,?cH]/\Sq _ _ b1 a (ks.map _)/\Sq _ _ b2 b ys/\ks.Nodup/\?WO/\
   ∀p,?jI->Q (?af) (upd _ p (.dK (?gT ys)))) (λG H vs ps Q s r h=>(gf ?Cm λu w' p q ace alU ru Jr h=>?_)) h
  rw[ace];refine bB ?BF λa xs l acf h1 k2 h=>?_;rw[acf];refine bB (ki h Jr) λb ys m acg h2 k4 h=>?_;subst acg;obtain⟨b1,k1⟩:=Dr h1;obtain⟨b2,k3⟩:=Dr h2;refine ag ?iN λks e5 h=>?_;obtain⟨hcc,h⟩:=a_ h;obtain rfl:=qU k2 e5;refine⟨a,b,b1,b2,ks,ys,rfl,k1 _ s,k3 _ s,hcc.1,by rw[k4.length];exact hcc.2,?dc⟩;have ex:=Ex.laid (o:=.dK (?XV ys)) s hp;exact h _ _ _ ex (.vf ?lh (dQ.zip (k4.mono ex.gg)))
#where
namespace PySem
open Builtin PyProof.Rows
theorem Ge l items n b Bq n2 od sl(hs0:¬(!items.isEmpty&&ak5 (?XZ))=true)(hs1:?Vs)(hs2:?XZ<=sizeLine+1):
  Meets (Builtin.«list.extend» ⟨[?ax,?cH],[]⟩) (λ_ R s=>?Ja=some {cls:=?n ?aC,dict:=none,data:=.seq items n,slots:=#[]}/\?aN=some {cls:=?n ?be,dict:=od,data:=.seq Bq n2,slots:=sl}/\R (.ok (.ret ajC)) {s with heap:=s.heap.update l (asz λx=>x++Bq),toks:=s.toks}):=
 .of_wp λprog w A R s h=>by refine i8 h λhl hb h=>?_;wp_walk using(wpAny_updateSeq hl rfl (hz:=hs1)),wpAny_loadPart' hl,wpAny_loadPart' hb;exact ?tz
#where
namespace PP
open PySem PySem.Spec PyProof.Rows L2
def Vv:?e->Rs (?e):=one (uH λl=>.ok l.reverse)
abbrev iV(gs:GS):GS:=λenv=>?dk>>=Vv
def flat:?Cl
 |.b_=>true
 |?bY=>true
 |?bB=>true
 |?cY=>true
 |_=>false
theorem DF{K}(r:?av)(h:flat p=true):?zR:=by
 show ?iY
 case b_=>cases r;exact .b_
 case bl=>obtain rfl:=r.isB;exact ?bY
 case int=>obtain rfl:=r.FL;exact ?bB
 case str=>obtain rfl:=r.KW;exact ?cY
 show ?Aj
theorem JW{K}(r:?fg)(q:p.all flat=true):?Ay:=by
 induction p generalizing v with
 |nil=>obtain rfl:=r.P2;show ?bJ
 |cons x p ih=>
  show ?sd;simp only[aik,abk]at q;exact ?p (DF h q.1) (ih r q.2)
theorem DG{K}(h:Fi (vj p>>=f) P e)(r:?av):∃a xs l,v=?C/\(Rd G a ?cm\/?ld)/\?DY:=by
 show ?Ep
 case tup=>
  exact ?NC
 case lst=>
  exact ?ND
 show ?cB
section
def DH(i:Nat)(ge:gZ->?k)(se:SE):?da:=ge ?bA>>=λp=>if flat p=true then .ok (.nx ?kK)else .bad
theorem QO{pos}(hN:X.N.Nodup)(hi:?dh=?F)(hx:?hY)(he:?hV)(hs:swapsWith e (some (?o x pos')) pos.line X.env=?ff:=by rfl)
  (hf:?lX:=by first|exact ?y|exact ?dz|show ?cJ):PS X (?di [?o x pos'] e pos) (iu X.K E X.kW (DH i ge)):=
 ?Sa λD σ H q=>(iu.full q λG0 P G se p h q G' H' v ex rv=>by obtain⟨hf,q⟩:=a_ q;exact q G _ _ ((h.keep ex.hh).Md i (DF rv hf)))
def M7(i:Nat)(gs:gZ->Rs (?e))(se:SE):?da:=gs ?jT>>=one (vg λl=>.ok (.nx ?oU))
theorem QP{pos}{pos' p p2}(hN:X.N.Nodup)(hi:?dh=?F)(hx:?hY)(hg:Gl X ?aC)(hm:X.mg ?aC=none)(he:PA X [e] ?cD)
  (hst:?oR=?kA::?eQ:=by rfl) (hf:?lX:=by first|exact ?y|exact ?dz|show ?cJ):
  PS X (?di [?o x pos'] (?I (?o ?aC p) [e] [] p2) pos) (iu X.K E X.kW (M7 i gs)):=
 (dy hN hi hx (kZ qF hg hm ank he (?c) ?ko hst rfl) rfl hf).imp λD σ H q=>iu.jA q λG0 P G se l h q G' H' vs ex rv=>by refine bI (cn q rv) λu p ach alV ru q=>?_;subst ach;refine bB (ki q ru) λa xs l aci hq rl q=>?_;rw[aci];exact⟨a,xs,rfl,YV.mono hq ex.gh,λp hp=>q _ _ _ ((?ni).lay i hp rl)⟩
def acj(K:aaU):V->?bD:=λx vs H Q=>∃l b xs zs,x=?ax/\vs=[?cH]/\H l=some ?cm/\(?Hg\/j9 K H b zs)/\?Nc
def sY(i:Nat)(ge:gZ->?k)(se:SE):?da:=E7 (λl=>?dd>>=λp=>vj p>>=?ME) ?iJ
def DI(i:Nat)(ge:gZ->?k)(se:SE):?da:=E7 (λl=>ge ?bA>>=λp=>vj p>>=λz=>if l.length+z.length<=sizeLine/\z.all flat=true then .ok (.nx (se.set i (.ow (l++z))))else .bad) ?iJ
variable{X:Cx}{E:XK}{e:Expr}{ge:gZ->?k}{i:Nat}{x:Str}{p2 apos cpos:Pos}(hi:?dh=?F)(hv:?pb)(he:?hV)(hst:?oR=?kA::?eQ)(hline:?iX)(hd:?bh)(hcd:?ok)
include hi hv he hst hline hd hcd
theorem Ik:PS X (?kn (?I (?aq (?o x p2) "extend" apos) [e] [] cpos) pos) (mC (Px X.K ?aC (acj X.K) (bj i) (bL (tP X.K E ge) ee))):=
 eu (mY agr an8 an9 (by
  refineλpins s σ H x vs v us Q I rx rv h=>jD h λl b xs zs ack acm hH hB hz q=>?_;clear h;subst ack;subst acm;rcases hB with hB|hB
  ·exact Bc _ s σ H _ _ v _ Q I rx rv ⟨l,b,xs,zs,rfl,rfl,hH,hB,hz,q⟩
  cases rx;refine ag rv.one λu acn ru=>?_;subst acn;cases ru;refine sE (I.Pz hH) λz aL n r hl e=>aG (I.tuple hB) λka r2 aco z2=>kc aco λo2 e2 c2 n2 d2=>?_;have hl2:=r2.length;have hsz:?Qf<=sizeLine:=?W
  show ?MA
  obtain⟨oc,od,odt,osl⟩:=o2;simp only at c2 d2;subst c2 d2;refine call_meets arC ?zh ari (aqX _ _)
   (Ge l _ n b _ _ _ _ Mj (?W) ?a) ⟨e,e2,(⟨.b_,_,I.Py hH e ?i ?Jf ?_,rfl,q⟩)⟩
  simp_all) (pv i hi hv hd hcd) (ak he aP hst) rfl (by rw[hst];rfl) hline hst rfl) rfl
theorem Il:PS X (?kn (?I (?aq (?o x p2) "extend" apos) [e] [] cpos) pos) (iu X.K E X.kW (sY i ge)):=
 (Ik hi hv he hst hline hd hcd).imp λD σ H ?xG=>by refine ag ?rC λl e1 q=>cH ?yG λa vs h1 h2 h3 h4 h5=>⟨_,h1,?wk,G,_,h.ex.gh,h.UT,Fi.mO q (λp _ q G' H' v ex rv=>(bB (DG q rv) λb zs z acp hb rb q=>?_)) ?sg⟩;subst acp;show ?sT;exact⟨a,b,vs,zs,rfl,rfl,?Kl,?Rm,by rw[h5.length,rb.length];exact hz,q _ _ _ ((?ni).chg e1 h1 (?Um rb))⟩
#where
theorem QQ{gs:GS}(hg:Gl X ?iu)(hm:X.mg ?iu=none)(ha:PA X [e] ?cD)(hs:?oR=[?kA]:=by rfl):
  PI X tg (?I (?o ?iu p) [e] [] pos) (yY X.K E (iV gs)):=
 (Dc hg hm ha hs).imp λσ H R h=>tF.seq h λG env ps s er h G1 H1 vs ex rv=>by refine bI (cn h rv) λu p acq alW ru h=>?_;subst acq;refine cJ (lR h ru) λa xs l alX acr hl r h=>?_;rw[acr];exact⟨_,_,rfl,.inl ?Ji,h _ _ _ ex (λi G H s1 s2=>by
have hq:cW X.K H _ _:=.inl (aV ?pr hl)
refine⟨?dc,λhi=>by simp only[r.length,hi,apr];exact ?cs⟩
have hi:=?Jg
rw[apr]at hi
rw[List.getElem?_reverse hi]at hp
refine ag (r.get hp) λu h1 h2=>?_
rw[<-r.length]at h1 hi
refine⟨⟨hi,_,u,hq,h1⟩,?zH⟩
show ?ty
have e:=y _ hq
rw[h1]at e
cases e
exact ?DM)⟩
#where
namespace PP
open PySem PySem.Spec PyProof.Rows L2
set_option backward.match.sparseCases false
structure Cfg where
 glob:Str->?lo
 fn:Str->Option (?e->?k)
 rs:Str->?cN
 cl:Str->Option (Addr×?t)
 fld:Addr->Str->Bool
def builtins:?t:=[?dG,"ord","all","any","sum","min","max","isinstance",?fW,?bZ,?aC,?be,?cR,?pJ,?br,?iu,?fq,?gD]
structure Im(c:Cfg)(P:Program)(w:World)(K:aaU)(mg:?bs)(base:Heap)(j:Nat):Prop where
 glob:∀x p,c.glob x=?Y->?Ll
 fn:∀x F,c.fn x=?kh->∃k ps,k<=j/\?sc
 rs:∀x n,c.rs x=?nU->?os
 three:3<=j
 cl:∀x C fs,c.cl x=some (C,fs)->∃k ps,k+1<=j/\Makes P w K mg base x C k ps fs
 fld:∀C f,?Iz->?rr/\?Cd
 none:∀x∈builtins,mg x=none
def isStar:?mT
 |.Starred ..=>true
 |_=>false
def isSet:?mT
 |.Set ..=>true
 |_=>false
def DJ:?mT
 |?I ..=>true
 |_=>false
def Br:?mT
 |?ln ..=>true
 |.SetComp ..=>true
 |.DictComp ..=>true
 |_=>false
def isSlice:?mT
 |.Slice ..=>true
 |_=>false
def noStar(l:?bz):Bool:=l.all λe=>! ?jR
def JX(sc:Scope)(x:Str):Bool:=?eP==?dK||(?eP==?cl||?eP==?hk)
def Bs(sc:Scope)(x:Str):Bool:=?eP==?dK||?eP==?cl
def Io(sc:Scope)(x:Str):Bool:=?eP==?wU
def okN(x:Str):Bool:=!(x==?Gx)&&!(x==?Uw)
theorem gC(h:?jR=false):starEach ?bp env=(false,?AZ)::starEach es env:=?rS
theorem xf:∀{es}{env}{pos},?yH->(?DJ).any ?aT=false
 |[],_,_,_=>rfl
 |e::es,env,pos,h=>by show ?Ya;rw[gC h.1];show(false||(?LX).any _)=false;rw[xf h.2];rfl
theorem Ip:∀{es}{env}{pos},?yH->(?DJ).all ?tP=true
 |[],_,_,_=>rfl
 |e::es,env,pos,h=>by show ?Ya;rw[gC h.1];show(!false&&(?LX).all _)=true;rw[Ip h.2];rfl
theorem Iq(h:?yH)(hl:es.length<30):((?DJ).all ?tP&&(backToKw pos ?Fg).all (λx=>x.1.isSome)
  &&decide ((es:?bz).length+?wr+?vG<30))=true:=by
 rw[Ip h];show(true&&true&&decide (es.length+0+0<30))=true;simpa using hl
theorem aJ(h:noStar ?bp=true):?jR=false/\?yH:=by simpa only[noStar,aik,abk,afI]using h
theorem q5(h:DJ e=false):attributeBase e f env w=w:=?rS
theorem Bt(h:isSet e=false):foldedSetIterable e env x=pure x:=?rS
theorem xg(h:Br e=false):swapsWith e t l env=?ff:=?rS
theorem M8(h:isSet e=false):behindInMarks op e=false:=?rS
theorem M9(h:isSlice e=false):A1 e:=by intro o i;cases e<;>first|rfl|(cases h)
theorem Bu(h:JX sc x=true):Cn sc x:=by unfold Cn;simpa only[JX,agD,beq_iff_eq]using h
theorem Bv(h:?Km):Loc sc x:=by unfold L2.Loc;simpa only[Bs,agD,beq_iff_eq]using h
theorem jL(h:?wM):?cX:=by unfold Gl Env.kindOf;simpa only[Io,beq_iff_eq]using h
theorem nq(h:okN x=true):?bh/\?ok:=by simpa only[okN,abk,afI]using h
theorem xh{N:?t}(h:?Yb=?fQ):N[i]?=?F:=by obtain⟨⟨z,h1,h2⟩,_⟩:=qV _ N i h;rw[h1,eq_of_beq h2]
def Vw(x:Str):Option (?e->?k):=
 if x=?dG then some aM else if x="ord"then some Dt else if x="all"then some lS else if x="any"then some anyF else if x="sum"then some sumF else if x="min"then some JI else if x="max"then some JH
 else if x="isinstance"then some eh else if x=?fW then some U2 else if x=?bZ then some Qu else if x=?aC then some Ia else if x=?be then some sR else none
def tyF(x:Str):?lo:=if x=?fW then some (.ty "int")else if x=?bZ then some (.ty ?bZ)else if x=?be then some (.ty ?be)else if x=?aC then some (.ty ?aC)else none
theorem aN{α:Type}[?le]{a b}{y:α}(h:?Fh=?bl):(c/\a=?bl)\/b=?bl:=by
 by_cases q:c
 ·rw[?nx]at h;exact .inl ⟨q,h⟩
 ·rw[?qM]at h;exact ?rx
def acs(X:Cx)(x:Str)(F:?e->?k):Prop:=x∈builtins/\?id/\?bh/\
 ((∃id r,eJ X (?U id) r/\(∀E,?zS)/\?gW=some (?U id))\/∃T r,eJ X (?n T) r/\(∀E,?zS)/\?gW=some (?n T))
theorem Vx(hc:?db)(h:Vw x=?kh):acs X x F:=by
 unfold Vw at h;show ?dI
 ·cases z;rw[e];exact⟨?g,?g,?g,.inl ⟨_,_,QJ,λ_=>abf,aml⟩⟩
 show ?dI
 ·cases z;rw[e];exact⟨?g,?g,?H,.inl ⟨_,_,CJ,λ_=>aat,aqO⟩⟩
 show ?dI
 ·cases z;rw[e];exact⟨?g,?g,?g,.inl ⟨_,_,Ut hc,λ_=>(λG H vs ps Q s r h=>by
refine ah (H_ s h r) λa bs acu ha h=>?_
rw[acu]
exact⟨_,bs,rfl,ha,h G H _ ?cj (?bY)⟩),PyProof.Rows.boot_all⟩⟩
 show ?dI
 ·cases z;rw[e];exact⟨?g,?g,?g,.inl ⟨_,_,Us hc,λ_=>(λG H vs ps Q s r h=>by
refine ah (H_ s h r) λa bs acv ha h=>?_
rw[acv]
exact⟨_,bs,rfl,ha,h G H _ ?cj (?bY)⟩),PyProof.Rows.boot_any⟩⟩
 show ?dI
 ·cases z;rw[e];exact⟨?g,?g,?g,.inl ⟨_,_,(by show ?me;refine ah h λa ns acw hs q=>?_;clear h;subst acw;refine ?rT;rw[?uD];exact PB ?cL hl.isList rv.ints λh' tk t' hk=>⟨?bB,H,I.kept hk,?ad,q⟩),λ_=>((λG H vs ps Q s r h=>by
refine ah (wZ s h r) λa bs acx ha h=>?_
rw[acx]
exact⟨_,bs,rfl,ha,?fZ⟩:kj X.K _ (ag8 X.K) sumF)),PyProof.Rows.boot_sum⟩⟩
 show ?dI
 ·cases z;rw[e];exact⟨?g,?g,?H,.inl ⟨_,_,(by show ?me;refine bI h λa ns acy hs hne q=>?_;clear h;subst acy;refine ?rT;rw[?uD];exact PH ?cL hl.isList rv.ints hne λh' tk m t' hk h1 h2=>⟨?bB,H,I.kept hk,?ad,q m h1 h2⟩),λ_=>ahB,PyProof.Rows.boot_min⟩⟩
 show ?dI
 ·cases z;rw[e];exact⟨?g,?g,?g,.inl ⟨_,_,(by show ?me;refine bI h λa ns acz hs hne q=>?_;clear h;subst acz;refine ?rT;rw[?uD];exact PF ?cL hl.isList rv.ints hne λh' tk m t' hk h1 h2=>⟨?bB,H,I.kept hk,?ad,q m h1 h2⟩),λ_=>ahA,PyProof.Rows.boot_max⟩⟩
 show ?dI
 ·cases z;rw[e];exact⟨?g,?g,?g,.inl ⟨_,_,(by
   refineλpins s σ H xs us Q I r h=>bB h λx T U MJ ht hU q=>?_;clear h;subst MJ;refine ah r.two λu w MK ru Jr=>?_;subst MK;obtain rfl:w=arA U:=Jr;have fin:∀b tk,b=?qQ->EP X _ σ Q _ {s with toks:=tk}:=λb tk e=>⟨?bP,H,?cG,rfl,by rw[e];exact q⟩;cases x with
   |int i=>
    show ?Lk;have ht:T=?fW:=ht;subst ht;show ?Eh
    ·exact IsiPair.int_int ?ii
    ·exact IsiPair.int_str ?ii
    ·exact IsiPair.int_tuple ?ii
   |str i=>
    show ?Lk;have ht:T=?bZ:=ht;subst ht;show ?Eh
    ·exact IsiPair.str_int ?ii
    ·exact IsiPair.str_str ?ii
    ·exact IsiPair.str_tuple ?ii
   |b_=>
    obtain rfl:u=ajC:=ru;subst ht;rcases hU with rfl|⟨_,z⟩
    ·exact IsiPair.NoneType_int ?ii
    ·exact ?Kn
   |ref p=>
    obtain rfl:u=afZ p:=ru;obtain⟨ht,xs,hq⟩:=ht;subst ht;refine aG (?is) λaL _ ait _=>?_;obtain⟨o,ho,hc,_⟩:=ait;show ?Eh
    ·exact IsiPair.tuple_int ho hc ?ii
    ·exact IsiPair.tuple_str ho hc ?ii
    ·exact IsiPair.tuple_tuple ho hc ?ii
   |_=>exact ag0 ht),λ_=>ahD,PyProof.Rows.boot_isinstance⟩⟩
 show ?dI
 ·cases z;rw[e];exact⟨?g,?g,?g,.inr ⟨_,_,A7,λ_=>(λG H vs ps Q s r h=>by
refine bI ?hB λu q acA alZ ru h=>?_
rw[acA]
refine aG (ir h ru) λx al0 acB h=>?_
rw[acB]
refine ag ?iN λn e h=>?_
show ?mt
exact⟨_,n,rfl,e,hz,?fZ⟩),aqP⟩⟩
 show ?dI
 ·cases z;rw[e];exact⟨?g,?g,?g,.inr ⟨_,_,(by
   refine eJ.or ?_ (by refineλpins s σ H xs us Q I r h=>aG h λi Vy hz q=>?_;clear h;subst Vy;refine La ?iy λu Vz t aiu=>?_;subst Vz;subst aiu;exact PySem.P.str_of_int hz ⟨?cY,H,?cG,?ad,q⟩)
   refineλpins s σ H xs us Q I r h=>ag h λa acC q=>?_;clear h;subst acC;refine La ?iy λu acD t acE=>?_;subst acD;subst acE;exact PySem.P.str_of_str ⟨?dC,H,I,?Lm,q⟩),λ_=>ahU,aqQ⟩⟩
 show ?dI
 ·cases z;rw[e];exact⟨?g,?g,?g,.inr ⟨_,_,qF,λ_=>(λG H vs ps Q s r h=>by
refine bI ?hB λu p acF al1 ru h=>?_
subst acF
refine bB ?BF λa xs l acG hq rl h=>?_
rw[acG]
exact⟨_,_,rfl,YV.mono hq s,z0 s rl h⟩),ank⟩⟩
 show ?dI
 ·cases z;rw[e];exact⟨?g,?g,?g,.inr ⟨_,_,pd,λ_=>US,aop⟩⟩
 show ?w
def mtF(x:Str):Option (String×(PV->?e->?k)):=
 if x="isdigit"then some (?bZ,F5)else if x="startswith"then some (?bZ,Bh)else if x="split"then some (?bZ,U1)else if x="join"then some (?bZ,qW)else if x="index"then some (?aC,Bg)else none
theorem acH(h:mtF x=some (T,F)):∃id r,?zP/\PySem.Slot T x id/\typeOf (?U id)=pure (?n ?xi)/\?BC/\∀E,MtP X.K E T r F:=by
 show ?dI
 ·cases z;rw[e];exact⟨_,_,al2,PySem.F.slot_str_isdigit,PySem.F.type_str_isdigit,(mt0 (C:=λ_=>True) (g:=λa=>?WI) λ_ _ s _ _ h=>PySem.SC.isdigit (h _ s.toks rfl)),λ_=>(λG H x vs p ps Q s rx rvs h=>by
refine aG (ir h rx) λa al3 acI h=>?_
rw[acI]
refine i8 (Ds h rvs) λacJ al4 h=>?_
subst acJ
exact⟨_,rfl,rfl,trivial,h G H _ ?cj (?bY)⟩)⟩
 show ?dI
 ·cases z;rw[e];exact⟨_,_,al2,PySem.F.slot_str_startswith,PySem.F.type_str_startswith,(mt1 (g:=λa b=>.bl (asE a b)) λ_ _ _ _ s _ h=>PySem.SC.startswith (h _ s.toks rfl)),λ_=>(λG H x vs p ps Q s rx rvs h=>by
obtain⟨a,rfl,rfl,h⟩:=ir h rx
obtain⟨u,q,rfl,rfl,ru,h⟩:=cn h rvs
obtain⟨b,rfl,rfl,h⟩:=ir h ru
exact⟨_,_,rfl,rfl,h G H _ ?cj (?bY)⟩)⟩
 show ?dI
 ·cases z;rw[e];exact⟨_,_,al2,PySem.F.slot_str_split,PySem.F.type_str_split,De,λ_=>(λG H x vs p ps Q s rx rvs h=>by
refine aG (ir h rx) λa al5 acK h=>?_
rw[acK]
refine i8 (Ds h rvs) λacL al6 h=>?_
subst acL
show ?mt
exact⟨_,rfl,rfl,hz,z0 s (aI.strs _) h⟩)⟩
 show ?dI
 ·cases z;rw[e];exact⟨_,_,al2,aqR,aqS,HJ,λ_=>SH⟩
 show ?dI
 ·cases z;rw[e];exact⟨_,_,agr,aqe,PySem.F.type_list_index,LF,λ_=>UZ⟩
 show ?w
def Gf(c:Cfg)(f:Str):PV->?k
 |.ins C fs=>if ?Iz then(match ?jC with
  |?Y=>?bC
  |none=>.bad)else .bad
 |_=>.bad
theorem QR{X}{E}{ge:GE}{f}(hc:∀C f,?Iz->?qI/\?AY)(he:?hV)(hb:attributeBase e f X.env (?ea)=?ea):
  PE X (?aq e f pos) (tP X.K E (cU (Gf c f) ge)):=
 (kM he hb).imp λσ H Q ?Hj=>by
  refine⟨G,env,s,er,?_⟩;unfold cU at h;cases e1:ge _ with
  |ok p=>
   rw[e1]at h;intro G' H' v ex rv;have h2:fq _ E (Gf c f p) G H Q:=h;clear h e1;cases rv with
   |ins ha r=>
    simp only[Gf]at h2;split at h2
    ·rename_i hf;obtain⟨h3,h4⟩:=hc _ _ hf;split at h2
     ·rename_i z hz;exact ag (r.lookup hz) λu h5 h6=>⟨_,_,_,_,u,rfl,ex.gh _ _ ha,h3,h4,h5,h2 _ _ u ex h6⟩
     ·exact h2.elim
    ·exact h2.elim
   |_=>exact h2.elim
  |ex n=>rw[e1]at h;exact h
  |bad=>rw[e1]at h;exact h
set_option backward.match.sparseCases true
set_option backward.match.sparseCases false
abbrev eB:GE:=?hw
abbrev sB:GS:=?hw
abbrev tB:GB:=?hw
abbrev oB:GO:=?hw
def q_{α:Type}(f:α->GE):?dL->GE
 |?cr=>f a
 |none=>eB
def QT:Expr->Option Str
 |?cu v _ _=>(match v with
  |?dC=>?cr
  |_=>none)
 |_=>none
def jk:Expr->Option Str
 |?o x _=>?F
 |_=>none
theorem sZ(h:QT e=?cr):∃j p,e=?cu (?dC) j p:=by
 show ?ij
 case Constant v j p=>
  rcases v with⟨⟩
  case str=>cases h;exact ?jw
  all_goals show ?w
 all_goals show ?w
theorem cY(h:jk e=?cr):∃p,e=?o a p:=by
 show ?ij
 case Name x p=>cases h;exact ?ad
 all_goals show ?w
def aiv:Expr->?KH
 |?HH v k o _=>if ?WR then ?V else none
 |_=>none
def Ag:Expr->Option (Str×?bz)
 |?I f as ks _=>if ?yn then(jk f).map λx=>(x,as)else none
 |_=>none
theorem pR(h:Ag e=some (x,as)):∃p q,e=?I (?o x p) as [] q:=by
 show ?ij
 case Call f bs ks q=>
  by_cases z:?yn
  ·refine ag (afv.mp ((?ek).symm.trans h)) λy h1 h2=>?_;cases h2;obtain⟨p,rfl⟩:=cY h1;grind
  ·cases(?gv).symm.trans h
 all_goals show ?w
def M_:Const->GE
 |?O=>cK (?O)
 |?eI b=>cK (?bP)
 |?P=>cK .b_
 |?cW=>cK ?ag
 |_=>eB
def rg(N:?t)(x:Str):?Bb:=?Yb
def Na(c:Cfg)(N:?t)(sc:Scope)(x:Str):GE:=match rg N x with
 |?fQ=>if(JX sc x&&okN x)=true then look i else eB
 |none=>if(Io sc x&&okN x)=true then(match tyF x with
  |?Y=>cK p
  |none=>q_ cK (c.glob x))else eB
def aiw(op:CmpOp)(ga gb:GE):GE:=match op with
 |.Lt=>c2 Cq ga gb
 |.LtE=>c2 Y_ ga gb
 |.Gt=>c2 E6 ga gb
 |.GtE=>c2 WT ga gb
 |.Eq=>c2 ?G ga gb
 |.NotEq=>c2 ?cn ga gb
 |.In=>c2 ?dw ga gb
 |.NotIn=>c2 ?fG ga gb
 |_=>eB
def uM:?sv->Option (?t)
 |[]=>some []
 |o::r=>(o.bind QT).bind λk=>(uM r).map λl=>k::l
def isNone:?mT
 |?cu v _ _=>(match v with
  |?P=>true
  |_=>false)
 |_=>false
def Nb(c:Cfg)(x:Str):Option (?e->?k):=match Vw x with
 |?kh=>?kh
 |none=>match c.fn x with
  |?kh=>?kh
  |none=>match c.cl x with
   |some (C,fs)=>some (U0 C fs)
   |none=>none
def S3(x y:Str)(as:?bz):Option (Str×?bz×(?e->?k)):=
 if x=?dG/\y=?fq/\as.length=1 then some (y,as,lsF)else if x=?aC/\y=?cR/\as.length=1 then some (y,as,lrF)else if x=?gD/\y=?br/\as.length=2 then some (y,as,dzF)else none
def pairF(x:Str):?bz->Option (Str×?bz×(?e->?k))
 |[e]=>(Ag e).bind λz=>S3 x z.1 z.2
 |_=>none
def itF(tp:Bool)(x:Str)(k:Nat):Option (?e->Rs (?e)):=if x=?cR/\k=1 then some FT else if x=?cR/\k=2 then some FU else if x=?pJ/\k=1/\tp=true then some qQ else if x=?br/\k=2 then some JK else if x=?iu/\k=1 then some Vv else none
def QU(sc scope:Scope):Scope:={scope with names:=scope.names.map λx=>match x with
 |?fX=>if(k==?dp&&?mn&&?oW==?cl)=true then(n,?dD)else ?fX}
def tgB(sc scope:Scope)(x:Str):Bool:=Bs ?tt x&&((?Vw==?cl)||((QU sc scope).names.lookup x==?dK))
mutual
def dE:Nat->Cfg->?t->Scope->Expr->GE
 |0,_,_,_,_=>eB
 |n+1,c,N,sc,e=>match e with
  |?o x _=>Na c N sc x
  |?cu v _ _=>M_ v
  |?ka es _ _=>cF ?xW fu
  |.List es _=>cF ?xW nh
  |.BinOp a op b _=>(match op with
   |.Add=>c2 fw ?eU ?sM
   |.Sub=>c2 P9 ?eU ?sM
   |_=>eB)
  |?qD op a _=>(match op with
   |.Not=>cN ?eU
   |.USub=>cU aah ?eU
   |_=>eB)
  |?eD op vs _=>dB n c N sc op vs
  |?lt a ops bs _=>?VM
  |.IfExp t a b _=>cI (?zr) ?eU ?sM
  |?ln elt gens scope _=>(match gens with
   |[g]=>dL n c N sc elt g scope
   |_=>eB)
  |?hn a i _=>dX n c N sc a i
  |?aq a f _=>if DJ a=true then eB else cU (Gf c f) ?eU
  |.Dict ks vs _=>q_ (λl=>if ?xF/\?rD/\l.length<=15 then cF (dA n c N sc vs) (Aa l)else eB) (uM ks)
  |.JoinedStr vs _=>(match vs with
   |[x,y,z]=>q_ (λa=>q_ (λv=>q_ (λb=>if ?Gf then cU (Qv a b) (dE n c N sc v)else eB) (QT z)) (aiv y)) (QT x)
   |_=>eB)
  |?I f args kws pos=>if kws.isEmpty=true then dK n c N sc f args pos else eB
  |_=>eB
def dA:Nat->Cfg->?t->Scope->?bz->GS
 |0,_,_,_,_=>sB
 |_+1,_,_,_,[]=>c0
 |n+1,c,N,sc,e::es=>if ?jR=true then sB else c1 ?gg ?xW
def dB:Nat->Cfg->?t->Scope->BoolOp->?bz->GE
 |0,_,_,_,_,_=>eB
 |n+1,c,N,sc,op,vs=>match vs with
  |[]=>eB
  |[a]=>dE n c N sc a
  |?nG=>match op with
   |.And=>cA ?eU (dB n c N sc .And (b::r))
   |.Or=>cO ?eU (dB n c N sc .Or (b::r))
def dC:Nat->Cfg->?t->Scope->Expr->List CmpOp->?bz->GE
 |0,_,_,_,_,_,_=>eB
 |n+1,c,N,sc,a,ops,bs=>match ops,bs with
  |[op],[b]=>if op=.Is then(if ?tu then cU (vi false) ?eU else eB)else if op=.IsNot then(if ?tu then cU ?BH ?eU else eB)
   else if isSet b=true then eB else aiw op ?eU ?sM
  |_,_=>eB
def dT:Nat->Cfg->?t->Scope->Expr->GB
 |0,_,_,_,_=>tB
 |n+1,c,N,sc,e=>match e with
  |?qD op a _=>(match op with
   |.Not=>bN (?zs)
   |_=>tB)
  |?eD op vs _=>dW n c N sc op vs
  |?lt a ops bs _=>bV (?VM)
  |?o x p=>bV (dE n c N sc (?o x p))
  |?I f as ks p=>bV (dE n c N sc (?I f as ks p))
  |?aq a f p=>bV (dE n c N sc (?aq a f p))
  |?hn a i p=>bV (dE n c N sc (?hn a i p))
  |_=>tB
def dW:Nat->Cfg->?t->Scope->BoolOp->?bz->GB
 |0,_,_,_,_,_=>tB
 |n+1,c,N,sc,op,vs=>match vs with
  |[]=>tB
  |[a]=>?zs
  |?nG=>match op with
   |.And=>bA (?zs) (dW n c N sc .And (b::r))
   |.Or=>bO (?zs) (dW n c N sc .Or (b::r))
def dI:Nat->Cfg->?t->Scope->Bool->Expr->GS
 |0,_,_,_,_,_=>sB
 |n+1,c,N,sc,tp,e=>match e with
  |?I f as ks q=>(match f with
   |?o x p=>(match ?Gl with
    |?kh=>if(Io sc x&&?uK&&ks.isEmpty)=true then(λenv=>dA n c N sc as env>>=F)else sB
    |none=>iA (dE n c N sc (?I (?o x p) as ks q)))
   |?aq o m apos=>if m="values"then(if ?Nn then iG ?yu else sB)else iA (dE n c N sc (?I (?aq o m apos) as ks q))
   |f=>iA (dE n c N sc (?I f as ks q)))
  |e=>iA ?gg
def dL:Nat->Cfg->?t->Scope->Expr->Comprehension->Scope->GE
 |0,_,_,_,_,_,_=>eB
 |n+1,c,N,sc,elt,g,scope=>if g.is_async=0/\?Yc then(match g.target with
  |?o x _=>q_ (λi=>if(Qk N sc scope [(x,i)]&&tgB sc scope x)=true then dM N.length [i] (dI n c N sc false g.iter) (bu i) (vY n c N ?tt g.ifs) (dE n c N ?tt elt)else eB) (rg N x)
  |?ka es _ _=>(match es with
   |?aE=>q_ (λx=>q_ (λy=>q_ (λi=>q_ (λj=>if(Qk N sc scope [(x,i),(y,j)]&&(tgB sc scope x&&tgB sc scope y))=true then dM N.length [i,j] (dI n c N sc true g.iter) (A_ [i,j]) (vY n c N ?tt g.ifs) (dE n c N ?tt elt)else eB) (rg N y)) (rg N x)) (jk b)) (jk a)
   |_=>eB)
  |_=>eB)else eB
def vY:Nat->Cfg->?t->Scope->?bz->GB
 |0,_,_,_,_=>tB
 |n+1,c,N,sc,ts=>match ts with
  |[]=>bT
  |[t]=>?zr
  |_=>tB
def dX:Nat->Cfg->?t->Scope->Expr->Expr->GE
 |0,_,_,_,_,_=>eB
 |n+1,c,N,sc,a,i=>match i with
  |.Slice lo hi st _=>if st.isNone=true then FY ?eU (dO n c N sc lo) (dO n c N sc hi)else eB
  |i=>c2 aU ?eU (dE n c N sc i)
def dO:Nat->Cfg->?t->Scope->?KH->GO
 |0,_,_,_,_=>oB
 |_+1,_,_,_,none=>oN
 |n+1,c,N,sc,?gG=>oS ?gg
def dK:Nat->Cfg->?t->Scope->Expr->?bz->Pos->GE
 |0,_,_,_,_,_,_=>eB
 |n+1,c,N,sc,f,as,pos=>match f with
  |?o x _=>if(Io sc x&&okN x&&?uK&&!as.isEmpty)=true then(match pairF x as with
   |?kd=>if(Io sc z.1&&noStar ?hM)=true then cF (dA n c N sc ?hM) z.2.2 else eB
   |none=>q_ (λF=>cF (dA n c N sc as) F) (Nb c x))else eB
  |?aq o m apos=>if(!DJ o&&?uK&&(apos.endLine==pos.line)&&decide (as.length<30))=true then
    (if m="get"then(match as with
     |?aE=>cG ?yu ?eU ?sM
     |_=>eB)
    else q_ (λz=>match as with
      |[]=>cM z.1 z.2 ?yu c0
      |a::r=>cM z.1 z.2 ?yu (dA n c N sc (a::r))) (mtF m))else eB
  |_=>eB
end
set_option backward.match.sparseCases true
structure At(c:Cfg)(X:Cx)(E:XK)(j:Nat):Prop where
 nd:X.N.Nodup
 room:?vf
 ok:Im c X.prog X.w X.K X.mg X.base j
 px:?wc
 calm:?db
theorem At.lG(a:?bt)s H scope cl C fp:At c ?bS E0 j:=
 ⟨a.nd,a.room,a.ok,Mq,a.calm⟩
section
theorem bo:PE X e (tP X.K E eB):=λ_ _ _ _ _ _ acN=>ah acN ?kE
theorem jc:PT X e ?Jn:=λ_ _ _ _ _ _ acO=>ah acO ?kE
theorem Nc:PW X e ?Jn:=λ_ _ _ _ _ _ _ acP=>ah acP ?kE
theorem Ir:KS X es ?Jn:=λ_ _ _ _ _ _ acQ=>ah acQ ?kE
theorem Nd:PA X es (pj X.K E sB):=λ_ _ _ _ _ _ _ acR=>ah acR ?kE
theorem Gg:PI X tg e (yY X.K E sB):=λ_ _ _ _ _ _ acS=>ah acS ?kE
theorem uN [?le]{g:GE}(h:c->PE X e ?Kj):PE X e (tP X.K E (if c then g else eB)):=by
 by_cases z:c
 ·rw[?ek];exact h z
 ·rw[?gv];exact bo
theorem VA [?le]{g:GE}(h:¬c->PE X e ?Kj):PE X e (tP X.K E (if c then eB else g)):=by
 by_cases z:c
 ·rw[?ek];exact bo
 ·rw[?gv];exact h z
theorem pS(h:∀a,o=?cr->PE X e (tP X.K E ?dF)):PE X e (tP X.K E (q_ f o)):=by
 show ?uu
 ·exact bo
 ·exact h a rfl
theorem xi{X:Cx}(h:?vf):?Gg:=by have:=h.un;lia
#where
def xj(X:Cx)(E:XK)(elt:Expr)(g:Comprehension)(scope:Scope)(ge:GE):Prop:=ge=eB\/∃(own:?mu)(gg:TG)(ft:?zo)(tv:?aw)(gi:GS)(gt:GB)(gl:GE),g.is_async=0/\?Yc/\PI X g.target g.iter (yY X.K E gi)/\?kt/\
 (∀s H C cl fp,PG ?bS g.target gg)/\Sr X.K gg ft tv/\(∀v∈tv,v∈?dX)/\
 (∀s H C cl fp,KS ?bS g.ifs ?yA)/\
 (∀s H C cl fp,PE ?bS elt (tP X.K E0 gl))/\ge=dM X.N.length (?dX) gi ft gt gl
theorem S4{ft}{gi:GS}{gt:GB}{gl:GE}(h1:isSet it=false)(h2:PI X tg it (yY X.K E gi))(h3:?kt)
  (h4:∀(s:Shared)(H:Hp)(C:Addr)(cl:?aU)(fp:?X),PG ?bS tg gg) (h5:Sr X.K gg ft tv) (h6:∀v∈tv,v∈?dX)
  (h7:∀(s:Shared)(H:Hp)(C:Addr)(cl:?aU)(fp:?X),KS ?bS ifs ?yA)
  (h8:∀(s:Shared)(H:Hp)(C:Addr)(cl:?aU)(fp:?X),PE ?bS elt (tP X.K E0 gl)):xj X E elt ⟨tg,it,ifs,0⟩ scope (dM X.N.length (?dX) gi ft gt gl):=
 .inr ⟨own,gg,ft,tv,gi,gt,gl,rfl,h1,h2,h3,h4,h5,h6,h7,h8,rfl⟩
theorem xj.pe(a:?bt)(h:?UM):PE X (?ln elt [g] scope pos) (tP X.K E ge):=by
 rcases h with rfl|⟨own,gg,ft,tv,gi,gt,gl,h0,hs,h1,h2,h3,h4,h5,h6,h7,z⟩
 ·exact bo
 ·show ?GG;obtain rfl:as=0:=h0;rw[z];exact Mc a.calm a.nd h1 h2 h3 h4 h5 h6 h7 λx=>Bt hs
structure K3(n:Nat):Prop where
 E:∀{c:Cfg}{X:Cx}{E:XK}{j:Nat},?bt->∀e,PE X e (tP X.K E ?Sg)
 A:∀{c:Cfg}{X:Cx}{E:XK}{j:Nat},?bt->∀es,PA X es (pj X.K E (dA n c X.N X.env.scope es))
 D:∀{c:Cfg}{X:Cx}{E:XK}{j:Nat},?bt->∀ks vs l pos,uM ks=?dS->?xF->PD X E pos ks vs l (dA n c X.N X.env.scope vs)
 B:∀{c:Cfg}{X:Cx}{E:XK}{j:Nat},?bt->∀op vs pos,PE X (?eD op vs pos) (tP X.K E (dB n c X.N X.env.scope op vs))
 C:∀{c:Cfg}{X:Cx}{E:XK}{j:Nat},?bt->∀a ops bs pos,PE X (?lt a ops bs pos) (tP X.K E ?PJ)/\PT X (?lt a ops bs pos) (j_ X.K E (bV ?PJ))
 T:∀{c:Cfg}{X:Cx}{E:XK}{j:Nat},?bt->∀e,PT X e (j_ X.K E (dT n c X.N X.env.scope e))
 W:∀{c:Cfg}{X:Cx}{E:XK}{j:Nat},?bt->∀op vs pos,PW X (?eD op vs pos) (j_ X.K E (dW n c X.N X.env.scope op vs))
 I:∀{c:Cfg}{X:Cx}{E:XK}{j:Nat},?bt->∀tp tg e,(?vO)->PI X tg e (yY X.K E (dI n c X.N X.env.scope tp e))
 L:∀{c:Cfg}{X:Cx}{E:XK}{j:Nat},?bt->∀elt g scope,xj X E elt g scope (dL n c X.N X.env.scope elt g scope)
 Ts:∀{c:Cfg}{X:Cx}{E:XK}{j:Nat},?bt->∀ts,KS X ts (j_ X.K E (vY n c X.N X.env.scope ts))
 X:∀{c:Cfg}{X:Cx}{E:XK}{j:Nat},?bt->∀a i pos,PE X (?hn a i pos) (tP X.K E (dX n c X.N X.env.scope a i))
 O:∀{c:Cfg}{X:Cx}{E:XK}{j:Nat},?bt->∀o,PO X o (tPO X.K E (dO n c X.N X.env.scope o))
 K:∀{c:Cfg}{X:Cx}{E:XK}{j:Nat},?bt->∀f as pos,PE X (?I f as [] pos) (tP X.K E (dK n c X.N X.env.scope f as pos))
theorem PD.bad(h:PD X E pos ks vs l gs):?UN:=ag h λtrs h _=>⟨trs,h,λ_ _ _ acT=>ah acT ?kE⟩
theorem keys_cons(h:uM (k::ks)=?dS):∃x i p l',k=some (?cu ?ag i p)/\uM ks=some l'/\l=x::l':=by refine ag ?li λx h1 h=>ag ?Be λl' h2 h3=>ag (afu.mp h1) λe acU h1=>?_;rw[acU];refine uu (sZ h1) λi p acV=>?_;rw[acV];exact⟨x,i,p,l',rfl,h2,h3.symm⟩
theorem Iu:∀ks vs l,uM ks=?dS->?xF->?UN
 |[],vs,l,h,hl=>by
  cases h;cases vs with
  |nil=>exact Mz.bad
  |cons _ _=>cases hl
 |k::ks,vs,l,h,hl=>by
  refine vP ?Jo λx i p l' acW h1 acX=>?_;rw[acW];subst acX;cases vs with
  |nil=>cases hl
  |cons v vs=>exact(Ie (bo) (Iu _ _ _ h1 ?oJ)).bad
section
theorem VB(a:?bt)x pos:PE X (?o x pos) (tP X.K E (Na c X.N X.env.scope x)):=by
 unfold Na;rcases hi:rg _ x with _|i
 ·refine uN ?cS;show ?aR;rcases hp:tyF x with _|p
  ·exact pS λp hp=>qT (a.ok.glob _ _ hp) (jL h.1) (nq h.2).1
  ·obtain⟨b1,b2,b3,T,rfl,b4⟩:=(show x∈builtins/\?id/\?bh/\∃T,p=.ty T/\?gW=some (?n T)from by
    show ?wP
    ·cases z;rw[e];exact⟨?g,?g,rfl,_,rfl,aqP⟩
    show ?wP
    ·cases z;rw[e];exact⟨?g,?g,rfl,_,rfl,aqQ⟩
    show ?wP
    ·cases z;rw[e];exact⟨?g,?g,rfl,_,rfl,aop⟩
    show ?wP
    ·cases z;rw[e];exact⟨?g,?g,?g,_,rfl,ank⟩
    exact nn hp)
   exact ZP (jL h.1) ?Hl b4 b2 b3
 ·refine uN ?cS;show ?aR;obtain⟨h1,h2⟩:=nq h.2;exact cX i (xh hi) (Bu h.1) h1 h2
theorem QV v k pos:PE X (?cu v k pos) (tP X.K E (M_ v)):=by
 rcases v with⟨⟩
 case int=>exact(JC lL λ_=>?bB)
 case bool=>exact(JC (λ_ _ _ H _ I h=>Constant_bool ⟨?bY,H,I,rfl,h⟩) λ_=>?bY)
 case none=>exact(JC (λ_ _ _ H _ I h=>Constant_none ⟨.b_,H,I,rfl,h⟩) λ_=>.b_)
 case str=>exact wO
 show ?ub
theorem Ah(h:?tu):∃k p,b=?cu ?P k p:=by
 rcases b with⟨⟩
 case Constant v k p=>
  rcases v with⟨⟩
  case none=>exact ?jw
  show ?Aj
 show ?Aj
theorem s_C(S:K3 n)(a:?bt)(x:Expr)ops bs(pos:Pos):
  PE X (?lt x ops bs pos) (tP X.K E ?OS)/\PT X (?lt x ops bs pos) (j_ X.K E (bV ?OS)):=by
 rcases ops with _|⟨op,_|⟨_,_⟩⟩
 ·exact ?jG
 ·rcases bs with _|⟨b,_|⟨_,_⟩⟩
  ·exact ?jG
  ·unfold dC;dsimp only;by_cases h:op=.Is
   ·subst h;rw[?bV];by_cases h:?tu
    ·refine uu (Ah h) λk p acY=>?_;subst acY;exact⟨((Le (Ld ?bG)).imp λ_ _ _ h=>So h),((Lf (Ld ?bG)).imp λ_ _ _ h=>So (Di h))⟩
    ·rw[?fK];exact ?jG
   ·rw[?fK];by_cases h:op=.IsNot
    ·subst h;rw[?bV];by_cases h:?tu
     ·refine uu (Ah h) λk p acZ=>?_;subst acZ;exact⟨((Le (Hs ?bG)).imp λ_ _ _ h=>L7 h),((Lf (Hs ?bG)).imp λ_ _ _ h=>L7 (Di h))⟩
     ·rw[?fK];exact ?jG
    ·rw[?fK];rcases h:isSet b with _|_
     ·have hm:=M8 (op:=op) h;have hu:=xi a.room;have hu0:?FT:=?M
      cases op with
      |Lt=>exact⟨ng R9 ?jg ?bG ?eg hm,gB R9 ?jg ?bG ?eg hm⟩
      |LtE=>exact⟨ng R_ ?jg ?bG ?eg hm,gB R_ ?jg ?bG ?eg hm⟩
      |Gt=>exact⟨ng Hw ?jg ?bG ?eg hm,gB Hw ?jg ?bG ?eg hm⟩
      |GtE=>exact⟨ng Lm ?jg ?bG ?eg hm,gB Lm ?jg ?bG ?eg hm⟩
      |Eq=>exact⟨ng (wA hu0) Y6 ?bG ?eg hm,gB (wA hu0) Y6 ?bG ?eg hm⟩
      |NotEq=>exact⟨ng (LG hu0) neP ?bG ?eg hm,gB (LG hu0) neP ?bG ?eg hm⟩
      |In=>exact⟨ng (Mx hu) (Qw false) ?bG ?eg hm,gB (Mx hu) (Qw false) ?bG ?eg hm⟩
      |NotIn=>exact⟨ng (z_ hu) (Qw true) ?bG ?eg hm,gB (z_ hu) (Qw true) ?bG ?eg hm⟩
      |_=>exact ?jG
     ·exact ?jG
  ·exact ?jG
 ·exact ?jG
theorem s_B(S:K3 n)(a:?bt)op vs pos:PE X (?eD op vs pos) (tP X.K E (dB ?eJ c X.N X.env.scope op vs)):=by
 show ?UO
 ·exact bo
 ·exact((λpins s σ H Q I hw=>BoolOp_one (?dM _ s σ H Q I hw)))
 ·rcases op with _|_
  ·exact((T3 ?dM (?Ln)).imp λ_ _ _ h=>tF.seq h λG env p s er h G' H' v ex rv=>by
    refine ?Py;show ?uv
    ·exact yU (h _ _ _ ex (?bY))
    ·exact wI ?vE)
  ·exact((Xu ?dM (?Ln)).imp λ_ _ _ h=>tF.seq h λG env p s er h G' H' v ex rv=>by
    refine ?Py;show ?uv
    ·exact yU ?vE
    ·exact wI (h _ _ _ ex (?bY)))
theorem s_X(S:K3 n)(a:?bt)x i pos:PE X (?hn x i pos) (tP X.K E (dX ?eJ c X.N X.env.scope x i)):=by
 have hu:?oX:=akw (anZ ?lH _) (xi a.room);rcases i with⟨⟩
 case Slice lo hi st p=>
  rcases st with _|z
  ·exact L5 ?bG (S.O a _) (S.O a _)
  ·exact bo
 all_goals exact Y2 (U7 hu) ahW ?bG ?dM (M9 rfl)
theorem DK{α:Type}{l:?aa}(h:l.length=1):∃a,l=[a]:=List.length_eq_one_iff.mp h
theorem Nf{α:Type}{l:?aa}(h:l.length=2):∃a b,l=?aE:=by
 rcases l with _|⟨a,_|⟨b,_|⟨_,_⟩⟩⟩
 case cons.cons.nil=>exact⟨a,b,rfl⟩
 all_goals show ?aR
theorem aix(S:K3 n)(a:?bt)(ht:?vO)(hF:?Gl=?kh)(h1:?wM)(h2:?uK=true):PI X tg (?I (?o x p) as [] q) (yY X.K E λenv=>dA n c X.N X.env.scope as env>>=F):=by
 have hg:=jL (X:=X) h1;unfold itF at hF;show ?vY
 ·cases z;show ?sC;exact L_ hg (a.ok.none _ (?g)) ?eh (by rw[?mI];rfl)
 show ?vY
 ·cases z;refine uu (Nf e2) λb d ac0=>?_;subst ac0;exact Ma hg (a.ok.none _ (?g)) ?eh (by rw[?mI,?FJ];rfl) (by rw[?FJ];rfl)
 rcases aN hF with⟨⟨rfl,e2,e3⟩,z⟩|hF
 ·cases z;refine Jh (ht e3) λes k p ac1=>?_;subst ac1;show ?sC;exact Dl hg (a.ok.none _ (?g)) ?eh (by rw[?mI];rfl)
 show ?vY
 ·cases z;refine uu (Nf e2) λb d ac2=>?_;subst ac2;exact Qr hg (a.ok.none _ (?g)) ?eh (?mI) (xf (aJ h2).2)
 show ?vY
 ·cases z;show ?sC;exact QQ hg (a.ok.none _ (?g)) ?eh (by rw[?mI];rfl)
 cases hF
theorem s_I{c:Cfg}{X:Cx}{E:XK}{j n:Nat}(S:K3 n)(a:?bt)(tp:Bool)(tg e:Expr)(ht:?vO):PI X tg e (yY X.K E (dI ?eJ c X.N X.env.scope tp e)):=by
 show ?ij
 case Call f as ks q=>
  rcases f with⟨⟩
  case Name x p=>
   unfold dI
   dsimp only
   rcases hF:?Gl with _|F
   ·exact lU ?dM
   ·by_cases h:(Io X.env.scope x&&?uK&&ks.isEmpty)=true
    ·rw[abk,abk]at h;obtain rfl:=anQ.mp h.2;dsimp only;rw[if_pos (by rw[h.1.1,h.1.2];rfl)];exact aix S a ht hF h.1.1 h.1.2
    ·dsimp only;rw[?fK];exact Gg
  case Attribute o m apos=>
   unfold dI
   dsimp only
   by_cases hm:m="values"
   ·subst hm;rw[?bV];by_cases h:?Nn
    ·rw[?uZ];show ?Ko;obtain rfl:=anQ.mp h.1.1.1;obtain rfl:=anQ.mp h.1.1.2;exact MM ?dM (q5 h.1.2) h.2
    ·rw[?fK];exact Gg
   ·rw[if_neg hm];exact lU ?dM
  all_goals exact lU ?dM
 all_goals exact lU ?dM
theorem VC{X:Cx}:(X.lG s H scope (compEnvC scope cl C X.env) fp).env.scope=?Fi:=rfl
theorem ac3(S:K3 n)(a:?bt):PE ?bS elt (tP X.K E0 (dE n c X.N (?Fi) elt)):=by have q:=S.E ?SZ elt;exact q
theorem ac4(S:K3 n)(a:?bt):KS ?bS ts (j_ X.K E0 (vY n c X.N (?Fi) ts)):=by have q:=S.Ts ?SZ ts;exact q
theorem VD(a:?bt)(hi:rg X.N x=?fQ)(h:tgB X.env.scope scope x=true):PG ?bS (?o x p) ?rp:=by
 unfold tgB at h;rw[abk]at h;refine jm a.nd (xh hi) ?_ ?_
 ·exact Bv h.1
 ·rw[VC];simp_all
theorem s_:xj X E elt g scope eB:=?y
theorem xk(h:∀a,o=?cr->xj X E elt g scope ?dF):xj X E elt g scope (q_ f o):=by
 show ?uu
 ·exact s_
 ·exact h a rfl
theorem Ng [?le](h:c->xj X E elt g scope f):xj X E elt g scope (if c then f else eB):=by
 by_cases z:c
 ·rw[?ek];exact h z
 ·rw[?gv];exact s_
theorem s_L(S:K3 n)(a:?bt)(elt:Expr)(g:Comprehension)(scope:Scope):xj X E elt g scope (dL ?eJ c X.N X.env.scope elt g scope):=by
 show ?GG;refine Ng λh0=>?_;obtain rfl:as=0:=h0.1;rcases tg with⟨⟩
 case Name x p=>
  refine xk λi hi=>Ng ?cS
  rw[abk]at h
  exact S4 h0.2 (S.I a false _ _ (λz=>?ui)) (FZ h.1) (λs H C cl fp=>VD a hi h.2) (tgN i) (λv hv=>hv) ?Ta ?Un
 case Tuple es k r=>
  rcases es with _|⟨e1,_|⟨e2,_|⟨_,_⟩⟩⟩
  ·exact s_
  ·exact s_
  ·refine xk λx hx=>xk λy hy=>xk λi hi=>xk λk hk=>Ng ?cS;obtain⟨p,rfl⟩:=cY hx;obtain⟨q,rfl⟩:=cY hy;simp only[abk]at h;exact S4 h0.2 (S.I a true _ _ (λ_=>?sU)) (FZ h.1) (λs H C cl fp=>Fj (X:=X.lG s H scope _ fp) a.calm (kX (VD a hi h.2.1) (kX (VD a hk h.2.2) AO)) rfl rfl) ((λG H v p σ env jq Q s r er hl e k=>by(cases r with|tup ha r=>(have hn:=z6 e;exact⟨_,_,rfl,bF s ha,by rw[r.length,<-hn],Zv _ G H _ _ σ _ _ Q s r er hl e k⟩)|_=>exact nb e):Sr X.K (Pl X.K ([i,k]).length (WU ([i,k]))) (A_ ([i,k])) ([i,k]))) (λv hv=>hv) ?Ta ?Un
  ·exact s_
 all_goals exact s_
theorem s_D(S:K3 n)(a:?bt)ks vs l pos(h:uM ks=?dS)(hl:?xF):PD X E pos ks vs l (dA ?eJ c X.N X.env.scope vs):=by
 rcases ks with _|⟨k,ks⟩
 ·cases h;obtain rfl:=aoo.mp hl.symm;exact Mz
 ·refine vP ?Jo λx i p l' ac5 h1 ac6=>?_;subst ac5;subst ac6;rcases vs with _|⟨v,vs⟩
  ·simp at hl
  ·have q:=Ie (k:=x) (j:=i) (p2:=p) (S.E a v) (S.D a _ _ _ pos h1 (apu hl));show PD X E _ _ _ _ (if isStar v=true then sB else c1 _ _);rcases isStar v with _|_
   ·exact q
   ·exact q.bad
theorem VE(S:K3 n)(a:?bt)(h:pairF x as=some (y,bs,F))(gx:?wM)(gy:Io X.env.scope y=true)(hb:noStar bs=true):
  PE X (?I (?o x p) as [] pos) (tP X.K E (cF (dA n c X.N X.env.scope bs) F)):=by
 rcases as with _|⟨e,_|⟨_,_⟩⟩
 ·cases h
 ·refine ag ?li λac7 h1 h2=>?_;obtain⟨y',bs'⟩:=ac7;refine uu (pR h1) λp2 p3 ac8=>?_;subst ac8;clear h;have h:S3 x y' bs'=some (y,bs,F):=h2;show ?Dv
  ·cases z;show ?sC;exact JV a.calm (jL gx) (a.ok.none _ (?g)) (jL gy) (a.ok.none _ (?g)) ?eh (?Kp) rfl rfl rfl
  show ?Dv
  ·cases z;show ?sC;exact Gb a.calm (jL gx) (a.ok.none _ (?g)) (jL gy) (a.ok.none _ (?g)) ?eh (by rw[?Kp];rfl) rfl rfl
  show ?Dv
  ·cases z;refine uu (Nf e2) λb d ac9=>?_;subst ac9;exact aca a.calm (jL gx) (a.ok.none _ (?g)) (jL gy) (a.ok.none _ (?g)) ?eh (?Kp) (xf (aJ hb).2) rfl rfl
  cases h
 ·cases h
theorem s_K(S:K3 n)(a:?bt)(f:Expr)(as:?bz)(pos:Pos):PE X (?I f as [] pos) (tP X.K E (dK ?eJ c X.N X.env.scope f as pos)):=by
 rcases f with⟨⟩
 case Name x p=>
  refine uN ?cS
  show ?Ko
  show ?TJ
  rcases hF:pairF x as with _|⟨y,bs,F⟩
  ·refine pS λF hG=>?_;rcases as with _|⟨e,es⟩
   ·cases h4
   ·have s1:=gC (env:=X.env) (es:=es) (aJ h3).1;have s2:=xf (env:=X.env) (pos:=pos) (aJ h3).2;unfold Nb at hG;split at hG
    ·rename_i F' hF;cases hG;refine Cu (Vx a.calm hF) λb1 b2 b3 ac_=>?_;rcases ac_ with⟨id,r,b4,b5,b6⟩|⟨T,r,b4,b5,b6⟩
     ·exact Dj b4 (b5 E) (jL h1) ?Hl b6 ?eh b2 b3 s1 s2
     ·exact((kZ b4 (jL h1) ?Hl b6 ?eh b2 b3 s1 s2).imp λσ H Q hG=>pk (b5 E) hG)
    ·split at hG
     ·rename_i F' hF;cases hG;exact bR (a.ok.fn _ _ hF) λk ps hk f=>pO f a.room hk a.px (jL h1) ?eh (nq h2).1 s1 s2
     ·split at hG
      ·rename_i C fs hF;cases hG;exact bR (a.ok.cl _ _ _ hF) λk ps hk f=>Qt f a.room hk a.px (jL h1) ?eh (nq h2).1 s1 s2
      ·simp at hG
  ·refine uN ?cS;rw[abk]at h;exact VE S a hF h1 h.1 h.2
 case Attribute o m apos=>
  refine uN ?cS
  simp only[abk,afI,decide_eq_true_eq]at h
  show ?TJ
  by_cases hm:m="get"
  ·subst hm;rw[?bV];rcases as with _|⟨x,_|⟨y,_|⟨_,_⟩⟩⟩
   ·exact bo
   ·exact bo
   ·have hu:?oX:=akw (anZ (?c) _) (xi a.room);refine My hu (S.E a o) ?bG (S.E a y) ⟨q5 h1,Iq h2 h4,h3,?_⟩;rw[?mI,?FJ];rfl
   ·exact bo
  ·rw[if_neg hm];refine pS λz hF=>?_;obtain⟨T,F⟩:=z;refine cH (acH (X:=X) hF) λid r b1 b2 b3 b4 b5=>?_;rcases as with _|⟨x,r⟩
   ·exact((LB b1 b2 b3 b4 (S.E a o) (q5 h1) h3).imp λσ H Q h=>tF.seq h λG env p sm er h G1 H1 v ex rv=>by obtain⟨hi,h⟩:=a_ h;exact⟨Mw ex.gh rv hi,(b5 E) _ _ v [] p [] Q ex.gh rv .nil (?zc)⟩)
   ·exact SG b1 b2 b3 b4 (b5 E) (S.E a o) ?eh (q5 h1) (Iq h2 h4) h3 (?mI) (xf (aJ h2).2)
 show ?ub
theorem Nh(h:uM ks=?dS):ks.length=l.length/\ks.all (·.isSome)=true:=by
 induction ks generalizing l with
 |nil=>cases h;exact ?jv
 |cons k ks ih=>
  refine vP ?Jo λx i p l' ada h1 adb=>?_;rw[ada];rw[adb];exact⟨congrArg _ (ih h1).1,(ih h1).2⟩
#where
theorem snd:∀n,K3 n
 |0=>⟨λ_ _=>bo,λ_ _=>Nd,λ_ ks vs l pos h hl=>Iu ks vs l h hl,?Jp,λ_ _ _ _ _=>?jG,λ_ _=>jc,λ_ _ _ _=>Nc,λ_ _ _ _ _=>Gg,λ_ _ _ _=>?y,λ_ _=>Ir,?Jp,λ_ _=>(λ_ _ _ _ _ _ ade=>ah ade ?kE),?Jp⟩
 |n+1=>have S:=?kk;⟨(λa e=>by
  show ?ij
  case Name=>exact VB a _ _
  case Constant=>exact QV _ _ _
  case Tuple=>exact UJ ?eh
  case List=>exact UK ?eh
  case BinOp x op y p=>
   rcases op with⟨⟩
   case Add=>exact Sm P_ (by
      show ?kv;rcases p with _|_|i|_|l|l|_|_|_|_
      case int=>
       show ?XH
       case int=>exact .inl ⟨i,_,rx.FL,ry.FL,?fZ⟩
       show ?cB
      case tup=>
       rcases q with _|_|_|_|m|_|_|_|_|_
       case tup=>
        refine ah rx.yW λa xs adf hx r=>?_
        rw[adf]
        refine ah (id ry.yW) λb ys adg hy r'=>?_
        subst adg
        by_cases h0:l=[]
        ·subst h0;cases r;exact .inr (.inr (.inr ⟨_,_,_,rfl,rfl,bF s hx,bF s hy,h G H _ ?cj ry⟩))
        by_cases hc:m≠[]/\?RH
        ·rw[fw,?BB,?qm]at h;exact .inr (.inl ⟨_,_,_,_,rfl,rfl,bF s hx,bF s hy,r.ne h0,by rw[r.length,r'.length];exact hc.2,λz=>absurd z (r'.ne hc.1),λ_=>HS s (r.append r') h⟩)
        ·rw[fw,?BB,?uE]at h;show ?am
       show ?cB
      case lst=>
       rcases q with _|_|_|_|_|m|_|_|_|_
       case lst=>
        refine ah rx.FO λa xs adh hx r=>?_
        rw[adh]
        refine ah ry.FO λb ys adi hy r'=>?_
        subst adi
        by_cases hc:?RH
        ·rw[fw,?qm]at h;exact .inr (.inr (.inl ⟨_,_,_,_,rfl,rfl,aV s hx,aV s hy,by rw[r.length,r'.length];exact hc,z0 s (r.append r') h⟩))
        ·rw[fw,?uE]at h;show ?am
       show ?cB
      show ?cB) ?bG (S.E a y)
   case Sub=>exact Sm (?Qh) (O8 λ_ _ _=>?bB) ?bG (S.E a y)
   show ?ub
  case UnaryOp op x p=>
   rcases op with⟨⟩
   case Not=>exact((T4 ?bG).imp λ_ _ _ h=>tF.seq h λ_ _ _ _ _ h G' H' _ ex rv=>(A8 h rv).imp λ_ h=>⟨h.1,h.2 _ _ _ ex (?bY)⟩)
   case USub=>exact((Hv AS ?bG).imp λσ H Q h=>tF.seq h λG env p s er h G1 H1 v ex rv=>by refine aG (qN h rv) λi al7 adj h=>?_;rw[adj];exact⟨i,rfl,h _ _ _ ex (?bB)⟩)
   show ?ub
  case BoolOp=>exact ?Ln
  case Compare=>exact(S.C a _ _ _ _).1
  case IfExp=>exact Y4 ?nj ?dM ?dM
  case ListComp elt gens scope p=>
   show ?TK
   ·exact bo
   ·exact(S.L a _ _ _).pe a
   ·exact bo
  case Subscript=>exact S.X a _ _ _
  case Attribute=>exact VA λh=>QR a.ok.fld ?dM (q5 (akW _▸h))
  case Dict ks vs p=>
   refine pS λl hl=>uN ?cS
   have hk:=Nh hl
   exact Qz (S.D a _ _ _ _ hl h.1) hk.2 (by rw[hk.1,h.1]) (λz=>h.2.1 (ale (by rw[<-hk.1,z];rfl))) (by rw[hk.1];exact h.2.2)
  case JoinedStr vs p=>
   rcases vs with _|⟨x,_|⟨y,_|⟨z,_|⟨_,_⟩⟩⟩⟩
   ·exact bo
   ·exact bo
   ·exact bo
   ·refine pS λa' h1=>pS λv h2=>pS λb h3=>uN ?cS;refine uu (sZ h1) λ_ _ adk=>?_;subst adk;obtain⟨_,rfl⟩:=(show∃p,y=?HH v (-1) none p from by
       rcases y with⟨⟩
       case FormattedValue v' k o p=>
        by_cases z:?WR
        ·show ?Md;rcases o with _|_
         ·cases h2;exact ?ad
         ·exact ft z
        ·cases(?gv).symm.trans h2
       all_goals exact nn h2)
    refine uu (sZ h3) λ_ _ adl=>?_;subst adl;exact U3 h ?dM
   ·exact bo
  case Call f as ks p=>
   refine uN ?cS
   obtain rfl:=anQ.mp h
   exact S.K a _ _ _
  show ?ub),(λa es=>by
     rcases es with _|⟨e,es⟩
     ·exact fz
     ·show PA _ _ (pj _ _ (if ?jR=true then sB else c1 _ _));rcases h:?jR with _|_
      ·exact cQ (S.E a e) ?eh (gC h)
      ·exact Nd),s_D S,s_B S,s_C S,(λa e=>by
         show ?ij
         case UnaryOp op x p=>
          rcases op with⟨⟩
          case Not=>exact HR ?nj
          all_goals exact jc
         case BoolOp=>exact(?Jq _)
         case Compare=>exact(S.C a _ _ _ _).2
         case Name=>exact qO ?dM
         case Call=>exact qO ?dM
         case Attribute=>exact qO ?dM
         case Subscript=>exact qO ?dM
         all_goals exact jc),(λa op vs pos=>by
           show ?UO
           ·exact Nc
           ·rcases op with _|_
            ·exact LZ ?nj
            ·exact P5 ?nj
           ·rcases op with _|_
            ·exact P6 ?nj ?Jq
            ·exact UH ?nj ?Jq),s_I S,s_L S,(λa ts=>by
              show ?UP
              ·exact Dn
              ·exact((λpins s σ H Q I hw=>wpAny_tests_one (?nj pins s σ H Q I hw)))
              ·exact Ir),s_X S,(λa o=>by
                rcases o with _|e
                ·exact(λpins s σ H Q I adm=>ah adm λG env sm er h=>((λpins s σ H Q I h=>wpAny_pure ⟨none,H,I,?P,h⟩:PO _ none Pu) _ s σ H Q I ?VB))
                ·exact L0 (S.E a e)),s_K S⟩
set_option backward.match.sparseCases false
abbrev GF:=?gq
abbrev fB:GF:=?hw
def xl{α:Type}(f:α->GF):?dL->GF
 |?cr=>f a
 |none=>fB
def mtC:Expr->Option (Str×Str×Expr×Bool)
 |?I f as ks q=>(match f with
  |?aq o m p=>(match as with
   |[a]=>if ?yn then(jk o).map λx=>(x,m,a,p.endLine==q.line)else none
   |_=>none)
  |_=>none)
 |_=>none
def adn:Expr->Option (Str×Str)
 |?ka es _ _=>(match es with
  |?aE=>(jk a).bind λx=>(jk b).map λy=>(x,y)
  |_=>none)
 |_=>none
theorem JY(h:adn e=some (x,y)):∃p q k r,e=?ka [?o x p,?o y q] k r:=by
 show ?ij
 case Tuple es k r=>
  rcases es with _|⟨a,_|⟨b,_|⟨_,_⟩⟩⟩
  ·show ?w
  ·show ?w
  ·refine ag ?li λx' h1 h2=>ag (afv.mp h2) λy' h3 h4=>?_;cases h4;obtain⟨p,rfl⟩:=cY h1;obtain⟨q,rfl⟩:=cY h3;exact⟨p,q,k,r,rfl⟩
  ·show ?w
 all_goals show ?w
def ado(ow:?t)(e:Expr):Bool:=(Ag e).any λz=>z.1==(?dG:Str)&&z.2.all λa=>(jk a).any λy=>?Jr
def VF(x:Str):?mT
 |?ln _ gs _ _=>gs.all λg=>g.ifs.length==1&&g.ifs.all λt=>match t with
  |?lt _ _ bs _=>bs.all λb=>jk b==?F
  |_=>false
 |_=>false
def dAs(n:Nat)(c:Cfg)(N:?t)(sc:Scope)(ow:?t)(x:Str)(i:Nat)(e:Expr):GF:=
 if ow.contains x=true then(match e with
  |.List es _=>oZ i ?xW
  |e=>xl (λz=>match z.2 with
   |[a]=>if z.1=?aC/\Io sc z.1=true/\isStar a=false then M7 i (dA n c N sc [a])else fB
   |_=>fB) (Ag e))
 else match jk e with
  |?bl=>if ?Jr=true then xl (λk=>if ?WS then ahG i k else fB) (rg N y)else aD i ?gg
  |none=>if(ado ow e&&!Br e)=true then DH i ?gg else aD i ?gg
def dMt(n:Nat)(c:Cfg)(N:?t)(sc:Scope)(ow:?t)(x:Str)(i:Nat)(m:Str)(e:Expr):GF:=
 if m="append"then lT i ?gg
 else if m="extend"then(match jk e with
  |?bl=>if ?Jr=true then xl (λk=>if ?WS then ahH i k else fB) (rg N y)else sY i ?gg
  |none=>if VF x e=true then DI i ?gg else sY i ?gg)
 else fB
def dX1(n:Nat)(c:Cfg)(N:?t)(sc:Scope)(ow:?t)(e:Expr):GF:=match mtC e with
 |?kd=>xl (λi=>if(JX sc z.1&&okN z.1&&!isStar z.2.2.1&&z.2.2.2)=true then dMt n c N sc ow z.1 i ?hM z.2.2.1 else fB) (rg N z.1)
 |none=>if Br e=true then fB else eM ?gg
def tgF(N:?t)(sc:Scope)(e:Expr):Option (Bool×(?zp)):=match jk e with
 |?F=>(rg N x).bind λi=>if ?Km then some (false,b8 i)else none
 |none=>(adn e).bind λz=>(rg N z.1).bind λi=>(rg N z.2).bind λk=>if(Bs sc z.1&&Bs sc z.2)=true then some (true,z8 [i,k])else none
mutual
def dS:Nat->Cfg->?t->Scope->?t->Stmt->GF
 |0,_,_,_,_,_=>fB
 |n+1,c,N,sc,ow,st=>match st with
  |?nE e _=>(match e with
   |none=>?Gm
   |?gG=>ai ?gg)
  |.If t a b _=>bC (?zr) (VG n c N sc ow a) (VG n c N sc ow b)
  |?lP e f _=>(match f with
   |none=>xl (λz=>match z.2 with
    |[]=>xl (λk=>if(Io sc z.1&&okN z.1)=true then(λ_=>.ex k)else fB) (c.rs z.1)
    |_=>fB) (e.bind Ag)
   |_=>fB)
  |?di ts e _=>(match ts with
   |[t]=>xl (λx=>xl (λi=>if ?Km then dAs n c N sc ow x i e else fB) (rg N x)) (jk t)
   |_=>fB)
  |?kn e _=>dX1 n c N sc ow e
  |.For tg it body els _=>(match els with
   |[]=>xl (λz=>if isSet it=true then fB else eU (dI n c N sc z.1 it) z.2 ?UQ) (tgF N sc tg)
   |_=>fB)
  |.While t body els _=>(match els with
   |[]=>jJ (?zr) ?UQ 100
   |_=>fB)
  |_=>fB
def VG:Nat->Cfg->?t->Scope->?t->?uB->GF
 |0,_,_,_,_,_=>fB
 |n+1,c,N,sc,ow,l=>match l with
  |[]=>λse=>?jy
  |s::r=>match r with
   |[]=>dS n c N sc ow s
   |_=>ab (dS n c N sc ow s) (VG n c N sc ow r)
end
structure QW(c:Cfg)(X:Cx)(E:XK)(j:Nat):Prop where
 at_:?bt
 own:PassesOwn ?K X.A X.env X.xe
 fn:∀x,?KG
 rs:∀{x:Str}{n:Int}{p2 p3 pos:Pos},c.rs x=?nU->?wM->okN x=true->PS X (?lP (some (?I (?o x p2) [] [] p3)) none pos) (iu X.K E X.kW λ_=>?ai)
section
theorem dh{st}:PS X st (iu X.K E X.kW fB):=λ_ _ _ _ _ _ adp=>dw adp ?UR
theorem lX{st}(h:∀a,o=?cr->PS X st (iu X.K E X.kW ?dF)):PS X st (iu X.K E X.kW (xl f o)):=by
 show ?uu
 ·exact dh
 ·exact h a rfl
theorem lY [Decidable p]{st}{f g:GF}(h:?Rn)(h2:¬p->PS X st (iu X.K E X.kW g)):PS X st (iu X.K E X.kW (if p then f else g)):=by
 by_cases z:p
 ·rw[?ek];exact h z
 ·rw[?gv];exact h2 z
theorem pT [Decidable p]{st}{f:GF}(h:?Rn):PS X st (iu X.K E X.kW (if p then f else fB)):=lY h λ_=>dh
theorem Ni:swapsWith (?ln elt gens scope p) (some (?o x pos')) l env=pure (env.blockKind==?na&&?zJ==?dK&&pos'.line==p.line&&!(scope.names.any λ?fX=>n==x&&(k==.local||k==?dD))):=rfl
theorem QX(a:?lj)(hi:?dh=?F)(hx:?hY)(h:?UM):PS X (?di [?o x pos'] (?ln elt [g] scope p) pos) (iu X.K E X.kW ?qp):=by
 rcases h with rfl|⟨own,gg,ft,tv,gi,gt,gl,h0,hs,h1,h2,h3,h4,h5,h6,h7,rfl⟩
 ·exact dh
 ·show ?GG;obtain rfl:as=0:=h0;have q:=Ni (x:=x) (pos':=pos') (elt:=elt) (gens:=[⟨tg,it,ifs,0⟩]) (scope:=scope) (p:=p) (l:=pos.line) (env:=X.env);generalize hb:(X.env.blockKind==?na&&?yv==?bk&&pos'.line==p.line&&!(scope.names.any _))=b at q;show ?BT
  ·exact Mh a.at_.nd hi hx (Mc a.at_.calm a.at_.nd h1 h2 h3 h4 h5 h6 h7 λx=>Bt hs) q ?pg
  ·have hl:X.env.scope.names.lookup x=?dK:=by
    simp only[abk,beq_iff_eq]at hb;exact hb.1.1.2
   exact Mi a.at_.calm a.at_.nd hi hl q h1 h2 h3 h4 h5 h6 h7 λx=>Bt hs
theorem DL(a:?lj)(hi:?dh=?F)(hx:?hY)e:PS X (?di [?o x pos'] e pos) (iu X.K E X.kW (aD i ?Sg)):=by
 rcases hc:Br e with _|_
 ·exact Mh a.at_.nd hi hx ((?kk).E a.at_ e) (xg hc) ?pg
 rcases n with _|n
 ·exact dh
 ·show ?ij
  case ListComp elt gens scope p=>
   show ?TK
   ·exact dh
   ·exact QX a hi hx ((?kk).L a.at_ _ g _)
   ·exact dh
  case SetComp=>exact dh
  case DictComp=>exact dh
  all_goals exact ft hc
theorem aiz(a:?lj)(hi:?dh=?F)(hx:?hY)e:PS X (?di [?o x pos'] e pos) (iu X.K E X.kW (dAs n c X.N X.env.scope ow x i e)):=by
 refine lY (λ_=>?_) λ_=>?_
 ·have call:PS X (?di [?o x pos'] e pos) (iu X.K E X.kW (xl (λz=>match z.2 with
   |[a]=>if z.1=?aC/\Io X.env.scope z.1=true/\isStar a=false then M7 i (dA n c X.N X.env.scope [a])else fB
   |_=>fB) (Ag e))):=lX λz hz=>by
   obtain⟨f,as⟩:=z
   refine uu (pR hz) λp q adq=>?_
   subst adq
   rcases as with _|⟨b,_|⟨_,_⟩⟩
   ·exact dh
   ·refine pT λh=>i8 h λads h2 h3=>?_;clear h;subst ads;exact QP a.at_.nd hi hx (jL h2) (a.at_.ok.none _ (?g)) ((?kk).A a.at_ _) (gC h3) ?pg
   ·exact dh
  show ?ij
  case List es p=>exact((dy a.at_.nd hi hx (lN ((?kk).A a.at_ _)) rfl ?pg).imp λD σ H q=>iu.jA q λG0 P G se l h q G' H' vs ex rv=>by show ?sT;exact⟨by rw[rv.length];exact hz,λp hp=>q _ _ _ ((?ni).lay i hp rv)⟩)
  all_goals exact call
 ·rcases hn:jk e with _|y
  ·refine lY (?cS) λ_=>DL a hi hx _;rw[abk,afI]at h;exact QO a.at_.nd hi hx ?oK (xg h.2) ?pg
  ·refine lY (λ_=>lX λk hk=>pT ?cS) λ_=>DL a hi hx _;show ?IA;simp only[abk]at h;obtain⟨h1,h2⟩:=nq h.2;exact((dy a.at_.nd hi hx (pv k (xh hk) (Bu h.1) h1 h2) rfl ?pg).imp (λD σ H adt=>dw adt λG0 P G se h q=>ag ?rC λl e q=>ah (h.share e) λa G' ea h2 r=>⟨_,ea,q _ H _ (h2.Md i r)⟩))
theorem Iv(hs:?jR=false):noStar [e]=true:=by show(! ?jR&&true)=true;rw[hs];rfl
theorem aiA(a:?lj)(hi:?dh=?F)(hv:?pb)(ho:okN x=true)m e(hs:?jR=false)(hl:?iX):
  PS X (?kn (?I (?aq (?o x p2) m apos) [e] [] cpos) pos) (iu X.K E X.kW (dMt n c X.N X.env.scope ow x i m e)):=by
 obtain⟨h1,h2⟩:=nq ho;have hst:=gC (es:=[]) (env:=X.env) hs;refine lY (?cS) λ_=>pT ?cS
 ·subst h;exact((eu (mY agr aiP aiQ gY ?Yd (ak ((?kk).E a.at_ e) aP hst) rfl ?Pz hl hst rfl) rfl).imp λD σ H ?xG=>by refine ag ?rC λl e1 q=>cH ?yG λa vs h1 h2 h3 h4 h5=>⟨_,h1,?wk,G,_,h.ex.gh,h.UT,Fi.mO q (λp _ q G' H' v ex rv=>?_) ?sg⟩;show ?sT;exact⟨a,vs,v,rfl,rfl,?Kl,by rw[h5.length];exact hz,q _ _ _ ((?ni).chg e1 h1 (?Um (?p rv .nil)))⟩)
 ·subst h;rcases hn:jk e with _|y
  ·exact lY (λ_=>((Ik hi hv ?oK hst hl h1 h2).imp λD σ H ?xG=>by refine ag ?rC λl e1 q=>cH ?yG λa vs h1 h2 h3 h4 h5=>⟨_,h1,?wk,_,_,h.fH,h.Qi,Fi.mO q (λp _ q G' H' v ex rv=>(bB (DG q rv) λb zs z adu hb rb q=>?_)) ?sg⟩;subst adu;show ?sT;exact⟨a,b,vs,zs,rfl,rfl,?Kl,?Rm,by rw[h5.length,rb.length];exact hz.1,q _ _ _ ((h.keep ex.hh).chg e1 h1 (h5.append (JW rb hz.2)))⟩)) λ_=>Il hi hv ?oK hst hl h1 h2
  ·refine lY (λ_=>lX λk hk=>pT ?cS) λ_=>Il hi hv ?oK hst hl h1 h2;show ?IA;show ?aR;obtain⟨h3,h4⟩:=nq h.2;exact((eu (mY agr an8 an9 Bc ?Yd (ak (pv k (xh hk) (Bu h.1) h3 h4) aP hst) rfl ?Pz hl hst rfl) rfl).imp (by refineλD σ H adv=>dw adv λG0 P G se h q=>ag ?rC λl e1 q=>ag ?rC λz e2 q=>?_;show ?sT;exact cH ?yG λa vs h1 h2 h3 h4 h5=>cH (h.own k z e2) λb us k1 k2 k3 k4 k5=>⟨_,h1,?wk,_,k1,a,b,vs,us,rfl,rfl,h4,Rd.of k4,by rw[h5.length,k5.length];exact hz,q _ _ _ (h.chg e1 h1 (h5.append k5))⟩))
theorem aiB(a:?lj)e:PS X (?kn e pos) (iu X.K E X.kW (dX1 n c X.N X.env.scope ow e)):=by
 unfold dX1;rcases hm:mtC e with _|⟨x,m,b,l⟩
 ·exact lY (λ_=>dh) λh=>((eu ?oK (xg (akW _▸h))).imp λD σ H q=>iu.jA q λG0 P G se p h q G' H' v ex rv=>q _ _ σ (?ni))
 ·refine lX λk hk=>pT λh=>mB (show∃p2 p q,e=?I (?aq (?o x p2) m p) [b] [] q/\(p.endLine==q.line)=l from by
   show ?ij
   case Call f as ks q=>
    rcases f with⟨⟩
    case Attribute o m' p=>
     rcases as with _|⟨a',_|⟨_,_⟩⟩
     ·exact nn hm
     ·by_cases z:?yn
      ·refine ag (afv.mp ((?ek).symm.trans hm)) λy h1 h2=>?_;cases(h2);obtain⟨p2,rfl⟩:=cY h1;obtain rfl:=anQ.mp z;exact⟨p2,p,q,rfl,rfl⟩
      ·cases(?gv).symm.trans hm
     ·exact nn hm
    all_goals exact nn hm
   all_goals exact nn hm) λp2 p q adw adx=>?_
  simp only[adw];subst adx;show ?Ko;exact aiA a (xh hk) (Bu h.1.1.1) h.1.1.2 _ _ h.1.2 h.2
theorem Iw{α:Type}[?le]{a}{y:α}(h:(if c then a else none)=?bl):c/\a=?bl:=(aN h).resolve_right nn
structure ady(n:Nat):Prop where
 S:∀{c:Cfg}{X:Cx}{E:XK}{j:Nat}{ow:?t},?lj->∀st,PS X st (iu X.K E X.kW (dS n c X.N X.env.scope ow st))
 Ss:∀{c:Cfg}{X:Cx}{E:XK}{j:Nat}{ow:?t},?lj->∀l,oj X l (iu X.K E X.kW (VG n c X.N X.env.scope ow l))
theorem s_S(S:ady n)(a:?lj)st:PS X st (iu X.K E X.kW (dS ?eJ c X.N X.env.scope ow st)):=by
 rcases st with⟨⟩
 case Return e p=>
  rcases e with _|e
  ·exact(Pk.imp (λD σ H adz=>dw adz λG0 P G se h q=>q _ _ _ (h.ret (Ex.refl h.fH)) .b_))
  ·exact((b0 ?oK).imp λD σ H q=>iu.full q λG0 P G se p h q G' H' v ex rv=>?US)
 case If=>exact Mg ((?kk).T a.at_ _) ?um ?um
 case Raise e f p=>
  rcases f with _|_
  ·refine lX λz hz=>?_;obtain⟨y,as⟩:=z;refine ag ?Lo λe adA hz=>?_;rw[adA];refine uu (pR hz) λp q adB=>?_;subst adB;rcases as with _|_
   ·refine lX λk hk=>pT ?cS;rw[abk]at h;exact a.rs hk h.1 h.2
   ·exact dh
  ·exact dh
 case Assign ts e p=>
  show ?UP
  ·exact dh
  ·refine lX λx hx=>lX λk hk=>pT ?cS;obtain⟨q,rfl⟩:=cY hx;exact aiz a (xh hk) (Bv h) _
  ·exact dh
 case Expr=>exact aiB a _
 case For tg it body els p=>
  rcases els with _|_
  ·refine lX λz hz=>lY (λ_=>dh) λhs=>?_;obtain⟨tp,ft⟩:=z;exact aG (show∃g,?Bz/\TgS X.K g ft/\(?vO)from by
      have one:∀{x}{i}{p},rg _ x=?fQ->Bs _ x=true->PG X (?o x p) _:=λhi hz=>jm a.at_.nd (xh hi) (Bv hz) (.inl (a.fn _));unfold tgF at hz;rcases hn:jk tg with _|x
      ·simp only[hn]at hz;refine ag ?Lo λamb h1 h2=>?_;obtain⟨p,q,m,r,rfl⟩:=JY h1;refine ag (afu.mp h2) λi hi h3=>ag (afu.mp h3) λk hk h4=>?_;obtain⟨hl,h5⟩:=Iw h4;rw[abk]at hl;cases h5;exact⟨_,Fj a.at_.calm (kX (one hi hl.1) (kX (one hk hl.2) AO)) rfl rfl,ahJ _,λ_=>?sU⟩
      ·simp only[hn]at hz;show ?IA;refine ag ?Lo λi hi h2=>?_;obtain⟨hl,h3⟩:=Iw h2;cases h3;exact⟨_,one hi hl,(λG0 H0 P G H v p σ se se' Q hz r e k=>by
     have e2:se.set i _=se':=?sp e;subst e2;exact k _ (hz.Md i r)),ft⟩) λg h1 h2 h3=>UU a.own a.at_.calm ((?kk).I a.at_ _ _ _ h3) h1 h2 ?um λx=>Bt (akW _▸hs)
  ·exact dh
 case While t body els p=>
  rcases els with _|_
  ·exact Ml _ a.own ((?kk).T a.at_ _) ?um
  ·exact dh
 all_goals exact dh
#where
theorem adC:∀n,ady n
 |0=>⟨λ_ _=>dh,λ_ _=>(λ_ _ _ _ _ _ adD=>dw adD ?UR)⟩
 |n+1=>have S:=adC n;⟨s_S S,(λa l=>by
  rcases l with _|⟨s,_|⟨_,_⟩⟩
  ·exact Ib
  ·exact Bb (S.S a _)
  ·exact Dq (S.S a _) ?um)⟩
def dF(n:Nat)(c:Cfg)(N ps ow:?t)(st:Stmt)(l:?e):?k:=fnF N.length ps.length (VG n c N ?bH ow ?nC) l
section
theorem Nj{K}(hN:N.Nodup)(ok:?VN)(hr:dP j (A.deeper (envOfC qual scope s0.heap.objs.size f cd))):
  QW c (?aM) E j where
 at_:=⟨hN,hr,ok,br,rfl⟩
 own:=alA
 fn:=?ar
 rs:=λh1 h2 h3=>Mr (ok.rs _ _ h1) hr ok.three (jL h2) (nq h3).1
theorem okD{K}n{st}(D:?Hh)(S:aX N ps ?bH)(ok:?VN):fP P w K mg base x (j+1) ps (dF n c N ps ow st):=
 okP D S (λf cdv A outer s H E hr=>(adC n).Ss (Nj S.nd ok hr) _) λl=>by
  unfold dF fnF;split
  ·rename_i h;exact .inr ⟨h,rfl⟩
  ·exact ?y
#where
set_option backward.match.sparseCases true
#where
namespace TC
open PySem PySem.Spec PyProof.Rows L2 PP
open XX
def top(i:Nat):Stmt:=anl.main.body.getD i (.Pass ?pt)
def aT:Addr:=282
def aC:Addr:=261
abbrev WZ:=List (Str×(?e->?k))
def Nk:?eX:=[("MISSING",.tup []),("MOST_COLUMNS",.int 6),("MOST_ROWS",.int 40),("MOST_WORDS",?vk),("CELL_HEADS",.tup [.str "col",?mU,?mV]),("ONE_ROW",.tup [.str "col"]),("TWO_ROWS",.tup [?mU,?mV]),("MOST_IN_KEY",.int 3),("MOST_IN_LEFT_SIDE",.int 2),("LETTERS",.str ?CV),("SIGNS_OF_TREES",?MH),("BLANK_BYTES",.tup ?xM),("STRAY",?Ct),("MOST_BYTES_READ",.int 4000),("MOST_BYTES_ANSWERED",.int 12000),("DEEPEST",.int 40),("GREATEST_NUMBER",.int 1000000),("LONGEST_NUMBER",.int 7),("LONGEST_WORD",.int 20),("TABLE",.int 0),("ROWS",.int 1),("FOUND",.int 2),("TOLD",.int 3),("SUPPORT",.int 4),("HOLDS",.int 5),("STILL",.int 6),("KEYS",.int 7),("FIXED",.int 8),("COVER",.int 9),("FOLLOWS",?vk),("MOST_TABLES",.int 3),("MOST_BYTES_OF_CLAIM",.int 700)]
def rsL:List (Str×Int):=[(?zt,-1),("WrongShape",-2),("NamedTwice",-3),(?pW,-13),("WrongCell",-4),("NoSuchClaim",-4),("NameTaken",-5),(?yI,-5),("TooManyTables",-6),(?VO,-6),("TextTooLong",-8)]
abbrev QY:?t:=[?q,?al,?R]
abbrev S5:?t:=[?q,?oa,?lI]
def cf(fns:WZ):Cfg where
 glob:=λx=>Nk.lookup x
 fn:=λx=>fns.lookup x
 rs:=λx=>rsL.lookup x
 cl:=λx=>if x="Table"then some (aT,QY)else if x="Column"then some (aC,S5)else none
 fld:=λC f=>(C==aT&&QY.contains f)||(C==aC&&S5.contains f)
def xm(i:Nat):Option (Str×?t):=match top i with
 |?zQ n a _ _ _ _ _ _ _ _=>some (n,a.args.map (·.arg))
 |_=>none
structure Txt(P:Program)(w:World)(K:aaU)(mg:?bs)(base:Heap):Prop where
 df:∀i x ps,?Hm->Def K mg x ?rh ps
 gl:∀x p,Nk.lookup x=?Y->?Ll
 rs:∀x n,rsL.lookup x=?nU->?os
 tb:Makes P w K mg base "Table" aT 2 (?ae::QY) QY
 cb:Makes P w K mg base "Column" aC 2 (?ae::S5) S5
 ct:CL K aT/\∀f∈QY,fi K aT f
 cc:CL K aC/\∀f∈S5,fi K aC f
 none:∀x∈builtins,mg x=none
 nt:∃R,XC K R/\?ma=some (?dJ)/\an7 K R ?gs=?hv/\mg ?pW=?dJ/\mg ?yI≠?dJ
section
def S6(P:Program)(w:World)(K:aaU)(mg:?bs)(base:Heap)(j:Nat):WZ->Prop
 |[]=>True
 |(x,F)::r=>(∃k ps,k<=j/\?sc)/\S6 P w K mg base j r
theorem Iy{K}{mg}{base}{j}:∀{l}{x}{F},?Fj->l.lookup x=?kh->∃k ps,k<=j/\?sc
 |[],_,_,_,e=>by show ?aD
 |(y,G)::r,x,F,h,e=>by
  simp only[ahf]at e;show ?aQ
  ·rename_i b;cases e;rw[?Lp];exact h.1
  ·exact Iy h.2 e
theorem Nl{K}(T:?cg)(hj:3<=j)(h:?Fj):Im (cf l) P w K mg base j where
 glob:=T.gl
 fn:=λx F e=>Iy h e
 rs:=T.rs
 three:=hj
 cl:=λx C fs e=>by
  simp only[cf]at e;show ?aQ
  ·rename_i hx;cases e;subst hx;exact⟨2,_,hj,T.tb⟩
  ·show ?aQ
   ·rename_i hx;cases e;subst hx;exact⟨2,_,hj,T.cb⟩
   ·show ?er
 fld:=λC f e=>by
  simp only[cf,agD,abk,beq_iff_eq]at e;rcases e with⟨rfl,e⟩|⟨rfl,e⟩
  ·exact⟨T.ct.1,T.ct.2 f (afw.mp e)⟩
  ·exact⟨T.cc.1,T.cc.2 f (afw.mp e)⟩
 none:=T.none
def scB(N ps:?t)(sc:Scope):Bool:=?mn&&!sc.isCoroutine&&!sc.isGenerator&&decide N.Nodup&&N.take ps.length==ps&&(ps.all λx=>Bs sc x)&&sc.names.all λy=>!(y.2==?dp)
theorem E9{K}(T:?cg)(e:?Hm)(hs:scB N ps (af ?rh)=true)(hj:3<=j)(h:?Fj):fP P w K mg base x (j+1) ps (dF n (cf l) N ps ow ?rh):=
 okD n (T.df i x _ e) (by simp only[scB,abk,beq_iff_eq,afI,decide_eq_true_eq,adY]at hs;obtain⟨⟨⟨⟨⟨⟨h1,h2⟩,h3⟩,h4⟩,h5⟩,h6⟩,h7⟩:=hs;exact⟨h1,h2,h3,h4,h5,λx hx=>Bv (h6 x hx),λy hy e=>by have:=h7 y hy;simp_all[e]⟩) (Nl T hj h)
#where
#where
namespace TC
open PySem PySem.Spec PyProof.Rows L2 PP
section
theorem iw:aX [?R,?aI,?ly,?ah,"row"] [?R,?aI] ?Js:=⟨rfl,rfl,rfl,?c,rfl,?c,?c⟩
theorem Nm{K}(D:Def K mg ?il (top 41) [?R,?aI])(m_enumerate:mg ?pJ=none)(f_picked:fP P w K mg base ?qT Nn [?Cu,?aI] cR)(h_picked:Nn<=k):
  fP P w K mg base ?il ?cz [?R,?aI] (Bj (cF (c1 ?L ?v) cR)):=by
 refine⟨Def.ok D iw ?xD λf cdv A outer s H vs Q E hr hsp=>⟨_,((show∀f cdv A outer s H E,dP k (A.deeper (envOfC ?il ?Js s.heap.objs.size f cdv))->
      oj (CB P w K mg base [?R,?aI,?ly,?ah,"row"] ?il ?Js f cdv A outer s H E) (bQ (top 41)) (ME P w K E (cF (c1 ?L ?v) cR))from by
    intro f cdv A outer s H E hr;show ?wg;show ?bF
    ·exact dy iw.nd rfl ?dH (λpins s σ H Q I h=>wpAny_Dict_empty ⟨?fo,_,I.laid (o:=GD _ _ _ []) (λ_ _ q=>?eE) ?A (Ig (beq_eq_false_iff_ne.mpr (ahI (af1 I.big))) (?bg) ⟨_,#[],0,?de,?GH,rfl,rfl,aoB⟩),rfl,h _ (I.bq.fresh ?A)⟩)
    show ?bF
    ·refine wt alA rfl ?_ (Fj rfl (kX (jm iw.nd rfl (by first|show ?lK|rfl)) (kX (jm iw.nd rfl (by first|show ?lK|rfl)) AO))) ?_
     ·exact Dl rfl m_enumerate (cQ (cX 0) fz)
     ·refine aw (eu (?ow))
      ·refine QD (by show A.units+3+20<cLine;lia) ?_ ?_ ?EQ
       ·exact pv 2
       ·refine pO f_picked hr h_picked br rfl (cQ ?_ (?qU))
        ·exact cX 4
        ·exact cX 1
      ·exact ak (pv 3) aP
    exact aw (b0 (λpins s σ H Q I hw=>
   ck ((pv 2) _ s σ H _ I hw) (by
   refineλv s1 oz3=>Jg oz3 λx H1 I1 r d xs ex hd q=>?_
   obtain⟨o,I2⟩:=I1.lock hd ajN
   have z:dg _ _ _ _ d _:=I2.bq d _ aa
   refine i8 z λe1 Xl _=>?_
   obtain⟨a1,a2,o',es,ep,a3,a4,a5,a6,_⟩:=Xl
   rw[e1]at a3
   cases a3
   exact⟨_,_,I2,r,q o ⟨a1,a2,es,ep,a4,a5,a6⟩⟩)))) f _ A _ s H E hr),QG hsp⟩⟩
 show ?yf;refine dw ?Cm λ_ _ _ _ adE _=>?_;rw[adE];rfl
def eW:PV:=?MH
def iy:PV:=.tup ?xM
def oy:PV:=?Ct
theorem g8:aX [?cq,"signs","sign","code"] [?cq] (?zW):=⟨rfl,rfl,rfl,?c,rfl,?c,?c⟩
abbrev vZ:?e->?k:=Af (iA (cK eW)) (cF (c1 ?h c0) Dt) ?h (iA (cK iy)) ?l ?yo (cM ?bZ qW ?yJ (c1 (dM 4 [3] (iA ?b) ?fp bT (cG ?x ?l (cK oy))) c0))
theorem Bw{K}(k_S:Gc K mg "SIGNS_OF_TREES" eW)(k_B:Gc K mg "BLANK_BYTES" iy)(k_STRAY:Gc K mg "STRAY" oy)(m_ord:mg "ord"=none):
  ∀f cdv A outer s H E,dP k (A.deeper (envOfC ?nk (?zW) s.heap.objs.size f cdv))->
   oj (CB P w K mg base [?cq,"signs","sign","code"] ?nk (?zW) f cdv A outer s H E) (bQ (top 129)) (S0 K E (iA (cK eW)) (cF (c1 ?h c0) Dt) ?h (iA (cK iy)) ?l ?yo (cM ?bZ qW ?yJ (c1 (dM 4 [3] (iA ?b) ?fp bT (cG ?x ?l (cK oy))) c0))):=by
 intro f cdv A outer s H E hr;show ?wg;have Js:A.units+3+1<cLine:=?M
 show ?bF
 ·refine dy (i:=1) g8.nd rfl ?dH ?_;exact(λpins s σ H Q I h=>
wpAny_Dict_empty ⟨?bT,_,I.laid (a:=s.heap.objs.size) (o:=.dK []) (t':=s.toks) (λ_ _ q=>?eE) ?A ?YT,rfl,h _ (I.bq.fresh ?A)⟩)
 show ?bF
 ·refine wt alA rfl ?_ (jm (i:=2) g8.nd rfl ?dH) ?_
  ·refine lU ?_;exact qT k_S rfl
  ·refine ?TL
   ·exact pv 1
   ·exact Dj CJ aat rfl m_ord aqO (cQ (cX 2) fz)
   ·exact cX 2
 show ?bF
 ·refine wt alA rfl ?_ (jm (i:=3) g8.nd rfl ?dH) ?_
  ·exact lU (qT k_B rfl)
  ·refine ?TL
   ·exact pv 1
   ·exact cX 3
   ·exact wO
 show ?eF
 refine b0 ?_
 refine SG al2 aqR aqS HJ SH ?_ ?_
 ·exact wO
 refine ?qU
 refine Mc (own:=[("code",3)]) rfl g8.nd ?_ (FZ (N:=[?cq,"signs","sign","code"]) (sc:=?zW) (?g)) (λ_ _ _ _ _=>(jm (i:=3) g8.nd rfl ?dH)) (tgN 3) (?c) ?_ ?_
 ·exact lU (cX 0)
 ·intro _ _ _ _ _;exact Dn
 ·intro _ _ _ _ _;refine My Js ?_ ?_ ?_ ?EQ
  ·exact cX 1
  ·exact cX 3
  ·exact qT k_STRAY rfl
#where
section
theorem kO:aX [?cq,?fE,"piece"] [?cq] (af (top 135)):=⟨rfl,rfl,rfl,?g,rfl,?g,?g⟩
set_option maxHeartbeats 4000000 in
theorem Np{P:Program}{w:World}{K:aaU}{mg:?bs}{base:Heap}{k Nq Nr:Nat}{lW leaf:?e->?k}(D:Def K mg ?jz (top 135) [?cq])(k_M:Gc K mg "MOST_BYTES_READ" (.int 4000))(m_len:mg ?dG=none)(r:Raises P w K mg base ?zt (-1))
  (f_text:fP P w K mg base ?nk Nq [?cq] lW) (f_leaf:fP P w K mg base ?Lq Nr ?jJ leaf) (f_begin:Bo P w K mg base ?Kq 4 [?fE] (Bm K 40 (-1))) (f_end:Bo P w K mg base "end_list" 4 [?fE] (Ii K (-1)))
  (h_text:Nq<=k) (h_leaf:Nr<=k) (h4:4<=k):fP P w K mg base ?jz ?cz [?cq] (DA lW leaf):=by
 refine⟨Def.ok D kO ?xD λf cdv A outer s H vs Q E hr hsp=>⟨S2 K E H lW leaf,?_,Vs rfl hsp⟩⟩
 ·show ?yf;refine bR ?hB λ_ _ adF _=>?_;subst adF;rfl
 show ?wg;have Js:A.units+3+1<cLine:=?M
 refine JQ ?_ ?_
 ·refine abq ?_ ?_ cg
  ·refine abG ?_ ?_
   ·refine Vk rfl m_len ?_;refine ?qU;exact cX 0
   ·exact qT k_M rfl
  ·show ?eF;exact xa r hr ?a
 refine MO ?_ ?_
 ·refine dy (i:=1) kO.nd rfl ?dH ?_;refine lN ?_;refine ?fj;exact lN aP
 refine JR ?_ ?_
 ·refine Vm alA rfl ?_ (jm (i:=2) kO.nd rfl ?dH) ?_
  ·refine QK ?_;refine MR ?_;refine w_ ?_;refine w_ ?_;refine QE.of ?_;refine pO f_text hr h_text br rfl ?_;refine ?qU;exact cX 0
  ·show ?eF;refine gj ?_ ?_ ?_
   ·refine gB (wA hu) Y6 ?_ ?_ ?lL
    ·exact cX 2
    ·exact wO
   ·show ?eF;refine eu ?_;refine iU f_begin hr h4 br rfl ?_;refine ?fj;exact pv 1
   ·show ?eF;refine gj ?_ ?_ ?_
    ·refine gB (wA hu) Y6 ?_ ?_ ?lL
     ·exact cX 2
     ·exact wO
    ·show ?eF;refine eu ?_;refine iU f_end hr h4 br rfl ?_;refine ?fj;exact pv 1
    ·show ?eF;refine eu ?_;refine ?ow
     ·refine CY qC ?_ ?_ ?cb
      ·exact pv 1
      ·refine Hv AS ?_;exact lL
     ·refine ?qU;refine pO f_leaf hr h_leaf br rfl ?_;refine ?qU;exact cX 2
 show ?bF
 ·refine ?pP
  ·refine dD Vq ?_ ?_ ?lL
   ·refine jG lh rfl m_len aml ?_;refine ?fj;exact pv 1
   ·exact lL
  ·show ?eF;exact xa r hr ?a
 show ?eF;refine b0 ?_;refine CY qC ?_ ?_ ?cb
 ·exact pv 1
 ·exact lL
#where
#where
namespace TC
open PySem PySem.Spec PyProof.Rows L2 PP
section
def dj:?e->?k:=vZ
theorem pU{P:Program}{w:World}{K:aaU}{mg:?bs}{base:Heap}(T:?cg):fP P w K mg base ?nk 4 [?cq] (dj):=(show fP P w K mg base ?nk (3+1) [?cq] vZ from by
 refine⟨Def.ok (T.df 129 _ _ rfl) g8 ?xD λf cdv A outer s H vs Q E hr hsp=>⟨_,Bw ?sV ?sV ?sV (T.none _ (?g)) f cdv A outer s H E hr,Vi rfl hsp⟩⟩;show ?yf;show ?kj;unfold vZ Af at h;show ?ao
 ·rfl
 ·show ?am)
#where
theorem DM:aX [?fE,"ended"] [?fE] (af (top 134)):=⟨rfl,rfl,rfl,?g,rfl,?g,?g⟩
#where
namespace PP
open PySem PySem.Spec PyProof.Rows L2
open XX
theorem JZ(u:?YX)(m:Moved fs e T0 h h')(he:?pq)(hT:g.get? T0=none):?XC:=by
 have n1:∀{b o},?uX=?d->?fU:=?sf
 have n2:∀{b o},?uX=?d->?rw:=?sf
 refine⟨λb o q n hb hx=>m.1 b o (n1 q) (n2 q) hb ?Ug,?FE,u.free,λb o q hx=>?_,u.u9,u.sG,u.u_⟩
 ·show ?Tx;show ?vR;exact⟨Cp,r'⟩
 ·show ?Wx;show ?vR;exact⟨_,r'⟩
theorem Nt{s:Shared}(hfr:A.frames=some (?ir))(hl:?oi)(hf:?mq)
  (hF:jH g s.heap e C dx T0 ?P cx) (gs:?ks)
  (h:∀h' T,?mk->jH g h' e C dx T ?P cx->Moved ?oh e T0 s.heap h'->?lZ->Q () ?bw):
  wpAny M A (noteFrame ?bn env) (λ_ s2=>wpAny M A (setFlight ?bn none) Q E s2) E s:=by
 refine ?OJ;have nT:∀{x o},?to=?d->x≠T:=?vK;refine pL (base:=base) a c ?tF ?CK;show ?Eg;exact ?Ej
def E_(X:Cx)(pn:?aF)(xe:?ap):Cx:={X with pn:=X.pn++pn,xe:=xe}
def Iz(X:Cx)(v:Value)(xe:?ap):Cx:={X with A:=X.A.mark (?V),calm:=false,xe:=xe}
section
theorem aiD(o:X.Ok):(?mJ).Ok:=?Mk
theorem adG(o:(?mJ).Ok):X.Ok:=?Mk
theorem aiE(o:X.Ok):(Iz X v xe).Ok:=⟨o.mod,o.kind,o.glob,o.blt,o.above,o.inj,o.has,o.TZ,ft,o.frames,o.WL,o.WM,o.bs,o.KR,o.Ff,o.Fg,o.oV,o.O2⟩
theorem IA{σ:L2.St}(I:?kB):L2.Inv (?mJ) [] σ H s:=⟨aiD I.ok,I.os,I.bare,I.base,I.loc,I.cell,I.free,I.ji,λp hp=>I.pin p (by simp_all[E_]),I.bq,I.len⟩
theorem xn{σ:L2.St}(I:L2.Inv (?mJ) CA σ H s):?kB:=⟨adG I.ok,I.os,I.bare,I.base,I.loc,I.cell,I.free,I.ji,λp hp=>I.pin p ?AX,I.bq,I.len⟩
theorem DN{σ:L2.St}(I:?kB):?QC:=⟨aiE I.ok,I.os,I.bare,I.base,I.loc,I.cell,I.free,I.ji,I.pin,I.bq,I.len⟩
theorem Gh{σ:L2.St}(o:X.Ok)(I:?QC):?kB:=⟨o,I.os,I.bare,I.base,I.loc,I.cell,I.free,I.ji,I.pin,I.bq,I.len⟩
#where
theorem Nu{K}{os}(Jk:?iL)(he:?qN=some oe)(hc:oe.cls=?cw)
  (xr:XC K R) (hs:an7 K C ?gs=?hv) (hq:Q true ?pc):wpAny ?cF A (excMatches ?bn ?gs) Q E ?pc:=by
 refine ag (afv.mp xr.ty) λoR hoR hcR=>?_;have hoR:h.get? R=?bk:=Jk _ _ hoR;refine dw ((wJ (M:=?ux) Jk xr.YO).obj) λoc od cd sl vd _=>?_;rw[hoR]at vd;cases vd;subst hcR;have f:=tc_notTuple;have ty:anu ?cF h (typeOf ?bn) ?u:=by obtain⟨oc,od,odt,osl⟩:=oe;rw[<-hc];exact(aqj he).andThen .now
 have sb:=(wJ (M:=?ux) Jk xr.YO).LR;have sub:=PySem.W.looks_mroIn (M:=?ux) Jk hs;repeat (first|show ?mg|with_reducible refine sb.at ?_|with_reducible refine sub.at ?_|rfl|wp_step)
 exact hq
section
theorem Nv{σ:L2.St}(I:?kB)(hn:h'.Ns X.env.locals m')(hs:ai3 X.env.locals s.heap h'):L2.Inv X pins (aqU X.N.length none) H {s with heap:=h',toks:=k}:=by
 have ne:∀{b o},?xS=?d->?jk:=λe=>?rX;refine⟨I.ok,I.os,I.bare,⟨λb o e n hb hx=>?ES ?wh,?Fq,I.base.free,λb o e hx=>?_,I.base.u9,I.base.sG,I.base.u_⟩,⟨_,hn,?EJ⟩,?Ap,I.free,I.ji,?dc,λb ob e=>?_,?J⟩
 ·show ?vN;exact⟨sl,?ES e1⟩
 ·show ?rR;exact⟨o',?ES e1⟩
 ·rw[aqd]at e2;simp_all
 ·obtain⟨w',z⟩:=I.cell y c e;exact⟨w',z.sameBut hs (I.R5 y c e)⟩
 ·exact ?MS
 ·refine ?MJ;rintro rfl;rcases hc with hc|hc
  ·rw[<-hc,I.free]at e;simp at e
  ·rw[I.free]at hc;exact nn hc
def aiG(te:TE)(ea d:Addr):TE:=λσ H Q=>te σ H λx H1=>x=.ref ea/\∃fs k,H1 d=?Je/\fs.lookup (?ah:Str)=some (?eo)/\Q (?eo) H1
theorem QZ(xc:?vc)(hp:(ea,(⟨?cw,?bX,?aO vs,sl⟩:Obj))∈X.pn)(he:?nd)(hb:attributeBase e ?ah X.env (?ea)=?ea:=by rfl):
  PE X (?aq e ?ah pos) (aiG te ea d):=by
 refineλpins s σ H Q I h=>Hy hb (O3 he I h (λu s1 x H1 I1 rx adH=>sE adH λex fs k h1 h2 q=>?_));subst ex;obtain rfl:u=afZ _:=rx;obtain⟨hx,_⟩:=I1.pin _ ?AX;refine ag (I1.bq d _ h1) λm hn hr=>?_;have Q0:=hr (?ah);rw[h2]at Q0;cases hm:m _ with
 |none=>rw[hm]at Q0;exact Q0.elim
 |some u=>
  rw[hm]at Q0;have ru:RelV (?eo) u:=Q0;obtain⟨tk,rfl⟩:=id ru;refine Jz I1.qv hx rfl rfl rfl hn.ns hm xc.over xc.ga xc.gn xc.na xc.bx (λQ' E' A' s' hq=>wpAny_pure hq) ⟨_,H1,?Cp,ru,q⟩
#where
def EB(D:Ends):XK:=λ_ d H'=>∃da fs k,d=some da/\H' da=?Je/\fs.lookup (?ah:Str)=some (?eo)/\∀l,H' l=none->D.rt (?ax) (upd H' l (.lst [?eo]))
def S7(te:XK->TE):TS:=λD σ H=>te (EB D) σ H D.rt
section
structure Got(X:Cx)(pins:?aF)(H':Hp)(s:Shared)(ea C d T:Addr)(cx:Value):Prop where
 inv:∃σ,L2.Inv X pins σ H' s
 fl:∃g,jH g s.heap ea C d T ?P cx/\?ks
 he:?Me
 hT:H' T=none
 el:ea≠X.env.locals
 ef:ea∉X.fs
 tl:T≠X.env.locals
 t0:X.yS.heap.objs.size<=T
 tc:∀x c,?eN->c≠T
 tp:∀p∈?mS,p.1≠T
theorem Nw{σ:L2.St}(hst:X.stack=?pi)(hfr:?DC)
  (I1:L2.Inv (?mJ) CA σ H1 s1) (hc:oo X.prog X.w X.K X.stack H1 s1 E' ev s')
  (k:∀ea C d T H' s2 cx,ev=.ref ea->?vc->E' ?u (?bX) H'->(alT X.K mainGlobals ?pW=some (some ?u)->cx=?P)->Got X pins H' s2 ea C d T cx->Q () s2):
  wpAny ?K X.A (noteFrame ev X.env) (λ_ s2=>wpAny ?K X.A (setFlight ev none) Q EE s2) EE s':=by
 refine kf hc λea C d T H' cx adI adJ os bare un bq n1 n2 sz xc hE=>?_;clear hc;subst adI;obtain⟨fl,hcx⟩:=adJ;have I':?YY:=I1.Hq os un bq bare λb z=>absurd z ?i;have aiH:?pY=(?pi).filterMap (·.frame):=by rw[hst];rfl
 have aiI:X.A.frames=some (?pi):=by rw[<-hst];exact I'.ok.frames
 have aiJ:s'.heap.FunFrames X.base (?pi):=by rw[<-hst];exact I'.stack
 refine Nt aiI aiJ hfr fl sz λh2 T' KU a m c=>?_;have m2:Moved (?pY) ea T s'.heap h2:=by rw[aiH];exact m
 have Q1:n_ _ _ _ _:=oq bq m2 n1 n2 λb hb=>I'.og b hb;have I2:L2.Inv _ _ σ _ {s' with heap:=h2}:=I1.Hq os (JZ un m2 fl.new fl.UC) Q1 bare λb z=>absurd z ?i;have ge:∀{b o},s1.heap.get? b=?d->b≠ea:=λq z=>by simp_all[fl.new]
 have gT:∀{b o},?Il=?d->b≠T':=λq z=>absurd (ae8 q) (by simp_all[z]);refine ag I1.loc λm1 adK _=>mB adK λoL _ _ hoL _=>ag I'.loc λm3 adL _=>mB adL λoL' _ _ aiK _=>k _ C d _ _ _ _ rfl xc hE hcx ⟨⟨σ,xn I2⟩,⟨_,a,c⟩,n1,bq.fresh KU,ahI (ge hoL),λhb=>?_,ahI (gT aiK),afh I'.sz KU,λy c' e=>?_,?dc⟩
 ·exact Fc (I1.oV.mem hb) λ_ o ho _=>ge ho rfl
 ·exact bR (I'.cell y _ e) λv o ho _=>gT ho
 ·exact gT (I'.pin p ?AX).1
theorem Q2{X}{x n}{i:Nat}(hst:X.stack=?pi)(hfr:?DC)(hN:X.N.Nodup)(hi:?dh=?nU)(hloc:X.env.scope.names.lookup n=?dK)(xr:XC X.K R)(hsub:∀C,?vc->an7 X.K C ?gs=?hv)(hm:?lM=?dJ)(hg:?cX)
  (hdb:?bh) (hnd:(n==?Gx)=false) (hnc:(n==?Uw)=false)
  (he:∀pins xe E',Passes (oo X.prog X.w X.K) (?mJ) E'->PE (?mJ) e (te E')):
  PS X (.Try [?nE (?gG) p1] [.ExceptHandler (some (?o x p2)) (?nU) [?nE (some (.List [?aq (?o n p3) ?ah p4] p5)) p6] p7] [] [] p8) (S7 te):=by
 refineλpins s σ H D I h=>wpAny_Try_except (wpAny_mono (aw (b0 (pos:=p1) (he pins _ (EB D) λCA σ' H1 s1 ev s' I1 hc=>?pass)) [] s σ H {nx:=?fb,rt:=D.rt} (IA I) h) (λfl s1 hs=>?_) λev s1 hv=>hv);case pass=>
  refine Nw (E':=EB D) hst hfr I1 hc λea C d T H' s2 cx ev xc hE _ g=>?_
  subst ev
  obtain⟨σ2,I2⟩:=g.inv
  refine ?Tb
  have IM:∀{xe},L2.Inv (Iz X ?df xe) pins σ2 H' s2:=DN I2
  refine wpAny_handleBy_cons (codeAny_handlers_test (lM (X:=Iz X ?df X.xe) IM hg hm (?Sh) hdb)) ?VP
  obtain⟨hh,gg,dd,tk,os⟩:=s2
  refine Nu I2.qv vd rfl xr (hsub C xc) (codeAny_handlers_suite_as (pL (base:=X.base) (s:=?VQ) fl hsz ?tF ?Fk))
  have I3:L2.Inv X pins σ2 H' ?wW:=?MD
  refine bR a3.obj λW0 VH VI _=>?_
  have I4:L2.Inv X ((ea,⟨?cw,?bX,?aO W0,VH⟩)::pins) σ2 H' ?wW:=I3.qy λp hp=>by
   show ?xb
   ·exact⟨VI,g.he,g.el,g.ef,λv z=>by simp at z⟩
   ·exact ?WT
  refine wq (X:=Iz X ?df X.xe) (DN I4) hN hi (akV hloc) (v:=.ref ea) rfl (λs5 I5=>?_) (.inr hloc)
  have hiσ:i<σ2.length:=by rw[I4.len];exact ?JV
  refine bB hE λda fs k e1 e2 e3 q=>?_
  cases e1
  have J5:∀{xe},L2.Inv (E_ (Iz X ?df xe) ((ea,⟨?cw,?bX,?aO W0,VH⟩)::pins) xe) [] (σ2.set i (some ?df)) H' s5:=IA (DN (Gh I4.ok I5))
  refine ck (aw (b0 (pos:=p6) (lN (pos:=p5) (ak (QZ (X:=E_ (Iz X ?df _) ((ea,⟨?cw,?bX,?aO W0,VH⟩)::pins) _) (pos:=p4) xc (afF _ ?aS) (pv i hi (.inl hloc) hnd hnc)) aP rfl))) [] s5 _ H' {nx:=?fb,rt:=D.rt} J5 ?_) λfl s6 hs=>?_
  ·exact⟨_,ag2 hiσ,rfl,fs,k,e2,e3,(⟨?Sf,q⟩)⟩
  ·cases fl with
   |next=>exact ?ox
   |brk=>exact ?ox
   |cont=>exact ?ox
   |ret u=>
    refine gX hs λv σ7 H7 J rv q7=>?_;have J2:=Gh I4.ok (xn J);have J3:L2.Inv X pins σ7 H7 s6:=J2.qy λp hp=>J2.pin p (afF _ (aaV _ hp));exact ag J3.loc λm7 hn7 _=>wpAny_nameGoes hloc hn7 (by rw[J3.ok.kind];rfl) λh8 m8 hn8 hs8=>⟨v,_,H7,Nv J3 hn8 hs8,rv,q7⟩
 ·cases fl with
  |next=>exact ?ox
  |brk=>exact ?ox
  |cont=>exact ?ox
  |ret u=>
   exact ?NQ
#where
#where
namespace PySem
#where
namespace PP
open PySem PySem.Spec PyProof.Rows L2
open XX
theorem DO(hh:A.handled=some (.ref h))(hne:h≠e)(he:?zj=some oe)(hde:oe.data=?aO ve)
  (hsz:2<ve.size) (ho:s.heap.get? h=some oh) (hdo:oh.data=?aO vh) (hc:vh[2]?=some ?P) (hq:E ?bn {s with heap:=s.heap.update e (al9 (?kN 2 (.ref h)))}):wpAny ?cF A (raiseNew ?bn:Sem α) Q E s:=by
 refine ?DF;rw[hh];show ?bR;rw[if_pos (?xz)];refine wpAny_bind (wpAny_holding (wpAny_runValue (codeAny_builtin (entryFor_of_fast rfl) (wpAny_bind (wpAny_field ho hdo hc (wpAny_pure (wpAny_bind (wpAny_mono (wpAny_setField he hde hsz hq) (λ_ s' z=>wpAny_throw z) ?Mf))))))))
theorem VJ{env:Env}(hf:?mq)(hF:jH g s.heap e C dx T ?uh cx)(h:Q () s):wpAny M A (noteFrame ?bn env) Q E s:=by show ?NG;delta noteFrame;rw[hf];refine wpAny_bind (wpAny_field he rfl h1 (wpAny_bind (wpAny_field hT JA h3 ?_)));rw[if_pos ?i];exact ?pz
section
theorem aiL{K}{s0}{E}{σ:L2.St}{s}(I:L2.Inv (?aM) pins σ H' s)(he:s.heap.get? e2=?Ye)(hn:?HN=none)(hu:H' e2=none)
  (xc:XC K C2) (hne:?ma≠some (some ?lp)) (hE:E ?lp (some d2) H'):
  notedBy ?cF ((?aM).A.mark (some ?df)) (?aM).env (cameBackBy ?cF (?aM).A (?aM).env (?aM).xe) (.ref e2) {s with heap:=s.heap.update e2 (al9 (?kN 2 ?df))}:=by
 have hL:s0.heap.get? _=none:=ald ?A;have oth:∀b,b≠e2->(s.heap.update e2 (al9 (?kN 2 ?df))).get? b=?aN:=λb hb=>?pd;have vd:(s.heap.update _ (al9 (?kN 2 ?df))).get? _=?bk:=aj_ _ he rfl;have hsz:∀b,(s.heap.update e2 (al9 (?kN 2 ?df))).objs.size<=b->s0.heap.get? b=none:=λb hb=>nc I (ald ?RX);have hl:(s.heap.update _ _).FunFrames base _:=I.stack.of_keeps λb o hb PU=>⟨o,(oth b λz=>by simp only[z,he]at hb;cases hb;exact PU _ rfl).trans hb,rfl⟩
 refine HM (env:=envOfC _ _ _ f _) I.ok.frames hl rfl vd rfl rfl hsz hn λh1 T hT a m c d=>?_;have hT:?mk:=by rw[aoT]at hT;exact hT
 have nT:∀{x o},?to=?d->x≠T:=?vK;refine ah a.obj λvs sl ho1 hf1 _=>wpAny_bind (wpAny_field ho1 rfl hf1 (pL (base:=base) a c ?tF λh2 a2 b2 c2 d2=>?_));show ?Kk;refine wpAny_bind (VJ rfl a2 (pL (base:=base) (s:={s with heap:=h2}) a2 c2 ?tF ?Fk));have M:Moved _ _ _ _ _:=⟨λx o q1 q2 q3 r=>b3 x o (nT r) (b2 x o (nT r) (m.1 x o q1 q2 q3 ?VR)),λx o q1 q2 r=>by obtain⟨Cp,r'⟩:=m.2 x o q1 q2 ?VR;exact⟨Cp,b3 x _ (nT r) (b2 x _ (nT r) r')⟩⟩
 exact⟨e2,C2,_,T,H',_,rfl,⟨a3,λz=>absurd z hne⟩,I.os,I.bare,wM I.base M hn hn hL,oq I.bq M hu hu ?Wy,hu,I.bq.fresh hT,c3,xc,hE⟩
theorem J0{K}(hp:(ea,(⟨?cw,?bX,?aO vs,sl⟩:Obj))∈pn)(hc:vs[2]?=some ?P)
   (hxe:xe=notedBy ?cF ((?aM).A.mark (some ?df)) (?aM).env (cameBackBy ?cF (?aM).A (?aM).env (?aM).xe))
  (ok:(?aM).Ok)
  (hx:PE (E_ (Iz (?aM) ?df xe) pn xe) x te):
  PS (E_ (Iz (?aM) ?df xe) pn xe) (?lP (?F) none pos)
    (λ_ σ H=>te σ H λv H1=>∃e2 C2 tp d2,v=.ref e2/\H0 e2=none/\H1 e2=some (FK e2 C2 tp d2)/\XC K C2/\?ma≠some (some ?lp)/\E ?lp (some d2) (del H1 e2)):=by
 show ?sH;rw[arm_exec_Raise];refine ?QS;show wpAny _ _ (raiseStmt _ (some (do let v<-eval x _;standAt pos;pure v)) none) _ _ _;unfold raiseStmt;refine wpAny_bind (wpAny_bind (O3 hx I h ?_));refineλv s1 y H1 I1 r1 adM=>jD adM λe2 C2 tp d2 ey h0 he xc hn2 hE=>wpAny_bind (wpAny_standAt (?bx));subst ey;obtain rfl:v=afZ e2:=r1;refine i8 (I1.bq e2 _ he) λvd _ _=>?_;have vd:s1.heap.get? e2=?Ye:=vd;have hn:?HN=none:=by
  cases q:?HN with
  |none=>rfl
  |some o=>
    have z:=I1.base.free e2 o q h0 (λz=>absurd (show e2∈([]:?X)from z) ?i);rw[he]at z;cases z
 refine i8 (I1.pin _ (agx _ (afF _ hp))) λaiM hpn _=>?_;have hea:ea≠e2:=λz=>by have hpn:H1 ea=none:=hpn;rw[z,he]at hpn;cases hpn
 have fin:=aiL (ea:=ea) (Gh ok (xn (HP I1 he))) vd hn qM xc hn2 hE;have ty:anu ?cF s1.heap ?Yf ?lp:=?UG;have sb:=(wJ (M:=?ux) I1.qv xc.YO).LR;have Jk:=I1.qv;obtain⟨hp',g,dd,tk,os⟩:=s1;have ty:anu ?cF hp' ?Yf ?lp:=ty;have sb:anu ?cF hp' (isSubtype ?lp (?n ?eT)) true:=sb;repeat (first|show ?mg|with_reducible refine sb.at ?_|wp_step)
 show wpAny _ _ (isSubtype ?lp (?n ?eT)) _ _ _;refine ?Ow;have WV:hp'.get? C2=some oC:=Jk _ _ WV;repeat (first|show ?mg|with_reducible refine wpAny_loadPart vd ?_|(with_reducible refine wpAny_loadPart WV ?_;rw[hcC])|wp_step)
 refine DO (s:=⟨hp',g,dd,tk,os⟩) (ve:=#[.ref tp,?P,?P,?P,?io,?P]) rfl hea vd rfl (by show 2<6;decide) aiM rfl hc ?_;show xe _ _;rw[hxe];exact fin
#where
#where
namespace PP
open PySem PySem.Spec PyProof.Rows L2
open XX
def EA(K:aaU)(R:Addr)(H0:Hp)(E:XK)(n:Int):XK:=λC _ H'=>C=.ref R/\aj H0 H'/\sA K E n H'
def S8(K:aaU)(R:Addr)(H0:Hp)(E:XK)(n:Int)(te:XK->TE):TS:=λD σ H=>te (?Jt) σ H D.rt
section
theorem Q3{K:aaU}{x y:Str}{R:Addr}{p1 p2 p3 p4 p6 p7 p8:Pos}(xr:XC K R)(hnt:?ma=some (?dJ))(hsub:an7 K R ?gs=?hv)(hm:mg x=?dJ)
  (r:Raises P w K mg base y n) (hny:mg y≠?dJ) (hr:dP k (?aM).A) (hk:3<=k) (hg:Gl (?aM) x) (hgy:Gl (?aM) y)
  (he:∀pins xe E',Passes ?bE (E_ (?aM) pins xe) E'->PE (E_ (?aM) pins xe) e (te E'))
  (hdb:?bh:=by decide) (hdy:(y==?Gx)=false:=by decide):
  PS (?aM) (.Try [?nE (?gG) p1] [.ExceptHandler (some (?o x p2)) none [?lP (some (?I (?o y p3) [] [] p4)) none p6] p7] [] [] p8) (S8 K R H0 E n te):=by
 show ?sH;refine uv r.ex λC2 fI fd r1 r2 r3 r4 r5 r6 r7 r8=>?_;have hC2:C2≠R:=λz=>hny (z▸r7);refine wpAny_Try_except (wpAny_mono (aw (b0 (pos:=p1) (he pins _ (?Jt) λCA σ' H1 s1 ev s' I1 hc=>?pass)) [] s σ H {nx:=?fb,rt:=D.rt} (IA I) h) (λfl s1 hs=>?_) λev s1 hv=>hv);case pass=>
  refine Nw (X:=?aM) (E':=?Jt) rfl rfl I1 hc λea C d T H' s2 cx ev xc hE hcx g=>?_
  subst ev
  refine i8 hE λeC sm hw=>?_
  cases(eC)
  have cx0:cx=?P:=hcx hnt
  subst cx0
  obtain⟨σ2,I2⟩:=g.inv
  refine ?Tb
  have IM:∀{xe},L2.Inv (Iz (?aM) ?df xe) pins σ2 H' s2:=DN I2
  refine wpAny_handleBy_cons (codeAny_handlers_test (lM (X:=Iz (?aM) ?df (?aM).xe) IM hg hm ?_ hdb)) ?VP
  refine ?Sh
  obtain⟨hh,gg,dd,tk,os⟩:=s2
  refine Nu I2.qv vd rfl xr hsub (codeAny_handlers_suite (pL (base:=base) (s:=?VQ) fl hsz ?tF ?Fk))
  have I3:L2.Inv (?aM) pins σ2 H' ?wW:=?MD
  refine ah a3.obj λW0 VH VI _ hv2=>?_
  have I4:L2.Inv (?aM) ((ea,⟨.ref R,?bX,?aO W0,VH⟩)::pins) σ2 H' ?wW:=I3.qy λp hp=>by
   show ?xb
   ·exact⟨VI,g.he,g.el,g.ef,λv z=>?ui⟩
   ·exact ?WT
  refine ck (aw (J0 (pn:=(ea,⟨.ref R,?bX,?aO W0,VH⟩)::pins) (pos:=p6) ?aS hv2 rfl I4.ok (Dg (E:=E0) r1 r3 r4 r5 r6 (⟨by have:=hr.dp;show _+3*3+5<_;simp only[E_,Iz,as6];lia,by have:=hr.un;show _+16*3+200<_;simp only[E_,Iz,as6];lia⟩:qL 3 _) hgy r7 r8 Mq hdy)) [] _ σ2 H' {nx:=?fb,rt:=?fb} (IA (DN I4)) ?_) λfl s6 hs=>?_
  ·intro e tp he;refine⟨e,C2,tp,rfl,aa,r1,λd2 hd hde=>⟨rfl,e,C2,tp,d2,rfl,sm.free he,aa,r1,λz=>hC2 (by rw[hnt]at z;injection z with z;injection z with z;injection z with z;exact z.symm),?_⟩⟩;rw[ae hde]at hd;refine hw _ C2 d2 (?fd) r1 ⟨[(?ah,?AB)],?_,rfl⟩ r2
   ·have hbe:?fU:=az z he;have hbd:b≠d2:=az z hd;rw[pM hbe,ae hbe,ae hbd,ae hbe];exact z
   ·rw[pM hde,ae hde,aa]
  ·cases fl with
   |next=>show ?oL;show ?lU
   |brk=>show ?oL;show ?lU
   |cont=>show ?oL;show ?lU
   |ret u=>refine gX hs λ_ _ _ _ _ z=>?_;show ?lU
 ·cases fl with
  |next=>show ?oL;show ?lU
  |brk=>show ?oL;show ?lU
  |cont=>show ?oL;show ?lU
  |ret u=>
   exact ?NQ
#where
#where
namespace TC
open PySem PySem.Spec PyProof.Rows L2 PP
def Q4(n:Int)(ge:gZ->?k)(se:SE):?da:=match ge ?bA with
 |?bC=>?lf
 |.ex m=>if m=-13 then ?ai else .bad
 |.bad=>.bad
section
theorem Q5{K}(hnt:?ma=some (?dJ))(h:iu K E H0 (Q4 n ge) D σ H):S8 K R H0 E n (λE'=>tP K E' ge) D σ H:=by
 refine dw h λG0 P G se h q=>⟨_,_,h.fH,h.Qi,?_⟩;unfold Q4 at q;cases e:ge _ with
 |ok p=>rw[e]at q;exactλG' H' v ex rv=>?US
 |ex m=>
  rw[e]at q;dsimp only at q;split at q
  ·rename_i hm;subst hm;intro H' C d sm xc _ hc;have hc:=hc rfl;rw[hnt]at hc;cases hc;exact⟨rfl,h.ex.hh.trans sm,sA.mono q (h.ex.hh.trans sm)⟩
  ·exact q.elim
 |bad=>rw[e]at q;exact q
#where
section
variable{P:Program}{w:World}{K:aaU}{mg:?bs}{base:Heap}
#check bG lZ ?AI 20 3 [?aV,?N] [?aV] [] []
#check oz Gi "is_kind" 21 4 [?N] [?N] [] [bG lZ ?AI]
#check ko Bx ?Lr 22 5 [?N] [?N] [] [oz Gi "is_kind"]
#check iz xo ?Ju 23 6 [?N,?fS] [?N] [] [ko Bx ?Lr]
#check oA Gj "is_cell" 24 3 [?N] [?N] [] []
#check rh J1 "is_row" 25 4 [?N,?fS] [?N] [] [oA Gj "is_cell"]
#check g9 uO ?Bf 26 5 [?aV,?N] [?aV] [] [rh J1 "is_row"]
#check l4 DP "is_table" 27 7 [?N] [?N] [] [iz xo ?Ju,g9 uO ?Bf]
#check bX y9 ?Kr 28 3 ["words"] ["words"] [] []
#check aE dk "has_numbers" 29 3 [?cQ] [?cQ] [] []
#check bS nr ?un 30 3 [?cQ] [?cQ] [] []
#check aQ dR "column_names" 31 3 [?m,?cQ] [?m] [] []
#check iB xp ?Jv 32 4 [?al,?cQ] [?al] [] [bX y9 ?Kr,?oM,bS nr ?un]
#check tf Q6 "fits" 33 4 [?hJ,?cQ] [?hJ,?cQ] [] [?oM,bS nr ?un]
#check dY nu ?zu 34 5 [?R,?al,"row",?hJ,?cQ] [?R,?al] [] [tf Q6 "fits"]
#check dG y_ ?zX 35 8 [?N,?al,?R,?fS] [?N] [] [iB xp ?Jv,dY nu ?zu,l4 DP "is_table"]
#check b9 rj ?tU 36 6 [?aV,?al] [?aV,?al] [] [dY nu ?zu,g9 uO ?Bf]
#check aZ jd ?pm 37 3 [?q,?z,?m] [?q,?z] [] []
#check aF eX "places_of" 38 4 [?bi,?m,"known",?q] [?bi,?m] [] [?sm]
def cp(l:?e):?k:=match l with
 |?aE=>bG [a]>>=λw=>zZ w>>=λk=>if k=true then(match aF ?aE with
  |?ai=>?Dy
  |r=>r)else ?nB
 |_=>.bad
theorem xq(T:?cg):fP P w K mg base ?Jw 6 [?aV,?m] (cp):=(by
 refine pI T.nt λR xr hnt hsub hm hny=>okP (T.df 39 _ _ rfl) ((⟨rfl,rfl,rfl,?c,rfl,?c,?c⟩:aX [?aV,?m] [?aV,?m] (af (top 39)))) (g:=ab (bC (bN (bV (cF (c1 ?b c0) bG))) (λ_=>?nB) (λse=>?jy)) (Q4 (-5) (cF (c1 ?b ?v) aF))) (λf cdv A outer s H E hr=>?_) λl=>?_
 ·refine Dq (Mg (HR (qO (pO (lZ T) hr (?c) br rfl (cQ (cX 0) fz)))) (Bb (Mr ?td hr (?c))) Ib) (Bb ((Q3 xr hnt hsub hm ?td hny hr (?c) rfl rfl λpins xe E' hp=>?_).imp λD σ H h=>Q5 hnt h));exact pO (eX T) hr (?c) hp rfl (cQ (cX 0) (cQ (cX 1) fz))
 ·match l with
  |?aE=>
   refine .inr ⟨rfl,?_⟩;show(bG [a]>>=_)=outF ((((bG [a]>>=zZ)>>=?zl)>>=λbb=>if bb=true then ?nB else .ok (Fl.nx [Slot.sh a,Slot.sh b]))>>=_);cases bG [a]with
   |ok w=>
    show(zZ w>>=_)=outF (((zZ w>>=?zl)>>=_)>>=_);cases zZ w with
    |ok k=>
     cases k with
     |true=>
      show _=outF (Q4 (-5) _ [.sh a,.sh b]);show _=outF (match aF ?aE with|?bC=>?lf|.ex m=>if m=-13 then .ex (-5)else .bad|.bad=>.bad);show(match aF ?aE with|?ai=>?Dy|r=>r:?k)=_;cases aF ?aE with
      |ok p=>rfl
      |ex m=>dsimp only;split<;>rfl
      |bad=>rfl
     |false=>rfl
    |ex n=>rfl
    |bad=>rfl
   |ex n=>rfl
   |bad=>rfl
  |[]=>exact ?y
  |[_]=>exact ?y
  |_::_::_::_=>exact ?y)
#check cR oE ?qT 40 3 [?Cu,?aI,?aL] [?Cu,?aI] [] []
def bD:?e->?k:=Bj (cF (c1 ?L ?v) (cR))
theorem iC(T:?cg):fP P w K mg base ?il 5 [?R,?aI] (bD):=Nm (k:=4) (T.df 41 _ _ rfl) (T.none _ (?g)) (oE T) (?c)
def je(F:?e->?k):?e->?k:=dF 60 (cf [(?GI,(dF 60 (cf [(?sN,F)]) [?aV,?dB,?N] [?aV,?dB] [] (top 45)))]) [?N,?dB] [?N,?dB] [] (top 44)
def cy:Nat->?e->?k
 |0=>?hw
 |d+1=>je (cy d)
theorem kq(T:?cg):∀d,fP P w K mg base ?sN (4+2*d) [?N,?dB] (cy d)
 |0=>(E9 (i:=44) (n:=0) (N:=[?N,?dB]) (ow:=[]) (l:=[]) T rfl (?g) (abB 3) trivial).imp λ_=>?y
 |d+1=>E9 (j:=4+2*d+1) T rfl (?g) ?a ⟨⟨_,_,?cs,E9 (j:=4+2*d) T rfl (?g) ?a ⟨⟨_,_,?cs,kq T d⟩,trivial⟩⟩,trivial⟩
def mH:?e->?k:=cy 41
def ez:?e->?k:=dF 60 (cf [(?sN,mH)]) [?aV,?dB,?N] [?aV,?dB] [] (top 45)
def jM(F:?e->?k):?e->?k:=dF 60 (cf ((?te,F)::[(?GI,(ez))])) [?N,?dB,?nK,?fS] [?N,?dB] [] (top 46)
def dn:Nat->?e->?k
 |0=>?hw
 |d+1=>jM (dn d)
theorem lj(T:?cg):∀d,fP P w K mg base ?te (88+d) [?N,?dB] (dn d)
 |0=>(E9 (i:=46) (n:=0) (N:=[?N,?dB,?nK,?fS]) (ow:=[]) (l:=[]) T rfl (?g) (show 3<=87 by decide) trivial).imp λ_=>?y
 |d+1=>E9 (j:=88+d) T rfl (?g) ?a ⟨⟨_,_,?cs,lj T d⟩,⟨_,_,?a,(E9 T rfl (?g) (?c) ⟨⟨_,_,?cs,(kq T 41)⟩,trivial⟩)⟩,trivial⟩
def eN:?e->?k:=dn 41
theorem vk(T:?cg):fP P w K mg base ?te 129 [?N,?dB] (eN):=lj T 41
def cz(F:?e->?k):?e->?k:=dF 60 (cf ((?sO,F)::[])) [?N,?bi,?fS] [?N] [?bi] (top 47)
def aO:Nat->?e->?k
 |0=>?hw
 |d+1=>cz (aO d)
theorem kr(T:?cg):∀d,fP P w K mg base ?sO (4+d) [?N] (aO d)
 |0=>(E9 (i:=47) (n:=0) (N:=[?N,?bi,?fS]) (ow:=[]) (l:=[]) T rfl (?g) (show 3<=3 by decide) trivial).imp λ_=>?y
 |d+1=>E9 (j:=4+d) T rfl (?g) ?a ⟨⟨_,_,?cs,kr T d⟩,trivial⟩
def dU:?e->?k:=aO 41
theorem tj(T:?cg):fP P w K mg base ?sO 45 [?N] (dU):=kr T 41
#check l5 DQ "combined" 48 3 ?oq ?oq [] []
def pV(F:?e->?k):?e->?k:=dF 60 (cf ((?Bg,F)::[("combined",(l5))])) [?tG,?cd,?iI,?hJ] [?tG,?cd] [] (top 49)
def g_:Nat->?e->?k
 |0=>?hw
 |d+1=>pV (g_ d)
theorem rm(T:?cg):∀d,fP P w K mg base ?Bg (5+d) [?tG,?cd] (g_ d)
 |0=>(E9 (i:=49) (n:=0) (N:=[?tG,?cd,?iI,?hJ]) (ow:=[]) (l:=[]) T rfl (?g) (show 3<=4 by decide) trivial).imp λ_=>?y
 |d+1=>E9 (j:=5+d) T rfl (?g) ?a ⟨⟨_,_,?cs,rm T d⟩,⟨_,_,?a,DQ T⟩,trivial⟩
def jN:?e->?k:=g_ 41
#check jO DR "compares" 50 3 ?oq ?oq [] []
def By(F:?e->?k):?e->?k:=dF 60 (cf ((?ri,F)::[("compares",(jO)),(?Bg,(jN))])) [?cM,?cd,?iI,?nK,?fS] [?cM,?cd] [] (top 51)
def oF:Nat->?e->?k
 |0=>?hw
 |d+1=>By (oF d)
theorem Ai(T:?cg):∀d,fP P w K mg base ?ri (47+d) [?cM,?cd] (oF d)
 |0=>(E9 (i:=51) (n:=0) (N:=[?cM,?cd,?iI,?nK,?fS]) (ow:=[]) (l:=[]) T rfl (?g) (show 3<=46 by decide) trivial).imp λ_=>?y
 |d+1=>E9 (j:=47+d) T rfl (?g) ?a ⟨⟨_,_,?cs,Ai T d⟩,⟨_,_,?a,DR T⟩,⟨_,_,?a,(rm T 41)⟩,trivial⟩
def oG:?e->?k:=oF 41
theorem DU(T:?cg):fP P w K mg base ?ri 88 [?cM,?cd] (oG):=Ai T 41
#check cZ nv ?uo 55 4 [?N] [?N] [] [bG lZ ?AI]
#check ku Bz ?Ls 56 5 [?N] [?N] [] [cZ nv ?uo]
#check jr za ?Ks 57 3 [?N] [?N] [] []
#check kx BA ?Lt 58 5 [?N] [?N] [] [cZ nv ?uo,jr za ?Ks]
#check l8 DV "is_claim" 59 129 [?N,?iI] [?N] [] [ku Bz ?Ls,kx BA ?Lt,eN vk ?te,cZ nv ?uo]
#check fA tm ?HO 61 5 [?qu,?m,?aL] [?qu,?m] [] [?sA,?oM]
#check iD xt ?Jx 62 45 [?bq,?z,?m,?iI] [?bq,?z] [] [aZ jd ?pm,?sA,fA tm ?HO,dU tj ?sO]
#check iF xu ?Jy 63 130 [?bq,?z] [?bq,?z] [] [iD xt ?Jx,l8 DV "is_claim"]
#check cB ll ?yp 64 4 [?m,?bi,"row"] [?m] [] [?sm]
#check dq mI ?yK 65 88 [?cM,?m,?R,?ah,?cd] [?cM,?m] [] [cB ll ?yp,oG DU ?ri]
#check hJ uP ?Bh 66 3 [?jW,?fT,?gz,?hz] [?jW] [?fT] []
#check js zb ?Kt 67 3 [?jW,?gz] [?jW] [] []
#check eO vm ?IB 68 88 [?cM,?m,?fT,?R,?gJ] [?cM,?m,?fT] [] [cB ll ?yp,oG DU ?ri]
#check bY jP ?tv 69 5 [?bi,?m,?aI,"row"] [?bi,?m] [] [?sA,cR oE ?qT]
#check eY pw ?zY 70 6 [?m,?bi,?cd,?gJ] [?m,?bi] [] [bY jP ?tv,hJ uP ?Bh]
#check eZ rn ?Hn 71 7 [?m,?bi,?hC,?cd,?gJ] [?m,?bi,?hC] [] [bY jP ?tv,eY pw ?zY]
#check e_ ro ?Ho 72 6 [?m,?bi,?fk,?hC,"there","asked",?ah,?cd] [?m,?bi,?fk,?hC] [] [bY jP ?tv]
#check l9 DW "measured" 73 5 [?qu,?m,?vr,?aL,?cd,?ah,?hJ] [?qu,?m,?vr] [] [?sA]
#check fb rA ?Hp 74 6 [?bq,?m,?ly,"outside",?vr,"amount"] [?bq,?m] ["outside"] [bD iC ?il,?sA,l9 DW "measured"]
#check gD vn ?IC 75 89 [?cM,?m] [?cM,?m] [] [dq mI ?yK]
#check fS uQ ?Bi 76 90 [?bq,?z,?m,?iI] [?bq,?z] [] [aZ jd ?pm,fb rA ?Hp,dq mI ?yK,gD vn ?IC,eO vm ?IB,eY pw ?zY,eZ rn ?Hn,e_ ro ?Ho,hJ uP ?Bh,js zb ?Kt]
#check Gk DX "one_more" 80 3 [?Cv,?aI,?aL] [?Cv,?aI] [] []
#check dZ ny ?zv 81 4 [?aI,"most","ordered","longest","longer",?Cv] [?aI,"most"] ["ordered","longer"] [Gk DX "one_more"]
#check bM l_ ?tV 82 3 [?fS,?rj,?aL] [?fS,?rj] [] []
#check bc gE ?sE 83 4 [?nK,?rj,?fS] [?nK,?rj] [] [bM l_ ?tV]
#check jQ Aj ?Cw 84 5 [?aI,?R] [?aI,?R] [] [bD iC ?il]
#check cu mJ ?yL 85 5 [?aI,?hH,?R] [?aI,?hH,?R] [] [bD iC ?il]
#check fc pz ?zZ 86 6 [?m,?gB,?aI] [?m] [?gB] [dZ ny ?zv,jQ Aj ?Cw,bc gE ?sE]
#check dH o6 ?Gn 87 6 [?m,?hH,?hC,?gB,?aI,?aL] [?m,?hH] [?gB] [dZ ny ?zv,cu mJ ?yL,bc gE ?sE]
#check bp ky ?xX 89 3 [?gw,?bq] [?gw] [] []
#check cE tq ?HP 90 3 [?bq,?bi] [?bq,?bi] [] []
#check md DY "fixed_by" 91 4 ["given",?gw,?bi,?hH,"size",?bq,?q] ["given",?gw,?bi] [?hH] [bM l_ ?tV,cE tq ?HP]
#check gq xw ?BI 92 5 [?bq,?hC,?bi,?hH,?fk] [?bq,?hC,?bi] [] [md DY "fixed_by",bM l_ ?tV]
#check cS pA ?Aa 93 3 [?bq,?gw,?fk] [?bq,?gw] [] []
#check rB Ny "cover" 94 6 [?gw,?bi,"left",?bq,?hC] [?gw,?bi] [] [cS pA ?Aa,gq xw ?BI]
#check c_ kz "cells_in" 96 3 [?m,?aL,"row"] [?m,?aL] [] []
#check bJ iH ?pD 97 4 [?m,?aL,?hJ] [?m,?aL] [] [?xY]
#check bP hW ?sP 98 4 [?m,?aL,?cQ] [?m] [] [?oM]
#check jR rC "gone" 99 3 [?iI,?q] [?iI,?q] [] []
#check fU nz ?up 100 3 [?gz,?hz] [?gz,?hz] [] []
#check fD tw ?HQ 101 4 [?m,?cT,?aL,?cQ] [?m] [?cT] [?xY,?tH]
#check gF vo ?ID 102 5 [?m,?cT,?aL,?cd,?q,"here","within"] [?m] [?cT] [bP hW ?sP,bJ iH ?pD,fU nz ?up,?tH]
#check iI xx ?Jz 103 5 [?m,?cT,?aL,?cQ,?cd,"words","same",?cM,"word"] [?m] [?cT] [bJ iH ?pD,?oM,bS nr ?un,?tH]
#check jS DZ "is_below" 104 5 [?m,"low","high",?fT,?gJ] [?m,"low","high",?fT] [] [bJ iH ?pD]
#check iJ nA ?zw 105 4 [?gz,?hz,?cM] [?gz,?hz,?cM] [] [?tH]
#check eA pW ?GJ 106 5 ?IE ?IE [] [iJ nA ?zw,fU nz ?up]
#check jT D0 "compared" 107 6 [?m,?gz,?hz,?fT,"one",?fk,?gJ] [?m,?gz,?hz,?fT] [] [jS DZ "is_below",iJ nA ?zw,eA pW ?GJ]
#check eF pX ?GK 108 7 [?m,?aI,?cT,?gz,?hz,?cd,?fT,?cM,?aL,"row",?gJ] [?m] [?cT] [bP hW ?sP,cR oE ?qT,jT D0 "compared"]
#check fF tD ?HR 109 5 [?m,?cT,?aL,?cd,?fT,?q,"rises",?gJ] [?m] [?cT] [bP hW ?sP,?xY,fU nz ?up,?tH]
#check hX uR ?Bj 110 4 [?m,?aI] [?m,?aI] [] [cR oE ?qT,?sm]
#check jt zc ?Ku 111 5 [?m,?gB,?aI] [?m,?gB] [] [hX uR ?Bj]
#check ff rD ?Hq 112 5 [?m,?aI,?ly,?vr] [?m,?aI] [] [bD iC ?il]
#check gH vq ?IF 113 7 [?m,?gB,?cT,?hH,?cQ,?aI,?N] [?m,?gB] [?cT] [dH o6 ?Gn,bc gE ?sE,hX uR ?Bj,ff rD ?Hq]
#check iK xy ?JA 114 6 [?cd,?cQ,?fk,?aL,"there",?hJ] [?cd,?cQ,?fk,?aL] [] [?xY,?oM,jQ Aj ?Cw]
#check iL xA ?JB 115 7 [?m,?aL,?fk,?cQ,?cd,?cT,"target","wanted",?N] [?m,?aL,?fk] [?cT] [bJ iH ?pD,iK xy ?JA]
#check fJ tE ?HS 116 8 [?m,?z,?cT,?aL,?fk] [?m,?z] [?cT] [iL xA ?JB]
#check dr mK ?yM 117 9 [?m,?z,?gB,?cT] [?m,?z] [] [fc pz ?zZ,iI xx ?Jz,fF tD ?HR,gH vq ?IF,fJ tE ?HS,fD tw ?HQ,gF vo ?ID,eF pX ?GK,jt zc ?Ku]
#check iM xB ?JC 130 3 ["piece",?ah] ?jJ [] []
#check kA BB ?Lu 131 3 ?jJ ?jJ [] []
#check kB BC ?Lq 132 4 ?jJ ?jJ [] [kA BB ?Lu,iM xB ?JC]
def aH:?e->?k:=DA (dj) (kB)
theorem iN(T:?cg):fP P w K mg base ?jz 6 [?cq] (aH):=by
 obtain⟨f1,fd1,a1,a2,a3⟩:=(T.df 133 ?Kq [?fE] rfl).ex;obtain⟨f2,fd2,b1,b2,b3⟩:=(T.df 134 "end_list" [?fE] rfl).ex;have r:=T.rs ?zt (-1) rfl;exact Np (k:=5) (T.df 135 _ _ rfl) ?sV (T.none _ (?g)) r (pU T) (BC T) ⟨f1,fd1,(by
  refine bU a1.ex λoc od kV doc pm an cdv ct osl adN lk hcd=>?_;subst adN;refine CQ (k:=3) lk hcd ((⟨rfl,rfl,rfl,?g,rfl,?g,?g⟩:aX [?fE] [?fE] (af (top 133)))) ?Od ?rU;refine⟨dN (qA (uz (zN aih (O4 ?nY (bL ?bI ee)) (tC (.int 40)))) ?HM mW) (mC (Px K ?aC lO ?bI (bL (Jq ee) ee))),?_,?_⟩
  ·show ?bF
   ·refine ?pP
    ·refine dD (Hw) ?_ ?_ ?lL
     ·refine jG lh rfl (T.none _ (?g)) aml ?_;refine ?fj;exact pv 0
     ·exact mG ?sV rfl
    ·show ?eF;exact xa r hr (?c)
   ·show ?eF;refine eu ?_;refine ?ow
    ·exact pv 0
    ·refine ?fj;exact lN aP
  ·obtain⟨u,ls,rfl,hu,hl,h⟩:=hsp;refine Bn (c:=decide ((40:Int)<ls.length)) rfl hu ?DH ?_;by_cases c:40<ls.length
   ·rw[if_pos c]at h;rw[if_pos ?aj];exact⟨?bv,h⟩
   ·rw[if_neg c]at h;rw[if_neg ?aj];refine⟨?nX,rfl,.inl ⟨rfl,ls,cW.of hu⟩,?bg,?dc⟩;have hne:u≠p:=λe=>by rw[e,hp]at hu;cases hu
    exact⟨u,ls,?af,rfl,rfl,by rw[ae hne];exact hu,hl,h p hp⟩),a2,a1.kp,a3⟩ ⟨f2,fd2,(by
       refine bU b1.ex λoc od kV doc pm an cdv ct osl adO lk hcd=>?_;subst adO;refine CQ (k:=3) lk hcd ((⟨rfl,rfl,rfl,?g,rfl,?g,?g⟩:aX [?fE,"ended"] [?fE] (af (top 134)))) ?Od ?rU;refine⟨dN (qA (uz (zN Vn (O4 ?nY (bL ?bI ee)) (tC ?nr))) ?HM mW) (dN (oX (O4 (abv K) (bL (X_ K ?aC Ye ?bI) ee)) ?rB) (mC (Px K ?aC lO (zN (Fz K) ?bI (tUn ?xf (tC ?nr))) ?kP))),?_,?_⟩
       ·show ?bF
        ·refine ?pP
         ·refine dD jb ?_ ?_ ?lL
          ·refine jG lh rfl (T.none _ (?g)) aml ?_;refine ?fj;exact pv 0
          ·exact lL
         ·show ?eF;exact xa r hr (?c)
        show ?bF
        ·refine dy (i:=1) DM.nd rfl ?dH ?_;refine kZ (pd) rfl (T.none _ (?g)) aop ?_;refine ?fj;refine LB agr PySem.F.slot_list_pop PySem.F.type_list_pop Ur ?_;exact pv 0
        ·show ?eF;refine eu ?_;refine ?ow
         ·refine CY qC ?_ ?_ ?cb
          ·exact pv 0
          ·refine Hv AS ?_;exact lL
         ·refine ?fj;exact pv 1
       ·obtain⟨u,ls,rfl,hu,h⟩:=hsp;refine Bn (c:=decide ((ls.length:Int)=1)) rfl hu ?DH ?_;rcases h with⟨c,h⟩|⟨Pa,l,l2,ys,ys2,rfl,n1,n2,hl,hl2,hz,h⟩
        ·rw[if_pos ?aj];exact⟨?bv,h⟩
        ·rw[if_neg ?aj];have e1:(?EC)[(?EC).length-1]?=some (V.ref l):=by
          rw[adW,aiU ?i];simp
         have e2:(?EC).dropLast=Pa++[V.ref l2]:=by rw[List.dropLast_append_of_ne_nil ?i];rfl
         refine⟨?nX,rfl,.inl ⟨rfl,_,cW.of hu⟩,u,_,?ax,rfl,rfl,hu,e1,l,ys,rfl,.inl ⟨cW.of (by rw[ae n1];exact hl),?qb⟩⟩;rw[e2]at ht⊢;have tu:t≠u:=λe=>by rw[e,aa]at ht;cases ht
         have ht':H t=none:=by rw[ae tu]at ht;exact ht
         have tl2:l2≠t:=λe=>by rw[e,ht']at hl2;cases hl2
         refine⟨?nX,rfl,⟨1,rfl,?_⟩⟩;refine⟨u,Pa++[V.ref l2],-1,.ref l2,rfl,rfl,cW.of (by rw[ae (ahI tu),aa]),?_,.inl ⟨rfl,ys2,cW.of (?QU)⟩,?dR,rfl,l2,ys2,?dR,rfl,rfl,?QU,hz,h t ht'⟩;unfold zU;have hx:HD (Pa++[V.ref l2]).length (-1)=some Pa.length:=by unfold HD;simp;lia
         rw[hx];simp),b2,b1.kp,b3⟩ (?c) (?c) (?c)
#check bh lq ?sQ 136 6 [?cq,?aV] [?cq] [] [aH iN ?jz]
def tG(F:?e->?k):?e->?k:=dF 60 (cf [(?zx,(dF 60 (cf [(?uL,F)]) [?aV,?N] [?aV] [] (top 138)))]) [?N,"inside"] [?N] [] (top 137)
def hZ:Nat->?e->?k
 |0=>?hw
 |d+1=>tG (hZ d)
theorem uS(T:?cg):∀d,fP P w K mg base ?uL (4+2*d) [?N] (hZ d)
 |0=>(E9 (i:=137) (n:=0) (N:=[?N,"inside"]) (ow:=[]) (l:=[]) T rfl (?g) (abB 3) trivial).imp λ_=>?y
 |d+1=>E9 (j:=4+2*d+1) T rfl (?g) ?a ⟨⟨_,_,?cs,E9 (j:=4+2*d) T rfl (?g) ?a ⟨⟨_,_,?cs,uS T d⟩,trivial⟩⟩,trivial⟩
def J4:?e->?k:=hZ 41
def kP:?e->?k:=dF 60 (cf [(?uL,J4)]) [?aV,?N] [?aV] [] (top 138)
theorem xC(T:?cg):fP P w K mg base ?zx 87 [?aV] (kP):=E9 T rfl (?g) (?c) ⟨⟨_,_,?cs,(uS T 41)⟩,trivial⟩
#check bH kC ?xZ 139 87 [?aV,?cZ,"sign"] [?aV] [] [kP xC ?zx]
#check aA cv ?IU 155 4 [?z,?cq] [?z,?cq] [] [aZ jd ?pm,dj pU ?nk]
#check aW gI ?pu 158 10 [?m,?z,?bq] [?m,?z] [] [dr mK ?yM]
#check bw mL ?yN 159 88 [?aV] [?aV] [] [bH kC ?xZ]
#check gJ vt "answer_found" 160 89 [?z,?q] [?z,?q] [] [bw mL ?yN,aW gI ?pu,?ml]
#check bZ jU ?tw 161 10 [?z,?ah,?q,?cT] [?z,?ah,?q] [] [dr mK ?yM,?ml]
#check iO xD "answer_told" 162 88 [?z,?ah,?q,?bq] [?z,?ah,?q] [] [bZ jU ?tw,bH kC ?xZ]
#check h_ rE "answer_support" 163 11 [?z,?ah,?q,?bq] [?z,?ah,?q] [] [bZ jU ?tw]
#check gK vw "answer_holds" 164 131 [?z,?cZ,?bq,"broken"] [?z,?cZ] [] [bh lq ?sQ,iF xu ?Jy,fS uQ ?Bi]
#check kD BD ?Lv 165 3 [?m,?R,?z,?fk,"held"] [?m,?R,?z] [] []
#check gL vx "answer_still" 166 91 [?z,?q,?cZ,?m,"instead",?cT,?fH,?ah,?bq] [?z,?q,?cZ] [] [?ml,kD BD ?Lv,aW gI ?pu,b9 rj ?tU,aH iN ?jz,fS uQ ?Bi]
#check iP xE "answer_keys" 167 7 [?z,?q,?gB,"told",?aI] [?z,?q] ["told"] [fc pz ?zZ,?ml]
#check gM vy "answer_fixed" 168 6 [?z,?q,?cZ,?m,?aI,?hH,?aL] [?z,?q,?cZ] [] [?ml,cp xq ?Jw,aH iN ?jz,cu mJ ?yL]
#check gN vz "answer_cover" 169 89 [?z,?q,?m] [?z,?q] [] [?ml,bw mL ?yN,rB Ny "cover",bp ky ?xX,?sm,aW gI ?pu]
#check fg rF "answer_follows" 170 11 [?z,?ah,?q,?bq,?m,?cT] [?z,?ah,?q] [] [?ml,bp ky ?xX,bZ jU ?tw,aW gI ?pu,gq xw ?BI,cS pA ?Aa,?sm]
#where
open XX
def inner(i j:Nat):Stmt:=(QN ?rh).getD j (.Pass ?pt)
section
theorem Gm{K}(Fn:E3 K ?ck ?Yg (inner 1 0) f fd):ph P w K mg base ?bE 1 f fd [?ae,?ah] (Mo K):=
 MX Fn ⟨rfl,rfl,rfl,?c,rfl,?c,?c⟩ rfl (by first|show ?lK|rfl|rfl) (by first|show ?lK|rfl|kernel_rfl) (?ar)
structure Q7(P:Program)(w:World)(K:aaU)(mg:?bs)(base:Heap):Prop where
 ex:∃R fR fdR,ph P w K mg base ?bE 1 fR fdR [?ae,?ah] (Mo K)/\mg ?go=?dJ/\Sk K R fR ?ck/\Binds K fdR [?ae,?ah] []
theorem VL{K}{st}(Fn:E3 K ?ck qual st f fd)(rc:?ya)(S:aX [?ae] [?ae] ?bH)
  (hb:bQ st=[?kn ?vA p7]) (v0:Cn ?bH ?ae) (hg:(af st).names.lookup (?go:Str)=?wU)
  (ht:∀env:Env,∃pl,eval ?vA env=(do
   let ov<-eval (?o ?go p1) env
   standAt p2.atName
   let ?CI<-holding [ov] (getMethod ov ?ck pl)
   callWith p6 f first (backTo p6 (starEach ?Ne env)) (backToKw p6 ?Fg)))
  (hn:-m=yV n):ph P w K mg base ?bE 2 f fd [?ae] ?Cn:=by
 refine bB rc.ex λR fR fdR FR hm c hbR=>?_;refine bU Fn.ex λoc od kV doc pm an cdv ct osl oe1 lk hcd=>?_;subst oe1;refine LW (k:=1) lk hcd S (by rintro vs H Q E ⟨e,C,tp,ev,_⟩;rw[ev];rfl) ?rU;rw[hb];refine⟨mC (kY (Mo K) [] E0 (bL ?bI (bL (tUn ?xf (tC (.int m))) ee))),?_,?_⟩
 ·refine aw (eu ?_);obtain⟨pl,ht⟩:=ht (envOfC qual ?bH s.heap.objs.size f cdv);refine P0 hg hm c FR hr hbR Mq (ak ?_ (?fj)) (?c) rfl rfl ht
  ·exact ?tR
  ·refine Hv AS ?_;exact lL
 ·obtain⟨e,C,tp,rfl,he,xc,q⟩:=hsp;exact⟨?rm,rfl,m,rfl,e,C,tp,-m,rfl,he,xc,by rw[hn];exact q⟩
#where
def zd(C dx nl:Addr)(p:Nat):HO:=.ins C dx [(?fH,?jX),(?aL,.int p)]
inductive Q8(C:Addr)(vs:?B)(H:Hp)(Q:VK)(E:XK):Prop
 |mk (r dx:Addr) (v:V):vs=[?dT,v]->H r=some ?sW->Q .b_ (upd H r (.ins C dx [(?fH,v),(?aL,.int 0)]))->Q8 C vs H Q E
inductive Q9(K:aaU)(C:Addr)(vs:?B)(H:Hp)(Q:VK)(E:XK):Prop
 |mk (r dx nl p:Nat) (xs:?B):vs=[?dT]->H r=?kF->?tI->Q (.bl (?UT)) H->Q9 K C vs H Q E
inductive Nz(K:aaU)(C:Addr)(vs:?B)(H:Hp)(Q:VK)(E:XK):Prop
 |mk (r dx nl p:Nat) (xs:?B) (v:V):vs=[?dT]->H r=?kF->?tI->xs[p]?=?V->Q v (upd H r ?Yh)->Nz K C vs H Q E
inductive Q_(K:aaU)(C:Addr)(vs:?B)(H:Hp)(Q:VK)(E:XK):Prop
 |mk (r dx nl p:Nat) (xs:?B) (n:Nat):vs=[?dT]->H r=?kF->?tI->xs[p]?=some (?en)->p+1+n<=xs.length->(∀l,upd H r ?wX l=none->Q (?ax) (upd (upd H r ?wX) l (.lst (?ED))))->Q_ K C vs H Q E
structure W2(K:aaU)(mg:?bs)(C:Addr):Prop where
 cls:?rr
 nn:fi K C ?fH
 np:fi K C ?aL
 len:mg ?dG=none
def aiN:R2:=E1 λi j=>?xg
theorem rG{K}(h:?tI)(k:∀o,H nl=?d->(o=.lst xs\/∃u,o=.vQ u ?cm)->H' nl=?d):cW K H' nl xs:=by
 rcases h with(h|⟨u,h⟩)|h
 ·exact .inl (.inl (k _ h (?y)))
 ·exact .inl (.inr ⟨u,k _ h (.inr ⟨u,rfl⟩)⟩)
 ·exact ?rx
theorem NA{K}(h:?tI)(hr:H r=?gR):cW K (upd H r o) nl xs:=rG h λu z c=>by rw[ae λe=>?M];exact z
section
theorem adQ{K}(c:?uM)(Fn:E3 K ?ck "Reader.__init__" (inner 154 0) f fd):gz P w K mg base ?bE 1 f fd [?ae,?fH] (Q8 C):=by
 refine fnX Fn (N:=[?ae,?fH]) ⟨rfl,rfl,rfl,?c,rfl,?g,?c⟩ (by rintro vs H Q E ⟨r,dx,v,ev,_⟩;rw[ev];rfl) λcdv A outer s H vs Q E hr hsp=>⟨dN (Jp K ?bI ?gE ?fH) (Jp K ?bI (tC ?ns) ?aL),?_,?_⟩
 ·exact aq (mX ?eG ?cy rfl) (aw (mX ?eG lL rfl))
 ·obtain⟨r,dx,v,rfl,h,q⟩:=hsp;refine⟨v,rfl,_,rfl,r,C,dx,[],rfl,h,c.cls,c.nn,?c,(⟨_,rfl,r,C,dx,_,rfl,aa,c.cls,c.np,by show 1<1000;decide,?_⟩)⟩;rw[lK];exact q
theorem adR{K}(c:?uM)(Fn:E3 K ?Cx "Reader.at_end" (inner 154 1) f fd):gz P w K mg base ?bE 1 f fd [?ae] (Q9 K C):=by
 refine fnX Fn (N:=[?ae]) ⟨rfl,rfl,rfl,?g,rfl,?g,?g⟩ (by rintro vs H Q E ⟨r,dx,nl,p,xs,ev,_⟩;rw[ev];rfl) λcdv A outer s H vs Q E hr hsp=>⟨oW (zN aiN (AV K ?bI ?aL) (O4 ?nY (bL (AV K ?bI ?fH) ee))),?_,?_⟩
 ·refine aw (b0 (Hx (Lm) ?_ ?_ ?lL))
  ·exact ?kW
  ·exact jG lh rfl c.len aml (ak (?kW) aP)
 ·obtain⟨r,dx,nl,p,xs,rfl,h,hs,q⟩:=hsp;refine⟨_,rfl,r,C,dx,_,_,rfl,h,c.cls,c.np,rfl,_,rfl,r,C,dx,_,_,rfl,h,c.cls,c.nn,rfl,(⟨nl,xs,rfl,.inl hs,p,_,rfl,rfl,?_⟩)⟩;have e:decide (?HC<=(p:Int))=?UT:=?J
  show Q (?bY) H;rw[e];exact q
theorem adS{K}(c:?uM)(Fn:E3 K "take" "Reader.take" (inner 154 2) f fd):gz P w K mg base ?bE 1 f fd [?ae] ?Cy:=by
 refine fnX Fn (N:=[?ae,?ah]) ⟨rfl,rfl,rfl,?g,rfl,?g,?g⟩ ?Nt λcdv A outer s H vs Q E hr hsp=>⟨dN (oX (zN (Fz K) (AV K ?bI ?fH) (AV K ?bI ?aL)) ?rB) (dN (Jp K ?bI (zN (E1 ?xI) (AV K ?bI ?aL) (tC ?nr)) ?aL) (oW ?gE)),?_,?_⟩
 ·show ?bF
  ·refine dy (show([?ae,?ah]:?t).Nodup by decide+kernel) rfl (by first|show ?lK|rfl) (CY qC ?_ ?_ ?cb)
   ·exact ?kW
   ·exact ?kW
  show ?bF
  ·refine ?Kv
   ·exact pv 0
   ·refine Lk Fq ?_ ?_
    ·exact ?kW
    ·exact lL
  ·exact aw (b0 ?cy)
 ·obtain⟨r,dx,nl,p,xs,v,rfl,h,hs,hv,q⟩:=hsp;exact⟨_,rfl,r,C,dx,_,_,rfl,h,c.cls,c.nn,rfl,_,rfl,r,C,dx,_,_,rfl,h,c.cls,c.np,rfl,nl,xs,p,v,rfl,rfl,hs,(by have hp:=(aeH.mp hv).1;delta zU HD;rw[if_pos (Int.natCast_nonneg p),if_pos (?W)];exact hv),(⟨_,rfl,r,C,dx,_,_,rfl,h,c.cls,c.np,rfl,p,1,rfl,rfl,_,rfl,r,C,dx,_,rfl,h,c.cls,c.np,?UU,(⟨v,rfl,q⟩)⟩)⟩
structure TkC(P:Program)(w:World)(K:aaU)(mg:?bs)(base:Heap)(C:Addr):Prop where
 ex:∃f fd,Meth K C "take" f/\gz P w K mg base ?bE 1 f fd [?ae] ?Cy/\Binds K fd [?ae] []
theorem adT{K}(c:?uM)(tk:?WU)(Fn:E3 K ?AJ ?Yi (inner 154 3) f fd):gz P w K mg base ?bE 2 f fd [?ae] (Q_ K C):=by
 refine ah tk.ex λft fdt mt Ft bt=>fnX (k:=1) Fn (N:=[?ae,"size","start"]) ⟨rfl,rfl,rfl,?g,rfl,?g,?g⟩ ?Nt λcdv A outer s H vs Q E hr hsp=>⟨dN (oX (CN C "take" ?Cy [] E ?bI ee) ?rB) (dN (oX (AV K ?bI ?aL) ?lQ) (dN (Jp K ?bI (zN (E1 ?xI) ?kg ?gE) ?aL) (oW (tSl (Up K) (AV K ?bI ?fH) (Lx ?kg) (Lx (AV K ?bI ?aL)))))),?_,?_⟩
 ·show ?bF
  ·exact dy (i:=1) (show([?ae,"size","start"]:?t).Nodup by decide+kernel) rfl ?dH (bE ?eG c.cls mt Ft hr bt .nil br)
  show ?bF
  ·exact dy (i:=2) (show([?ae,"size","start"]:?t).Nodup by decide+kernel) rfl ?dH (?kW)
  show ?bF
  ·refine ?Kv
   ·exact pv 0
   ·refine Lk Fq ?_ ?_
    ·exact pv 2
    ·exact pv 1
  ·refine aw (b0 (CU HE ?_ ?_ ?_))
   ·exact ?kW
   ·exact AX (pv 2)
   ·exact AX (?kW)
 ·obtain⟨r,dx,nl,p,xs,n,rfl,h,hs,hv,hn,q⟩:=hsp;refine⟨?dT,rfl,r,dx,_,rfl,h,rfl,r,dx,nl,p,xs,?en,rfl,h,hs,hv,(⟨?dT,rfl,r,C,dx,_,.int ?sR,rfl,aa,c.cls,c.np,rfl,(⟨.int ?sR,rfl,?en,rfl,_,_,rfl,rfl,?dT,rfl,r,C,dx,_,rfl,aa,c.cls,c.np,?UU,?_⟩)⟩)⟩;rw[lK];refine⟨?dT,rfl,r,C,dx,_,?jX,rfl,aa,c.cls,c.nn,rfl,.int ?sR,rfl,_,rfl,?dT,rfl,r,C,dx,_,_,rfl,aa,c.cls,c.np,rfl,_,rfl,(⟨nl,xs,rfl,NA hs h,?qc⟩)⟩;have e:CV xs (some ?sR) (some (?sR+?cV))=?ED:=by
   unfold CV;rw[show((p+1:Nat):Int)+?cV=((p+1+n:Nat):Int) by lia,HT.AW,HT.AW,aqH hn,aqH (show p+1<=xs.length by lia)];congr 1;lia
  rw[e];exact q l hl
#where
inductive fV(K:aaU)(G H:Hp):?X->?e->Prop
 |nil:fV K G H [] []
 |cons {a dx:Addr} {fs:?jr} {ps:?eX} {as:?X} {ts:?e}:H a=?mj->?ve->a∉as->?pB->?gY->fV K G H (a::as) (?ho::ts)
structure BE(K:aaU)(G H:Hp)(tl:Addr)(as:?X)(ts:?e):Prop where
 same:?aP
 lst:H tl=some (.lst (?fC))
 gl:G tl=none
 S9:∀b dx fs,G b≠?mj
 tabs:?gY
def Kp(H H':Hp)(tl:Addr)(as:?X):Prop:=∀b o,H b=?d->b=tl\/b∈as\/H' b=?d
def adU(K:aaU)(E:XK)(r:Rs (?Z×?e))(G H:Hp)(tl:Addr)(as:?X)(Q:VK):Prop:=match r with
 |?Bk=>∀G' H' vV l,?WV->Kp H H' tl as->(∀b o,G' b=?d->G b=?d\/?bL)->(∀b∈vV,b∈as\/?bL)->Rd H' l (.lst (?tN))->(?ny\/l=tl\/l∈as\/∃o,G l=?d)->Q (?ax) H'
 |?ai=>?AS
 |.bad=>False
inductive spS(K:aaU)(R:?e->?e->Rs (?Z×?e)->Prop)(vs:?B)(H:Hp)(Q:VK)(E:XK):Prop
 |mk (G tl as ts us ps r):vs=?bW::us->?ji->aI K G us ps->R ts ps r->adU K E r G H tl as Q->spS K R vs H Q E
def RP(F:?e->?k)(ts ps:?e)(r:Rs (?Z×?e)):Prop:=(∃a,r=.ok (a,ts)/\F (.lst ts::ps)=?Ea)\/∃n,r=?ai/\F (.lst ts::ps)=?ai
section
theorem fV.mono{K}(h:?gY)(k:∀a∈as,∀o,H a=?d->H' a=?d):fV K G H' as ts:=by
 induction h with
 |nil=>show ?bJ
 |cons h1 h2 h3 h4 _ ih=>exact ?p (k _ ?ct _ h1) h2 h3 h4 ?QD
theorem fV.at_{K}(h:?gY):∀a∈as,∃dx fs,H a=?mj:=by
 induction h with
 |nil=>intro a ha;simp at ha
 |cons h1 _ _ _ _ ih=>
  intro a ha;show ?Go
  ·exact⟨_,_,h1⟩
  ·exact ih a ha
def lr(G H:Hp)(tl:Addr)(as:?X):Hp:=λb=>if b=tl\/b∈as then H b else G b
theorem nB(s:?aP):aj G ?IG:=λb o e=>by
 delta lr;split
 ·exact s b o e
 ·exact e
theorem xF(s:?aP):aj ?IG H:=λb o e=>by
 delta lr at e;show ?aQ
 ·exact e
 ·exact s b o e
theorem fV.rep{K}(h:?gY)(hG:aj G G1)(k:∀a∈as,G1 a=H a):aI K G1 (?fC) ts:=by
 induction h with
 |nil=>show ?bJ
 |cons h1 _ _ h4 _ ih=>exact ?p (.ins ((k _ ?ct).trans h1) (h4.mono hG)) ?QD
theorem BE.rep{K}(h:?ji):Rep K ?IG (?bW) (.lst ts):=
 .lst (.inl (by delta lr;rw[if_pos (?y)];exact h.lst)) (h.tabs.rep (nB h.same) λa ha=>if_pos (.inr ha))
theorem ints_rep{K}{G}:∀{xs}{a:?Z},aI K G xs (a.map PV.int)->xs=?tN
 |_,[],h=>?IH
 |_,i::a,h=>by
  cases h with
  |cons h1 h2=>cases h1;rw[ints_rep h2];rfl
theorem NB{K}{F}:∀vs H Q E,spS K (RP F) vs H Q E->Qa K F vs H Q E:=by
 rintro vs H Q E ⟨G,tl,as,ts,us,ps,r,rfl,st,ru,hR,hp⟩;refine⟨_,_,xF st.same,?p st.rep (ru.mono (nB st.same)),?_⟩;rcases hR with⟨a,rfl,e⟩|⟨n,rfl,e⟩
 ·rw[e];intro G' H' v ex rv;have kH:∀b o,H b=?d->H' b=?d:=λb o z=>ex.hh b o z;cases rv with
  |lst hl r=>
   rename_i l xs;obtain rfl:=ints_rep r;refine hp G _ _ l ⟨st.same.trans ex.hh,kH _ _ st.lst,st.gl,st.S9,st.tabs.mono λa _ o z=>kH a o z⟩ (λb o z=>.inr (.inr (kH b o z))) (λb o z=>?dl) ?GL ?Ji ?_;have hl2:∃o,G' l=?d:=by
    show ?Hr
    ·exact ?lA
    ·exact ?lA
   obtain⟨o,z⟩:=hl2;rcases ex.new l o z with z|z
   ·delta lr at z;split at z
    ·rename_i c;rcases c with c|c
     ·exact .inr (.inl c)
     ·exact ?Fl
    ·exact ?wf
   ·exact ?dl
 ·rw[e];exact hp
#where
inductive D1(x:Str):?X->?e->?gl->Prop
 |nil:D1 x [] [] none
 |hit {a:Addr} {ps:?eX} {as:?X} {ts:?e} {p:PV}:ps.lookup (?q:Str)=?Y->bz false p ?ag=.ok ?lm->D1 x (a::as) (?ho::ts) (?cr)
 |miss {a:Addr} {ps:?eX} {as:?X} {ts:?e} {p:PV} {o:?gl}:ps.lookup (?q:Str)=?Y->bz false p ?ag=.ok ?la->?Kw->D1 x (a::as) (?ho::ts) o
def S_(K:aaU)(E:XK)(o:?gl)(H:Hp)(Q:VK):Prop:=match o with
 |?cr=>∀H',?lF->Q (?C) H'
 |none=>sA K E (-13) H
inductive VM(K:aaU)(vs:?B)(H:Hp)(Q:VK)(E:XK):Prop
 |mk (G tl as ts x o):vs=[?cW,?bW]->?ji->?Kw->S_ K E o H Q->VM K vs H Q E
section
theorem J6:aX [?q,?z,?m] [?q,?z] (af (top 37)):=⟨rfl,rfl,rfl,?c,rfl,?c,?c⟩
theorem BE.keep{K}(st:?ji)(s:?lF):BE K G H' tl as ts:=⟨st.same.trans s,s _ _ st.lst,st.gl,st.S9,st.tabs.mono λa _ o z=>s a o z⟩
theorem J7{K}(T:?cg):Bo P w K mg base ?pm 5 [?q,?z] (VM K):=by
 refine⟨Def.ok (k:=4) (T.df 37 _ _ rfl) ((⟨rfl,rfl,rfl,?c,rfl,?c,?c⟩:aX [?q,?z,?m] [?q,?z] (af (top 37)))) (by rintro vs H Q E ⟨G,tl,as,ts,x,o,ev,_⟩;rw[ev];rfl) λf cdv A outer s H vs Q E hr hsp=>?_⟩;show ?wg;refine⟨dN (CI (Hu K ?gE) ?lQ (qA (j_ K E (bV (c2 ?G (cU (JE aT ?q) ?h) ?b))) (oW ?kg) mW)) (MS K E H (-13)),?_,?_⟩
 ·show ?bF
  ·refine wt alA rfl ?_ (jm (i:=2) J6.nd rfl ?dH) ?_
   ·exact Pn ?cy
   ·refine aw (?pP)
    ·refine gB (wA hu) Y6 ?_ ?_ ?lL
     ·exact UL T.ct.1 (T.ct.2 _ (?c)) (cX 2)
     ·exact cX 0
    ·exact aw (b0 (pv 2))
  ·exact aw (xa ?td hr (?c))
 ·obtain⟨G,tl,as,ts,x,o,rfl,st,sk,hp⟩:=hsp;have sl:cW K H tl (?fC):=cW.of st.lst;refine⟨?bW,rfl,tl,rfl,⟨_,sl⟩,(⟨λi m σ H1=>i+m=as.length/\?nH/\(∃z,σ=[some ?ag,some (?bW),z])/\∃bs us,as.drop i=bs/\fV K G H bs us/\D1 x bs us o,⟨as.length,?M,?bv,?ad,_,_,rfl,st.tabs,sk⟩,(λi m σ H1 adV=>K7 adV λhm sm Ra bs us hb tb sk=>?_)⟩)⟩;clear adV;obtain⟨z,rfl⟩:=Ra;have slH:∀H1,?nH->cW K H1 tl (?fC):=λ_ sm=>cW.of (sm _ _ st.lst);have go:∀{a}{bs'}{ps}{p}{c}{D},as.drop i=a::bs'->(∃dx fs,H a=?mj/\?pB)->ps.lookup (?q:Str)=?Y->bz false p ?ag=.ok (.bl c)->
    (∀H2,aj H H2->if ?iK then D.rt (?C) H2 else D.nx [some ?ag,some (?bW),some (?C)] H2)->(Pm K tl).go i H1/\∀y H',(Pm K tl).Ht i H1 y H'->cP 2 y [some ?ag,some (?bW),z] H' λσ2 H2=>qA (j_ K E (bV (c2 ?G (cU (JE aT ?q) ?h) ?b))) (oW ?kg) mW D σ2 H2:=by
   intro a bs' ps p c D hd ⟨dx,fs,ha,rf⟩ hn he hD;have hi:(?fC)[i]?=some (?C):=by rw[ad0,<-List.head?_drop,hd];rfl
   refine⟨⟨_,_,slH _ sm,hi⟩,λy H2 hy=>?_⟩;obtain⟨rfl,hy⟩:=hy;have hy:=hy _ (slH _ sm);rw[hi]at hy;cases hy;have NC:=st.keep sm;refine⟨lr G H2 tl as,[some ?ag,none,some (?ho)],xF NC.same,λj u e=>?_,?_⟩
   ·match j with
    |0=>cases e;exact⟨_,rfl,?cW⟩
    |1=>cases e
    |2=>
     cases e;refine⟨?C,rfl,.ins (dx:=dx) (fs:=fs) ?_ (rf.mono (nB NC.same))⟩;unfold lr;rw[if_pos (.inr (aqZ (by rw[hd];exact adP ..)))];exact sm _ _ ha
    |j+3=>show ?er
   ·have e:bV (c2 ?G (cU (JE aT ?q) ?h) ?b) [some ?ag,none,some (?ho)]=.ok c:=by
     show(JE aT ?q (?ho)>>=λu=>bz false u ?ag)>>=zZ=_;simp only[JE,if_pos,hn,FP,Rs.aK,he];rfl
    rw[e];intro G2 H3 ex;have z:=hD H3 (sm.trans ex.hh);cases c with
    |true=>exact⟨_,rfl,z⟩
    |false=>exact z
  cases sk with
  |nil=>exact .inl ⟨⟨_,slH _ sm,by rw[aa_];exact anF.mp hb⟩,sm,hp⟩
  |hit hn he=>
   cases tb with
   |cons t1 t2 t3 t4 t5=>
    obtain⟨g1,g2⟩:=go (D:={nx:=?fb,ct:=?fb,bk:=λσ H1=>MS K E H (-13) ?hR σ H1,rt:=Q}) hb ⟨_,_,t1,t4⟩ hn he λH2 s2=>hp H2 s2;exact .inr ⟨g1,?fb,λ_ _ z=>z.elim,g2⟩
  |miss hn he sk=>
   cases tb with
   |cons t1 t2 t3 t4 t5=>
    have hl:?Lj:=by
     by_cases c:?Lj
     ·exact c
     ·rw[anF.mpr ?a]at hb;exact nomatch hb
    have O7:=congrArg List.tail hb;rw[List.tail_drop]at O7;obtain⟨g1,g2⟩:=go (D:={nx:=λσ H1=>(∃z,σ=[some ?ag,some (?bW),z])/\?nH,ct:=λσ H1=>(∃z,σ=[some ?ag,some (?bW),z])/\?nH,bk:=λσ H1=>MS K E H (-13) ?hR σ H1,rt:=Q}) hb ⟨_,_,t1,t4⟩ hn he λH2 s2=>⟨?ad,s2⟩;refine .inr ⟨g1,λσ H1=>(∃z,σ=[some ?ag,some (?bW),z])/\?nH,by rintro σ' H' ⟨hz,s2⟩;exact⟨m-1,?M,?M,s2,hz,_,_,O7,t5,sk⟩,g2⟩
#where
inductive VN(K:aaU)(vs:?B)(H:Hp)(Q:VK)(E:XK):Prop
 |mk (G tl as ts x v p o):vs=[?bW,v]->?ji->?av->dj [p]=.ok ?ag->?Kw->S_ K E o H Q->VN K vs H Q E
section
theorem ND{K}(T:?cg):Bo P w K mg base ?IU 6 [?z,?cq] (VN K):=by
 refine⟨Def.ok (T.df 155 _ _ rfl) ((⟨rfl,rfl,rfl,?c,rfl,?c,?c⟩:aX [?z,?cq] [?z,?cq] (af (top 155)))) (by rintro vs H Q E ⟨G,tl,as,ts,x,v,p,o,ev,_⟩;rw[ev];rfl) λf cdv A outer s H vs Q E hr hsp=>(⟨oW (kY (VM K) [] E (bL (tP K E (cF ?v (dj))) (bL ?bI ee))),?_,?_⟩)⟩
 ·refine aw (b0 (iU (J7 T) hr (?c) br rfl (ak ?_ (?fj))))
  ·exact pO (pU T) hr (?c) br rfl (cQ (cX 1) fz)
  ·exact pv 0
 ·obtain⟨G,tl,as,ts,x,v,p,o,rfl,st,rv,ht,sk,hp⟩:=hsp;refine⟨G,[none,?Y],st.same,λj u e=>?_,?_⟩
  ·match j with
   |0=>cases e
   |1=>cases e;exact⟨_,rfl,rv⟩
   |j+2=>show ?er
  ·have e:cF ?v (dj) [none,?Y]=.ok ?ag:=by
    have e0:c1 ?x c0 [none,?Y]=.ok [p]:=rfl;show(c1 ?x c0 [none,?Y]>>=dj)=_;simp only[e0,Rs.aK];exact ht
   simp only[e];intro G' H' u ex ru;cases ru;exact⟨?bW,rfl,G,tl,as,ts,x,o,rfl,st.keep ex.hh,sk,(by
     cases o with
     |some a=>exactλH2 s2=>hp _ ((ex.hh).trans s2)
     |none=>exact sA.mono hp ex.hh)⟩
#where
mutual
def NG(C:Addr):?Cl
 |?dj=>D2 C l
 |?cx=>D2 C l
 |.ins D fs=>!(D==C)&&Gn C fs
 |.vf _=>false
 |.E4 _=>false
 |_=>true
def D2(C:Addr):?e->Bool
 |[]=>true
 |p::r=>NG C p&&D2 C r
def Gn(C:Addr):?eX->Bool
 |[]=>true
 |(_,p)::r=>NG C p&&Gn C r
end
def eI(C:Addr)(G:Hp):Hp:=λb=>match G b with
 |?xo=>if D=C then none else ?xo
 |o=>o
section
theorem gO:aj ?vi G:=λb o e=>by
 delta eI at e;show ?aQ
 ·simp_all
 ·exact e
theorem rH(h:G b=?d)(n:∀dx fs,o≠?JQ):eI C G b=?d:=by
 delta eI;rw[h];split
 ·grind
 ·rfl
theorem kE b dx fs:eI C G b≠?gR:=λe=>by
 delta eI at e;show ?aQ
 ·lia
 ·rename_i h;exact h _ _ _ e
theorem IB(h:Rd G b o)(n:∀dx fs,o≠?JQ):Rd ?vi b o:=by
 rcases h with h|⟨x,h⟩
 ·exact .inl (rH h n)
 ·exact .inr ⟨x,rH h λ_ _ z=>by show ?aD⟩
theorem Rb(h:G b=?xo)(n:(!(D==C))=true):eI C G b=?xo:=
 rH h λ_ _ z=>by simp_all[beq_self_eq_true]
theorem Rep.drops{K}:(∀v p,?av->NG C p=true->Rep K ?vi v p)/\(∀v p,?fg->D2 C p=true->aI K ?vi v p)/\(∀v p,?pZ->Gn C p=true->jo K ?vi v p)/\∀v p,?uj->True:=
 Rep.fold (λ_=>.b_) (λb _=>?bP) (λi _=>?O) (λx _=>?cW) (λn _=>.ty n) (λh r e=>.tup (by
   rcases h with h|h
   ·exact .inl (IB h λ_ _ z=>by show ?aD)
   ·exact ?rx) (r e)) (λh r e=>.lst (IB h λ_ _ z=>by show ?aD) (r e))
  (λh r e=>.ins (Rb h (?hb e).1) (r (?hb e).2)) (λ_ _ e=>ft e) (λ_ _ _ e=>ft e) (λ_=>.nil) (λa b e=>?p (a (?hb e).1) (b (?hb e).2))
  (λ_=>.nil) (λa b e=>?p (a (?hb e).1) (b (?hb e).2)) trivial ?ta
#where
def tH:Stmt->Expr
 |?di _ e _=>e
 |.If c _ _ _=>c
 |?nE (?gG) _=>e
 |?kn e _=>e
 |_=>?cu ?P 0 ?pt
def W3(i j:Nat):Stmt:=(bQ ?rh).getD j (.Pass ?pt)
abbrev J8:?t:=[?z,?cZ,?m,"held"]
def J9:GE:=dE 60 (cf [(?sQ,bh),(?zX,dG)]) J8 ?pn (tH (W3 156 0))
def NH:GB:=dT 60 ?vs J8 ?pn (tH (W3 156 1))
def NI:GB:=dT 60 ?vs J8 ?pn (tH (W3 156 2))
def Rc:GE:=dE 60 ?vs J8 ?pn (tH (W3 156 4))
def NJ(ts ps:?e)(r:Rs (?Z×?e)):Prop:=ts.length<=3/\∃tp,ps=[tp]/\
 ((∃n,r=?ai/\J9 ?Ei=?ai)\/
  ∃fs,J9 ?Ei=.ok (?LK)/\Gn aT fs=true/\
   ((NH ?rM=?iE/\r=.ex (-5))\/
    (NH ?rM=?nh/\
     ((NI ?rM=?iE/\r=.ex (-6))\/
      (NI ?rM=?nh/\∃a,Rc [none,none,?Yx,none]=?Ea/\r=.ok (a,ts++[?LK]))))))
section
def IC(K:aaU)(G:Hp)(σ:L2.St):Nat->gZ->Prop
 |_,[]=>True
 |i,none::r=>True/\IC K G σ ?bf r
 |i,?Y::r=>(∃v,?jZ=some (?V)/\?av)/\IC K G σ ?bf r
theorem BF{K}{G}{σ}:∀{env}{k},IC K G σ k env->∀i p,env[i]?=some (?Y)->∃v,σ[k+i]?=some (?V)/\?av
 |[],_,_,_,_,e=>by show ?aD
 |none::r,k,h,0,p,e=>?zI
 |?F::r,k,h,0,p,e=>by
  obtain rfl:x=p:=?jm
  exact h.1
 |none::r,k,h,i+1,p,e=>by have:=BF h.2 i p ?bM;rwa[arE,ama]at this
 |?F::r,k,h,i+1,p,e=>by have:=BF (k:=k+1) h.2 i p ?bM;rwa[arE,ama]at this
theorem NK{K}(h:IC K G σ 0 env):?fa:=λi p e=>by have:=BF h i p e;rwa[aqA]at this
theorem fV.len{K}(h:?gY):?WW:=by
 induction h with
 |nil=>rfl
 |cons _ _ _ _ _ ih=>simp_all
theorem fV.snoc{K}(h:?gY)(h1:H a=?mj)(h2:?ve)(h3:a∉as)(h4:?pB):fV K G H (as++[a]) (ts++[?ho]):=by
 induction h with
 |nil=>exact ?p h1 h2 ?bM h4 .nil
 |cons k1 k2 k3 k4 _ ih=>
  rw[aed,not_or]at h3;refine ?p k1 k2 ?_ k4 (ih h3.2);show¬_∈_++[a];rw[afC,not_or,afO];exact⟨k3,λz=>h3.1 z.symm⟩
theorem fV.part{K}(h:?gY)(s:?fN)(n:∀a∈as,G' a=none):fV K G' H as ts:=by
 induction h with
 |nil=>show ?bJ
 |cons k1 k2 k3 k4 _ ih=>exact ?p k1 (n _ ?ct) k3 (k4.mono s) (ih λa ha=>n a (by simp[ha]))
theorem Gp:aX J8 [?z,?cZ] ?pn:=⟨rfl,rfl,rfl,?c,rfl,?c,?c⟩
theorem VO{K}(T:?cg):Bo P w K mg base ?yO 90 [?z,?cZ] (spS K (NJ)):=by
 refine⟨Def.ok (k:=89) (T.df 156 _ _ rfl) ((⟨rfl,rfl,rfl,?c,rfl,?c,?c⟩:aX J8 [?z,?cZ] ?pn)) (by rintro vs H Q E ⟨G,tl,as,ts,us,ps,r,ev,_,ru,⟨_,tp,hp,_⟩,_⟩;rw[ev,ad2,ru.length,hp];rfl) λf cdv A outer s H vs Q E hr hsp=>(⟨dN (oX (tP K E (J9)) ?lQ) (dN (qA (j_ K E (NH)) (MS K E H (-5)) mW) (dN (qA (j_ K E (NI)) (MS K E H (-6)) mW) (dN (mC (Px K ?aC lO ?bI (bL ?kg ee))) (oW (tP K E (Rc)))))),?_,?_⟩)⟩
 ·have at0:=(Nj (P:=P) (w:=w) (K:=K) (mg:=mg) (base:=base) (E:=E) (H0:=H) (s0:=s) (A:=A) (outer:=outer) (cd:=cdv) (f:=f) (qual:=?yO) Gp.nd (Nl T (j:=89) (?c) ?Oy) hr).at_;have at1:=(Nj (P:=P) (w:=w) (K:=K) (mg:=mg) (base:=base) (E:=E) (H0:=H) (s0:=s) (A:=A) (outer:=outer) (cd:=cdv) (f:=f) (qual:=?yO) Gp.nd (Nl T (j:=89) (?c) (show S6 P w K mg base 89 [(?sQ,bh),(?zX,dG)]from⟨⟨_,_,?c,lq T⟩,⟨_,_,?c,y_ T⟩,trivial⟩)) hr).at_;show ?bF
  ·exact dy (i:=2) Gp.nd rfl ?dH ((snd 60).E at1 _)
  show ?bF
  ·refine ?pP
   ·exact(snd 60).T at0 _
   ·show ?eF;exact xa ?td hr (?c)
  show ?bF
  ·refine ?pP
   ·exact(snd 60).T at0 _
   ·exact aw (xa ?td hr (?c))
  show ?bF
  ·refine eu (?ow)
   ·exact pv 0
   ·exact ak (pv 2) aP
  ·exact ?Si
 ·obtain⟨G,tl,as,ts,us,ps,r,rfl,st,ru,⟨hl3,tp,rfl,hR⟩,hp⟩:=hsp;cases ru with
  |cons ru0 ru1=>
  cases ru1;rename_i tx;refine⟨G,?Ei,st.same,NK ⟨trivial,⟨_,rfl,ru0⟩,trivial,trivial,trivial⟩,?_⟩;rcases hR with⟨n,rfl,e⟩|⟨fs,e,CT,hR⟩
  ·rw[e];exact hp
  rw[e];intro G1 H1 v ex1 rv;cases rv with
  |ins ht rf=>
  rename_i t dx vs;obtain⟨NC,sg⟩:=(show BE K ?qh H1 tl as ts/\aj G ?qh from by
     have out:∀b o,H b=?d->G b=none->G1 b=none:=λb o h g=>by
      cases e:G1 b with
      |none=>rfl
      |some u=>
       rcases ex1.new b u e with z|z
       ·simp_all[g]
       simp_all[h]
     have nn:∀b,G1 b=none->eI _ G1 b=none:=λb e=>by
      cases z:eI aT _ b with
      |none=>rfl
      |some u=>rw[gO b u z]at e;omega
     have sg:aj G _:=λb o e=>rH (ex1.gg b o e) ?OT;refine⟨⟨gO.trans ex1.gh,ex1.hh _ _ st.lst,nn _ (out _ _ st.lst st.gl),kE,((st.tabs.mono λa _ o z=>ex1.hh a o z).part sg λa ha=>nn a (out a _ (st.tabs.at_ a ha).choose_spec.choose_spec ?_))⟩,sg⟩;have gen:∀{as}{ts},?gY->∀a∈as,?ve:=λ{as ts}h=>by
      induction h with
      |nil=>intro a ha;simp at ha
      |cons _ k2 _ _ _ ih=>
       intro a ha;show ?Go
       ·exact k2
       ·exact ih a ha
     exact gen st.tabs a ha)
  have ht1:H1 t=?VS:=ex1.gh _ _ ht;have hnew:H t=none:=by
   rcases ex1.new _ _ ht with z|z
   ·exact absurd z (st.S9 t dx vs)
   ·exact z
  have rf1:jo K ?qh vs fs:=(Rep.drops.2.2.1 vs fs rf CT);have s0:?nH:=ex1.hh;have env2:∀{H2},aj H1 H2->∃G2,aj G2 H2/\gA K G2 [some (?bW),some tx,some (?dR),none] ?rM:=λ{H2}s=>by
   have st2:=NC.keep s;refine⟨lr ?qh H2 tl (t::as),xF st2.same,NK ⟨?gj,trivial,?gj,trivial,trivial⟩⟩
   ·exact .lst (.inl (by unfold lr;rw[if_pos (?y)];exact st2.lst)) (st2.tabs.rep (nB st2.same) λa ha=>by unfold lr;rw[if_pos (.inr ?LO)])
   ·refine .ins (dx:=dx) (fs:=vs) ?_ (rf1.mono (nB st2.same));unfold lr;rw[if_pos (.inr ?aS)];exact s _ _ ht1
  refine ag (env2 (aj.refl H1)) λG2 s2 en2=>⟨G2,_,s2,en2,?_⟩;rcases hR with⟨e1,rfl⟩|⟨e1,hR⟩
  ·rw[e1];exactλG3 H3 ex=>⟨s0.trans ex.hh,hp⟩
  rw[e1];intro G3 H3 ex3;refine ag (env2 ex3.hh) λG4 s4 en4=>⟨G4,_,s4,en4,?_⟩;rcases hR with⟨e2,rfl⟩|⟨e2,a,e4,rfl⟩
  ·rw[e2];exactλG5 H5 ex=>⟨(s0.trans ex3.hh).trans ex.hh,hp⟩
  rw[e2];intro G5 H5 K2;have s5:aj H1 H5:=ex3.hh.trans K2.hh;have wu:=NC.keep s5;have ht5:H5 t=?VS:=s5 _ _ ht1;have NL:t≠tl:=Hn ht5 wu.lst ?VT;have hta:t∉as:=λz=>by refine uu (st.tabs.at_ t z) ?Lw;rw[z]at hnew;simp at hnew
  refine⟨?bW,rfl,.inl ⟨rfl,_,cW.of wu.lst⟩,?dR,rfl,tl,_,?dR,rfl,rfl,wu.lst,?_,?_⟩
  ·rw[aa_,st.tabs.len];show ts.length<sizeLine;have:3<sizeLine:=?c
   lia
  have gtl:∀b o,eI aT G1 b=?d->b≠tl:=λb o z y=>by rw[y,wu.gl]at z;exact nn z
  have sm6:aj ?qh (upd H5 tl (.lst (?fC++[?dR]))):=λb o z=>by rw[ae (gtl b o z)];exact wu.same b o z
  have en6:∃G6,aj G6 (upd H5 tl (.lst (?fC++[?dR])))/\(∀b o,G6 b=?d->b=t\/eI aT G1 b=?d)/\gA K G6 [some (?bW),some tx,some (?dR),none] [none,none,?Yx,none]:=by
   refine⟨λb=>?PZ,?fd,?fd,NK ⟨trivial,trivial,?gj,trivial,trivial⟩⟩
   ·dsimp only at z;split at z
    ·rename_i c;subst c;rw[ae NL];exact z
    ·exact sm6 b o z
   ·dsimp only at z;split at z
    ·rename_i c;exact .inl c
    ·exact .inr z
   ·refine .ins (dx:=dx) (fs:=vs) (by show(if t=t then H5 t else _)=_;rw[?bV];exact ht5) (rf1.mono ?fd);show(?PZ)=_;rw[if_neg λc=>kE t dx vs (by rw[c]at z;rw[z,<-ht5,<-sm6 _ _ z,ae NL])];exact z
  refine aG en6 λG6 s6 n6 en6=>⟨G6,_,s6,en6,?_⟩;rw[e4];intro G7 H7 u Ga ru;cases ru with
  |lst hl rl=>
  rename_i l xs;obtain rfl:=ints_rep rl;have k6:∀b o,b≠tl->H5 b=?d->H7 b=?d:=λb o hb z=>Ga.hh b o (?sn);have nat:eI aT G1 t=none:=by
   cases z:eI aT G1 t with
   |none=>rfl
   |some o=>
    have z2:=wu.same _ _ z;rw[ht5]at z2;cases z2;exact absurd z (kE t dx vs)
  refine hp ?qh H7 (as++[t]) l ⟨sm6.trans Ga.hh,?_,wu.gl,kE,?_⟩ (?fd) (λb o z=>ex1.new b o (gO b o z)) (?hl) (aV Ga.gh hl) ?_
  ·rw[afU];exact Ga.hh _ _ aa
  ·refine fV.snoc (wu.tabs.mono λb hb o z=>k6 b o (λc=>(uu (wu.tabs.at_ b hb) λ_ _ y=>?_)) z) (k6 _ _ NL ht5) nat hta rf1;rw[c,wu.lst]at y;cases y
  ·by_cases c:b=tl
   ·exact .inl c
   ·exact .inr (.inr (k6 b o c (s5 b o (s0 b o z))))
  ·rcases afC.mp hb with hb|hb
   ·exact .inl hb
   ·rw[afO.mp hb];exact .inr hnew
  ·have hl2:∃o,G7 l=?d:=by
    show ?Hr
    ·exact ?lA
    ·exact ?lA
   obtain⟨o,z⟩:=hl2;rcases Ga.new l o z with z|z
   ·rcases n6 l o z with z|z
    ·rw[z];exact .inl hnew
    ·rcases ex1.new l o (gO l o z)with z|z
     ·exact ?wf
     ·exact ?dl
   ·have hlt:l≠tl:=λc=>by rw[c,aa]at z;cases z
    rw[ae hlt]at z;exact .inl ((s0.trans s5).free z)
#where
inductive rI(x:Str):?e->?Bb->Prop
 |nil:rI x [] none
 |hit {ps:?eX} {ts:?e} {p:PV}:ps.lookup (?q:Str)=?Y->bz false p ?ag=.ok ?lm->rI x (?ho::ts) (some 0)
 |miss {ps:?eX} {ts:?e} {p:PV} {o:?Bb}:ps.lookup (?q:Str)=?Y->bz false p ?ag=.ok ?la->rI x ts o->rI x (?ho::ts) (o.map (·+1))
theorem rI.seek(h:rI x ts o):∀{as},?WW->D1 x as ts (o.bind λi=>as[i]?):=by
 induction h with
 |nil=>intro as e;cases as with
  |nil=>show ?bJ
  |cons a as=>simp at e
 |hit h1 h2=>intro as e;cases as with
  |nil=>simp at e
  |cons a as=>exact .hit h1 h2
 |miss h1 h2 _ ih=>intro as e;cases as with
  |nil=>simp at e
  |cons a as=>
   rename_i o _;have:=ih (?jm);cases o with
   |none=>exact .miss h1 h2 this
   |some i=>exact .miss h1 h2 this
abbrev Rf:?t:=[?z,?q,?cZ,?m]
def Gq:GE:=dE 60 (cf [(?jz,aH),(?tU,b9)]) Rf ?yP (tH (W3 157 1))
def Rg:GE:=dE 60 ?vs Rf ?yP (tH (W3 157 2))
def rJ(a b c:PV):?eX:=[(?q,a),(?al,b),(?R,c)]
def Rh(ts ps:?e)(r:Rs (?Z×?e)):Prop:=∃np tp x o,ps=[np,tp]/\dj [np]=.ok ?ag/\rI x ts o/\
 ((o=none/\r=?dN)\/∃i a b c,o=?fQ/\ts[i]?=some (.ins aT (rJ a b c))/\
  ((∃n,r=?ai/\Gq ?Df=?ai)\/
   ∃d k,Gq ?Df=.ok d/\NG aT d=true/\Rg ?Or=.ok (.lst (k.map PV.int))/\r=.ok (k,ts.set i (.ins aT (rJ a b d)))))
section
theorem fV.put{K}{G H H'}{t dx}{fs}{ps}:∀{as}{ts}{i},?gY->as[i]?=some t->(∀b∈as,b≠t->H' b=H b)->H' t=?mj->?pB->fV K G H' as (ts.set i (?ho))
 |_,_,_,.nil,e,_,_,_=>?zI
 |a::as,_,0,?p _ k2 k3 _ k5,e,h1,h2,h3=>by
  obtain rfl:a=t:=?jm
  refine ?p h2 k2 k3 h3 (k5.mono λb hb o z=>?_);rw[h1 b (?Le) λc=>k3 (c▸hb)];exact z
 |a::as,_,i+1,?p k1 k2 k3 k4 k5,e,h1,h2,h3=>by refine ?p ((h1 a ?ct λc=>k3 (c▸(agj.mpr ⟨i,e⟩))).trans k1) k2 k3 k4 (fV.put k5 e (λb hb=>h1 b (?Le)) h2 h3)
theorem fV.get{K}{G H}:∀{as}{ts}{i:Nat}{ps},?gY->ts[i]?=some (?ho)->∃t dx fs,as[i]?=some t/\H t=?mj/\G t=none/\?pB
 |_,_,_,_,.nil,e=>?zI
 |_,_,0,_,?p k1 k2 _ k4 _,e=>by cases e;exact⟨_,_,_,rfl,k1,k2,k4⟩
 |_,_,i+1,_,?p _ _ _ _ k5,e=>Jh (fV.get k5 ?bM) λt dx fs h=>⟨t,dx,fs,?gf⟩
def rK(G H:Hp)(t:Addr):Hp:=λb=>if b=t then H t else G b
theorem rL(s:?aP):aj G (rK G H t):=λb o e=>by
 unfold rK;split
 ·rename_i c;subst c;exact s _ _ e
 ·exact e
theorem D3(s:?aP):aj (rK G H t) H:=λb o e=>by
 unfold rK at e;show ?aQ
 ·simp_all
 ·exact s _ _ e
theorem D4(e:rK G H t b=?d):b=t\/G b=?d:=by
 unfold rK at e;show ?aQ
 ·rename_i c;exact .inl c
 ·exact .inr e
theorem D5:rK G H t t=H t:=?bV
theorem Gr:aX Rf [?z,?q,?cZ] ?yP:=⟨rfl,rfl,rfl,?c,rfl,?c,?c⟩
theorem VP{K}(T:?cg):Bo P w K mg base ?zy 90 [?z,?q,?cZ] (spS K (Rh)):=by
 refine⟨Def.ok (k:=89) (T.df 157 _ _ rfl) ((⟨rfl,rfl,rfl,?c,rfl,?c,?c⟩:aX Rf [?z,?q,?cZ] ?yP)) (by rintro vs H Q E ⟨G,tl,as,ts,us,ps,r,ev,_,ru,⟨np,tp,_,_,hp,_⟩,_⟩;rw[ev,ad2,ru.length,hp];rfl) λf cdv A outer s H vs Q E hr hsp=>(⟨dN (oX (kY (VN K) [] E (bL ?bI ?kP)) (cP 3)) (dN (Jp K ?rA (tP K E (Gq)) ?R) (oW (tP K E (Rg)))),?_,?_⟩)⟩
 ·have at0:=(Nj (P:=P) (w:=w) (K:=K) (mg:=mg) (base:=base) (E:=E) (H0:=H) (s0:=s) (A:=A) (outer:=outer) (cd:=cdv) (f:=f) (qual:=?zy) Gr.nd (Nl T (j:=89) (?c) ?Oy) hr).at_;have at1:=(Nj (P:=P) (w:=w) (K:=K) (mg:=mg) (base:=base) (E:=E) (H0:=H) (s0:=s) (A:=A) (outer:=outer) (cd:=cdv) (f:=f) (qual:=?zy) Gr.nd (Nl T (j:=89) (?c) (show S6 P w K mg base 89 [(?jz,aH),(?tU,b9)]from⟨⟨_,_,?c,iN T⟩,⟨_,_,?c,rj T⟩,trivial⟩)) hr).at_;show ?bF
  ·refine dy (i:=3) Gr.nd rfl ?dH (iU (ND T) hr (?c) br rfl (ak ?_ (?fj)))
   ·exact pv 0
   ·exact pv 1
  show ?bF
  ·refine ?Kv
   ·exact pv 3
   ·exact(snd 60).E at1 _
  ·exact ?Si
 ·obtain⟨G,tl,as,ts,us,ps,r,rfl,st,ru,⟨np,tp,x,o,rfl,ht,sk,hR⟩,hp⟩:=hsp;cases ru with
  |cons ru0 ru1=>
  cases ru1 with
  |cons ru1 Ym=>
  cases Ym;rename_i nx tx;refine⟨?bW,rfl,nx,rfl,G,tl,as,ts,x,nx,np,_,rfl,st,ru0,ht,sk.seek st.tabs.len,?_⟩;rcases hR with⟨rfl,rfl⟩|⟨i,a,b,c,rfl,hi,hR⟩
  ·exact hp
  refine bB (st.tabs.get hi) λt dx fs ei hT gT rf=>?_;have e0:((?fQ).bind λi=>as[i]?)=some t:=ei;rw[e0];intro H1 s1;have NC:=st.keep s1;have hT1:=s1 _ _ hT;cases rf with
  |cons ra rf=>
  cases rf with
  |cons rb rf=>
  cases rf with
  |cons rc rf=>
  cases rf;rename_i va vb vc;have NL:t≠tl:=Hn hT1 NC.lst (by intro z;simp at z);refine⟨rK G H1 t,?Df,D3 NC.same,NK ⟨trivial,trivial,⟨_,rfl,ru1.mono (rL NC.same)⟩,⟨?dR,rfl,.ins (D5.trans hT1) (jo.mono (rL NC.same) (?p ra (?p rb (?p rc .nil))))⟩,trivial⟩,?_⟩;rcases hR with⟨n,rfl,e1⟩|⟨d,k,e1,CT,e2,rfl⟩
  ·rw[e1];exact sA.mono (n:=n) hp s1
  rw[e1];intro G3 H3 y ex3 ry;have hT3:=ex3.hh _ _ hT1;have VQ:∀b o,G3 b=?d->b=t\/G b=?d\/?bL:=λb o z=>by
   rcases ex3.new b o z with z|z
   ·rcases D4 z with z|z
    ·exact ?dl
    ·exact .inr (?dl)
   ·exact .inr (.inr (s1.free z))
  have adZ:G3 tl=none:=by
   cases z:G3 tl with
   |none=>rfl
   |some o=>
    rcases VQ tl o z with z|z|z
    ·exact absurd z.symm NL
    ·rw[st.gl]at z;exact nn z
    ·rw[st.lst]at z;show ?nq
  obtain⟨EZ,sg3⟩:=(show BE K ?mZ H3 tl as ts/\aj G ?mZ from by
     have sg:aj G _:=λb o e=>rH (((rL NC.same).trans ex3.gg) b o e) ?OT;refine⟨⟨gO.trans ex3.gh,(?yq) _ _ st.lst,?_,kE,?_⟩,sg⟩
     ·cases z:eI _ _ _ with
      |none=>rfl
      |some u=>rw[gO _ u z]at adZ;simp at adZ
     ·refine(st.tabs.mono λa _ o z=>(?yq) a o z).part sg λa ha=>uu (st.tabs.at_ a ha) λdx fs h=>?_;cases z:eI _ _ a with
      |none=>rfl
      |some u=>
       have y:=ex3.gh _ _ (gO _ u z);rw[(?yq) _ _ h]at y;cases(y);exact absurd z (kE a _ _))
  have ry3:Rep K ?mZ y d:=(Rep.drops.1 y d ry CT);have nt:eI aT G3 t=none:=by
   cases z:eI aT G3 t with
   |none=>rfl
   |some o=>
    have z2:=EZ.same _ _ z;rw[hT3]at z2;cases(z2);exact absurd z (kE t dx _)
  refine⟨?dR,rfl,t,aT,dx,_,rfl,hT3,T.ct.1,T.ct.2 _ (?c),by show 3<1000;decide,?_⟩;have ef:oY ?R y [((?q:Str),va),(?al,vb),(?R,vc)]=[((?q:Str),va),(?al,vb),(?R,y)]:=rfl;rw[ef];have rf4:jo K ?mZ [(?q,va),(?al,vb),(?R,y)] (rJ a b d):=?p (ra.mono sg3) (?p (rb.mono sg3) (?p ry3 .nil));have sm4:aj ?mZ (upd H3 t (.ins aT dx [(?q,va),(?al,vb),(?R,y)])):=λb o z=>by rw[ae λc=>by rw[c,nt]at z;exact nn z];exact EZ.same b o z
  refine⟨rK ?mZ (upd H3 t (.ins aT dx [(?q,va),(?al,vb),(?R,y)])) t,?Or,D3 sm4,NK ⟨trivial,trivial,trivial,⟨?dR,rfl,.ins (D5.trans aa) (rf4.mono (rL sm4))⟩,trivial⟩,?_⟩;rw[e2];intro G7 H7 u Ga ru;cases ru with
  |lst hl rl=>
  rename_i l xs;obtain rfl:=ints_rep rl;have k7:∀b o,b≠t->H3 b=?d->H7 b=?d:=λb o hb z=>Ga.hh b o (?sn);have ht7:H7 t=some (.ins aT dx [(?q,va),(?al,vb),(?R,y)]):=Ga.hh _ _ aa;have tin:t∈as:=agj.mpr ⟨i,ei⟩;refine hp ?mZ H7 as l ⟨sm4.trans Ga.hh,k7 _ _ (ahI NL) EZ.lst,EZ.gl,kE,?_⟩ (?fd) (?fd) ?GL (aV Ga.gh hl) ?_
  ·refine fV.put EZ.tabs ei (λb hb hbt=>(uu (EZ.tabs.at_ b hb) ?Lw)) ht7 rf4;rw[z];exact k7 b _ hbt z
  ·by_cases c:b=t
   ·exact .inr (.inl (c▸tin))
   ·exact .inr (.inr (k7 b o c (ex3.hh _ _ (s1 _ _ z))))
  ·rcases VQ b o (gO b o z)with c|c|c
   ·rw[c,nt]at z;exact nn z
   ·exact .inl c
   ·exact .inr c
  ·have hl2:∃o,G7 l=?d:=by
    show ?Hr
    ·exact ?lA
    ·exact ?lA
   obtain⟨o,z⟩:=hl2;rcases Ga.new l o z with z|z
   ·rcases D4 z with z|z
    ·exact ?Ro
    ·rcases VQ l o (gO l o z)with z|z|z
     ·exact ?Ro
     ·exact ?wf
     ·exact ?dl
   ·have hlt:l≠t:=λc=>by rw[c,aa]at z;simp at z
    rw[ae hlt]at z;exact .inl ((?yq).free z)
#where
structure NM(P:Program)(w:World)(K:aaU)(mg:?bs)(base:Heap)(C:Addr):Prop where
 rc:?uM
 tk:?WU
 tl:∃f fd,Meth K C ?AJ f/\gz P w K mg base ?bE 2 f fd [?ae] (Q_ K C)/\Binds K fd [?ae] []
 te:∃f fd,Meth K C ?Cx f/\gz P w K mg base ?bE 1 f fd [?ae] (Q9 K C)/\Binds K fd [?ae] []
 mkr:∃f fd,Mk K C f/\gz P w K mg base ?bE 1 f fd [?ae,?fH] (Q8 C)/\Binds K fd [?ae,?fH] []
 nm:mg "Reader"=some ?u
structure ID(K:aaU)(C tl:Addr)(as:?X)(ts:?e)(r dx nl:Addr)(xs:?Z)(G H G1 H1:Hp)(p:Nat):Prop where
 st:BE K G1 H1 tl as ts
 gr:G1 r=none
 hr:H1 r=?kF
 hn:cW K H1 nl ?jp
 new:∀b o,G1 b=?d->G b=?d\/?bL
 kp:∀b o,b≠r->H b=?d->H1 b=?d
 old:∀b,H1 b=none->?bL
def NN(K:aaU)(C:Addr)(E:XK)(res:Rs (?Z×?e))(G H:Hp)(tl:Addr)(as:?X)(r dx nl p:Addr)(Q:VK):Prop:=match res with
 |?Bk=>∀G' H' vV l,?WV->H' r=?kF->(∀b o,H b=?d->b=tl\/b∈as\/b=r\/H' b=?d)->(∀b o,G' b=?d->G b=?d\/?bL)->(∀b∈vV,b∈as\/?bL)->Rd H' l (.lst (?tN))->(?ny\/l=tl\/l∈as\/∃o,G l=?d)->Q (?ax) H'
 |?ai=>sA K E n (upd H r (zd C dx nl p))
 |.bad=>False
section
theorem ID.ne{K}(h:?of)(hC:C≠aT):r≠tl/\r∉as:=by refine⟨Hn h.hr h.st.lst ?VT,λz=>(uu (h.st.tabs.at_ r z) ?Lw)⟩;rw[h.hr]at z;cases z;exact hC rfl
theorem ID.step{K}(h:?of)(hC:C≠aT)p':ID K C tl as ts r dx nl xs G H G1 (upd H1 r (zd C dx nl p')) p':=by
 obtain⟨n1,n3⟩:=h.ne hC;have k:∀b o,b≠r->H1 b=?d->upd _ r (zd C dx nl p') b=?d:=λb o hb z=>?sn
 refine⟨⟨λb o z=>k b o (λc=>by simp_all[h.gr]) (h.st.same b o z),k _ _ (ahI n1) h.st.lst,h.st.gl,h.st.S9,h.st.tabs.mono λa ha o z=>k a o (λc=>n3 (c▸ha)) z⟩,h.gr,aa,NA h.hn h.hr,h.new,λb o hb z=>k b o hb (h.kp b o hb z),λb z=>h.old b ?_⟩;by_cases c:b=r
 ·grind [aa]
 ·rw[ae c]at z;exact z
theorem ID.laid{K}(h:?of){t:?Z}(hl:H1 l=none):ID K C tl as ts r dx nl xs G H (upd G1 l ?je) (upd H1 l ?je) p/\aj G1 (upd G1 l ?je)/\Rep K (upd G1 l ?je) (?ax) (?WX):=by
 have gl:G1 l=none:=by
  cases z:G1 l with
  |none=>rfl
  |some o=>simp_all[h.st.same _ _ z]
 have k:∀b o,H1 b=?d->upd _ l ?je b=?d:=?Pd
 have kg:∀b o,G1 b=?d->upd _ l ?je b=?d:=λb o z=>by rw[ae (az z gl)];exact z
 have kn:∀b,b≠l->G1 b=none->upd _ l ?je b=none:=λb hb z=>?sn
 have tin:∀{as}{ts},fV K _ H1 as ts->∀a∈as,G1 a=none:=λ{as ts}h=>by
  induction h with
  |nil=>intro a ha;simp at ha
  |cons _ k2 _ _ _ ih=>
   intro a ha;show ?Go
   ·exact k2
   ·exact ih a ha
 refine⟨⟨⟨?fd,k _ _ h.st.lst,kn _ (az h.st.lst hl) h.st.gl,λb dx fs z=>?_,(h.st.tabs.mono λa _ o z=>k a o z).part kg λa ha=>?_⟩,kn _ (az h.hr hl) h.gr,k _ _ h.hr,rG h.hn λo z _=>k _ o z,?fd,λb o hb z=>k b o (h.kp b o hb z),λb z=>h.old b ?_⟩,kg,?_⟩
 ·by_cases c:b=l
  ·subst c;rw[aa]at z⊢;exact z
  ·rw[ae c]at z⊢;exact h.st.same b o z
 ·by_cases c:b=l
  ·grind [aa]
  ·rw[ae c]at z;exact h.st.S9 b _ _ z
 ·exact uu (h.st.tabs.at_ a ha) λ_ _ z=>kn a (az z hl) (tin h.st.tabs a ha)
 ·by_cases c:b=l
  ·subst c;exact .inr (h.old b hl)
  ·rw[ae c]at z;exact h.new b o z
 ·by_cases c:b=l
  ·grind [aa]
  ·rw[ae c]at z;exact z
 ·refine .lst ?lh ?_;have ri:∀t:?fR,aI K (upd G1 l ?je) _ _:=λt=>by
   have:∀G(t:?fR),aI K G (t.map _) (t.map _):=λG t=>by
    induction t with
    |nil=>show ?bJ
    |cons i t ih=>exact ?p (?O) ih
   exact this _ t
  exact ri t
theorem ID.call{K}(h:?of)(hC:C≠aT)(ru:aI K G1 us ps)(hR:R ts ps res)(hp:NN K C E res G H tl as r dx nl p Q):spS K R (?bW::us) H1 Q E:=by
 obtain⟨n1,n3⟩:=h.ne hC;refine⟨G1,tl,as,ts,us,ps,res,rfl,h.st,ru,hR,?_⟩;cases res with
 |ok x=>
  refineλG' H' vV l vR kp' VR VS rd hl=>hp _ _ _ l vR ?_ (?fd) (?fd) (?hl) rd ?_
  ·rcases kp' _ _ h.hr with c|c|c
   ·show ?aD
   ·show ?aD
   ·exact c
  ·by_cases c:b=r
   ·exact ?Fl
   ·rcases kp' _ _ (h.kp b o c z)with z|z|z
    ·exact ?dl
    ·exact .inr (?dl)
    ·exact .inr (.inr (.inr z))
  ·rcases VR b o z with z|z
   ·exact h.new b o z
   ·exact .inr (h.old b z)
  ·rcases VS b hb with z|z
   ·exact ?dl
   ·exact .inr (h.old b z)
  ·rcases hl with z|z|z|⟨o,z⟩
   ·exact .inl (h.old l z)
   ·exact .inr (?dl)
   ·exact .inr (.inr (?dl))
   ·rcases h.new l o z with z|z
    ·exact ?wf
    ·exact ?dl
 |ex n=>
  refine sA.mono hp ?fd;by_cases c:b=r
  ·cases c;rw[aa]at z;cases z;exact h.hr
  ·rw[ae c]at z;exact h.kp b o c z
 |bad=>exact hp
#where
abbrev tI:=?e->?e->Rs (?Z×?e)->Prop
def R1:?II:=[(0,NJ),(2,RP (gJ)),(5,RP (gK)),(7,RP (iP)),(9,RP (gN))]
def VT:?II:=[(1,Rh),(6,RP (gL)),(8,RP (gM))]
def R3:?II:=[(3,RP (iO)),(4,RP (h_)),(10,RP (fg))]
abbrev lI(t:?Z):PV:=?WX
inductive me(ts:?e):?Z->Nat->Rs (?Z×?e)->Prop
 |one {c:Int} {R:tI} {t tail:?Z} {res}:(c,R)∈R1->R ts [lI t] res->me ts (c::?SF) (2+t.length) res
 |two {c:Int} {R:tI} {t u tail:?Z} {res}:(c,R)∈VT->R ts [lI t,lI u] res->me ts (c::(t.length:Int)::(t++((u.length:Int)::(u++tail)))) (?Bl+u.length) res
 |num {c k:Int} {R:tI} {t tail:?Z} {res}:(c,R)∈R3->R ts [?eo,lI t] res->me ts (c::k::?SF) (?Bl) res
inductive VU(K:aaU)(C:Addr)(vs:?B)(H:Hp)(Q:VK)(E:XK):Prop
 |mk (G:Hp) (tl:Addr) (as:?X) (ts:?e) (r dx nl p:Nat) (xs:?Z) (k:Nat) (res:Rs (?Z×?e)):vs=[?bW,?dT]->?ji->G r=none->H r=?kF->cW K H nl ?jp->me ts (?uN) k res->NN K C E res G H tl as r dx nl (p+k) Q->VU K C vs H Q E
def tBr:List (Int×TE)->TS
 |[]=>?sZ
 |(c,te)::r=>dN (qA (uz (zN Vn ?kg (tC (.int c)))) (oW te) mW) (tBr r)
theorem BG{c}{te}(hσ:σ[2]?=some (some (.int c)))(h:te σ H D.rt):∀{l},(c,te)∈l->(l.map ?aT).Nodup->tBr l D σ H
 |[],hm,_=>by simp at hm
 |(d,t)::l,hm,hn=>by
  refine⟨_,hσ,c,d,rfl,rfl,_,rfl,?_⟩;simp only[abL,agA]at hn;rcases aed.mp hm with e|hm
  ·cases e;rw[if_pos ?i];exact h
  ·have hcd:c≠d:=λe=>hn.1 (adX.mpr ⟨_,hm,e⟩);rw[if_neg (by simpa using hcd)];exact BG hσ h hm hn.2
section
variable(K:aaU)(C:Addr)(E:XK)
def tTk:TE:=CN C "take" ?Cy [] E ?gE ee
def tTl:TE:=CN C ?AJ (Q_ K C) [] E ?gE ee
def W4(R:tI):TE:=kY (spS K R) [] E (bL ?bI ?FK)
def te2(R:tI):TE:=kY (spS K R) [] E (bL ?bI (bL (tTl K C E) ?FK))
def te3(R:tI):TE:=kY (spS K R) [] E (bL ?bI (bL (tTk K C E) ?FK))
def brs:List (Int×TE):=[(0,W4 K C E (NJ)),(1,te2 K C E (Rh)),(2,W4 K C E (RP (gJ))),(3,te3 K C E (RP (iO))),(4,te3 K C E (RP (h_))),(5,W4 K C E (RP (gK))),
 (6,te2 K C E (RP (gL))),(7,W4 K C E (RP (iP))),(8,te2 K C E (RP (gM))),(9,W4 K C E (RP (gN))),(10,te3 K C E (RP (fg)))]
#where
section
theorem Mf{K}(h:?sc):Bo P w K mg base x k ps (spS K (RP F)):=bI h.ex λf fd h1 h2 h3 h4=>⟨f,fd,h1.imp NB,h2,h3,h4⟩
theorem IE:aX [?z,?hD,"call"] [?z,?hD] (af (top 171)):=⟨rfl,rfl,rfl,?c,rfl,?c,?c⟩
section
theorem IF{K}(h:?of)(hσ:?nW=some (some (?dT)))(hx:xs[p]?=?as)(hq:Q (?eo) (upd H1 r ?Yh)):tTk K C E σ H1 Q:=
 ⟨_,hσ,r,dx,_,rfl,h.hr,rfl,r,dx,nl,p,_,_,rfl,h.hr,h.hn,?W,hq⟩
theorem IG{K}(h:?of){n:Nat}(hσ:?nW=some (some (?dT)))(hx:xs[p]?=some ?cV)(hn:p+1+n<=xs.length)(ht:?ED=t)
  (hq:∀l,upd H1 r ?wX l=none->Q (?ax) (upd (upd H1 r ?wX) l ?je)):tTl K C E σ H1 Q:=
 ⟨_,hσ,r,dx,_,rfl,h.hr,rfl,r,dx,nl,p,_,n,rfl,h.hr,h.hn,?W,?W,λl hl=>by rw[<-asK,<-List.map_take,ht];exact hq l hl⟩
#where
def Sub{α β:Type _}(f:?ob)(L:?vt):?aa->Prop
 |[]=>True
 |a::r=>f a∈L/\Sub f L r
theorem Sub.of{α β:Type _}{f:?ob}{L:?vt}{a:α}{l}:Sub f L l->a∈l->f a∈L:=by
 induction l with
 |nil=>exactλ_ m=>absurd m af3
 |cons b l ih=>exactλh m=>(aed.mp m).elim (λe=>e▸h.1) ?Cz
theorem aiY(K C E):Sub (λp:Int×tI=>(p.1,W4 K C E p.2)) ?Lx R1:=by repeat (first|exact trivial|refine aqh ?_ ?_|exact ?jS|refine ars _ ?_)
theorem aiZ(K C E):Sub (λp:Int×tI=>(p.1,te2 K C E p.2)) ?Lx VT:=by repeat (first|exact trivial|refine aqh ?_ ?_|exact ?jS|refine ars _ ?_)
theorem ai0(K C E):Sub (λp:Int×tI=>(p.1,te3 K C E p.2)) ?Lx R3:=by repeat (first|exact trivial|refine aqh ?_ ?_|exact ?jS|refine ars _ ?_)
theorem VW:([0,1,2,3,4,5,6,7,8,9,10]:?Z).Nodup:=?c
theorem Ri{P:Program}{w:World}{K:aaU}{mg:?bs}{base:Heap}{C:Addr}(T:?cg)(rd:?Yj)(hC:C≠aT):Bo P w K mg base ?JD 133 [?z,?hD] (VU K C):=by
 refine⟨Def.ok (k:=132) (T.df 171 _ _ rfl) IE (by rintro vs H Q E ⟨G,tl,as,ts,r,dx,nl,p,xs,k,res,ev,_⟩;rw[ev];rfl) λf cdv A outer s H vs Q E hr hsp=>⟨_,(show oj (CB P w K mg base [?z,?hD,"call"] ?JD (af (top 171)) _ _ _ _ _ _ _) (bQ (top 171)) (dN (oX (tTk K C _) ?lQ) (tBr (brs K C _)))from by
    refine ah rd.tk.ex λf1 fd1 m1 F1 b1=>ah rd.tl λf2 fd2 m2 F2 b2=>aq ?_ ?_
    ·exact dy (i:=2) IE.nd rfl (by first|show ?lK|rfl) (bE ?cy rd.rc.cls m1 F1 (hr.mono (?c)) b1 .nil br)
    exact aq (gj ?gM (aw (b0 (iU (VO T) hr (?c) br rfl (ak ?eG (ak (bE ?cy rd.rc.cls m2 F2 (hr.mono (?c)) b2 .nil br) aP))))) cg) (aq (gj ?gM (aw (b0 (iU (VP T) hr (?c) br rfl (ak ?eG (ak (bE ?cy rd.rc.cls m2 F2 (hr.mono (?c)) b2 .nil br) (ak (bE ?cy rd.rc.cls m2 F2 (hr.mono (?c)) b2 .nil br) aP)))))) cg) (aq (gj ?gM (aw (b0 (iU (Mf (vt T)) hr (?c) br rfl (ak ?eG (ak (bE ?cy rd.rc.cls m2 F2 (hr.mono (?c)) b2 .nil br) aP))))) cg) (aq (gj ?gM (aw (b0 (iU (Mf (xD T)) hr (?c) br rfl (ak ?eG (ak (bE ?cy rd.rc.cls m1 F1 (hr.mono (?c)) b1 .nil br) (ak (bE ?cy rd.rc.cls m2 F2 (hr.mono (?c)) b2 .nil br) aP)))))) cg) (aq (gj ?gM (aw (b0 (iU (Mf (rE T)) hr (?c) br rfl (ak ?eG (ak (bE ?cy rd.rc.cls m1 F1 (hr.mono (?c)) b1 .nil br) (ak (bE ?cy rd.rc.cls m2 F2 (hr.mono (?c)) b2 .nil br) aP)))))) cg) (aq (gj ?gM (aw (b0 (iU (Mf (vw T)) hr (?c) br rfl (ak ?eG (ak (bE ?cy rd.rc.cls m2 F2 (hr.mono (?c)) b2 .nil br) aP))))) cg) (aq (gj ?gM (aw (b0 (iU (Mf (vx T)) hr (?c) br rfl (ak ?eG (ak (bE ?cy rd.rc.cls m2 F2 (hr.mono (?c)) b2 .nil br) (ak (bE ?cy rd.rc.cls m2 F2 (hr.mono (?c)) b2 .nil br) aP)))))) cg) (aq (gj ?gM (aw (b0 (iU (Mf (xE T)) hr (?c) br rfl (ak ?eG (ak (bE ?cy rd.rc.cls m2 F2 (hr.mono (?c)) b2 .nil br) aP))))) cg) (aq (gj ?gM (aw (b0 (iU (Mf (vy T)) hr (?c) br rfl (ak ?eG (ak (bE ?cy rd.rc.cls m2 F2 (hr.mono (?c)) b2 .nil br) (ak (bE ?cy rd.rc.cls m2 F2 (hr.mono (?c)) b2 .nil br) aP)))))) cg) (aq (gj ?gM (aw (b0 (iU (Mf (vz T)) hr (?c) br rfl (ak ?eG (ak (bE ?cy rd.rc.cls m2 F2 (hr.mono (?c)) b2 .nil br) aP))))) cg) (aq (gj ?gM (aw (b0 (iU (Mf (rF T)) hr (?c) br rfl (ak ?eG (ak (bE ?cy rd.rc.cls m1 F1 (hr.mono (?c)) b1 .nil br) (ak (bE ?cy rd.rc.cls m2 F2 (hr.mono (?c)) b2 .nil br) aP)))))) cg) (λ_ _ _ _ _ _ h=>h.elim)))))))))))),?_⟩⟩
 obtain⟨G,tl,as,ts,r,dx,nl,p,xs,k,res,rfl,st,gr,h_r,hn,hc,hp⟩:=hsp;have h0:ID K C tl as ts r dx nl xs G H G H p:=⟨st,gr,h_r,hn,λb o z=>?dl,λb o _ z=>z,λb z=>z⟩;generalize xG:?uN=rest at hc;have at_:∀i,xs[p+i]?=rest[i]?:=λi=>by rw[<-xG,List.getElem?_drop]
 have len:rest.length=?Ly:=by rw[<-xG,ar3]
 have cut:∀i n,(xs.drop (p+i)).take n=(rest.drop i).take n:=λi n=>by rw[<-xG,asF]
 cases hc with
 |one hm hR=>
  rename_i c R t tail;refine ?DO;refine BG rfl ?_ ((aiY K C E).of hm) VW;have h1:=?Hs;show ?IJ;refine⟨?bW,rfl,?_⟩;refine IG h1 rfl (n:=t.length) (t:=t) (at_ 1) ?a ?_ ?qc
  ·rw[ama,cut];simp
  ·refine i8 ?NZ λh2 _ r2=>?_;exact h2.call hC (?p r2 .nil) hR (by rw[?Oz];exact hp)
 |two hm hR=>
  rename_i c R t u tail;refine ?DO;refine BG rfl ?_ ((aiZ K C E).of hm) VW;have h1:=?Hs;show ?IJ;refine⟨?bW,rfl,?_⟩;refine IG h1 rfl (n:=t.length) (t:=t) (at_ 1) ?a ?_ ?qc
  ·rw[ama,cut];simp
  refine i8 ?NZ λh2 s2 r2=>?_;refine IG h2 rfl (n:=u.length) (t:=u) ?_ ?a ?_ λl2 hl2=>?_
  ·rw[?Oz,at_];simp[aqz 2]
  ·rw[show p+1+1+t.length+1=p+(2+t.length+1) by lia,cut];simp[aqz 2,ama]
  ·refine i8 ((h2.step hC (p+1+1+t.length+1+u.length)).laid (t:=u) hl2) λh3 s3 r3=>?_;exact h3.call hC (?p (r2.mono s3) (?p r3 .nil)) hR (by rw[show p+1+1+t.length+1+u.length=p+(?Bl+u.length) by lia];exact hp)
 |num hm hR=>
  rename_i c kk R t tail;refine ?DO;refine BG rfl ?_ ((ai0 K C E).of hm) VW;have h1:=?Hs;show ?IJ;refine⟨?bW,rfl,?_⟩;refine IF h1 rfl (k:=kk) (at_ 1) ?_;have h2:=h1.step hC (p+1+1);refine IG h2 rfl (n:=t.length) (t:=t) (at_ 2) ?a ?_ ?qc
  ·rw[show p+1+1+1=p+3 by lia,cut];simp
  ·refine i8 ((h2.step hC (p+1+1+1+t.length)).laid (t:=t) hl) λh3 s3 r3=>?_;exact h3.call hC (?p (.int kk) (?p r3 .nil)) hR (by rw[show p+1+1+1+t.length=p+(?Bl) by lia];exact hp)
#where
def RfC(K:aaU)(mg:?bs):Prop:=∃R,XC K R/\alT K mainGlobals ?go=some (?dJ)/\mg ?go=?dJ
def Told(res:Rs (?Z×?e))(ts:?e)(a:?Z)(Cs:?e):Prop:=res=?Bk\/∃n,res=?ai/\a=[yV n]/\Cs=ts
inductive ad1(K:aaU)(C:Addr)(vs:?B)(H:Hp)(Q:VK)(E:XK):Prop
 |mk (G:Hp) (tl:Addr) (as:?X) (ts:?e) (r dx nl p:Nat) (xs:?Z) (k:Nat) (res:Rs (?Z×?e)) (a:?Z) (Cs:?e):vs=[?bW,?dT]->?ji->G r=none->H r=?kF->cW K H nl ?jp->me ts (?uN) k res->Told res ts a Cs->NN K C E0 (?Bk) G H tl as r dx nl (p+k) Q->ad1 K C vs H Q E
inductive Run:?Z->?e->?Z->Prop
 |nil {ts:?e}:Run [] ts []
 |cons {rest:?Z} {ts Cs:?e} {k:Nat} {res:Rs (?Z×?e)} {a out:?Z}:me ts rest k res->Told res ts a Cs->Run (rest.drop k) Cs out->Run rest ts ((a.length:Int)::(a++out))
inductive Rj(K:aaU)(vs:?B)(H:Hp)(Q:VK)(E:XK):Prop
 |mk (nl:Addr) (xs out:?Z):vs=[?jX]->cW K H nl ?jp->Run xs [] out->out.length<=10000000->(∀H' l,?Qa->Q (?ax) H')->Rj K vs H Q E
section
theorem me.pos{rest}(h:me ts rest k res):0<k/\rest≠[]:=by
 cases h with
 |one _ _=>exact⟨?M,?J⟩
 |two _ _=>exact⟨?M,?J⟩
 |num _ _=>exact⟨?M,?J⟩
abbrev Rk:?t:=["calls",?hD,?z,"told","answer"]
theorem BE.upd{K}(st:?ji)(h1:td≠tl)(h2:G td=none)(h3:td∉as):BE K G (upd H td o) tl as ts:=by
 have k:∀b u,b≠td->H b=?Q->L2.upd H _ o b=?Q:=λb u hb z=>?sn
 exact⟨λb u z=>k b u (λc=>?W) (st.same b u z),k _ _ (ahI h1) st.lst,st.gl,st.S9,st.tabs.mono λa ha u z=>k a u (λc=>h3 (c▸ha)) z⟩
structure Btw(K:aaU)(C:Addr)(nl r dx tl td:Addr)(xs out:?Z)(m:Nat)(σ:L2.St)(H:Hp):Prop where
 ex:∃(G:Hp)(as:?X)(ts:?e)(p:Nat)(done o2:?Z),(∃z,σ=[some (?jX),some (?dT),some (?bW),some (.ref td),z])/\?ji/\G r=none/\G td=none/\H r=?kF/\cW K H nl ?jp/\H td=some (.lst (done.map V.int))/\
  Run (?uN) ts o2/\done++o2=out/\m=?Ly
theorem VX:aX [?z,?hD,"refusal"] [?z,?hD] (af (top 172)):=⟨rfl,rfl,rfl,?c,rfl,?c,?c⟩
theorem BH:aX Rk ?lq (af (top 173)):=⟨rfl,rfl,rfl,?c,rfl,?c,?c⟩
theorem VY{K}(T:?cg)(rd:?Yj)(rf:RfC K mg)(hC:C≠aT)(h1:E3 K ?qj ?qj (top 173) f fd):gz P w K mg base ?bE 136 f fd ?lq (Rj K):=by
 refine ah rd.mkr λfm fdm Mm Fm bm=>ah rd.te λfe fde Me Fe be=>?_;refine fnX (k:=135) h1 ((⟨rfl,rfl,rfl,?c,rfl,?c,?c⟩:aX Rk ?lq (af (top 173)))) (by rintro vs H Q E ⟨nl,xs,out,ev,_⟩;rw[ev];rfl) λcdv A outer s H vs Q E hr hsp=>?_;refine⟨dN (oX (Sd C (Q8 C) [] E (bL ?bI ee)) ?rB) (dN (oX (Jq ee) ?lQ) (dN (oX (Jq ee) (cP 3)) (dN (Lj (Xr (tB (CN C ?Cx (Q9 K C) [] E ?gE ee)))
  (dN (oX (kY (ad1 K C) [] E (bL ?kg ?kP)) (cP 4)) (dN (mC (Px K ?aC lO ?rA (bL (O4 ?nY (bL (bj 4) ee)) ee))) (mC (Px K ?aC Sw ?rA (bL (bj 4) ee)))))) (oW ?rA)))),?_,?_⟩
 ·show ?bF
  ·refine dy (i:=1) BH.nd rfl ?dH ?_;refine HB Mm Fm (hr.mono (?c)) rfl rd.nm bm .nil br ?_;exact ak ?eG aP
  show ?bF
  ·exact dy (i:=2) BH.nd rfl ?dH (lN aP)
  show ?bF
  ·exact dy (i:=3) BH.nd rfl ?dH (lN aP)
  show ?bF
  ·refine CG alA ?_ ?_
   ·exact Lh (Lg (bE ?cy rd.rc.cls Me Fe (hr.mono (?c)) be .nil br))
   ·show ?bF
    ·refine dy (i:=4) BH.nd rfl ?dH (iU (by
       refine aG rf λR xr hns hm=>⟨Def.ok (k:=133) (T.df 172 _ _ rfl) ((⟨rfl,rfl,rfl,?c,rfl,?c,?c⟩:aX [?z,?hD,"refusal"] [?z,?hD] (af (top 172)))) (by rintro vs H Q E ⟨G,tl,as,ts,r,dx,nl,p,xs,k,res,a,Cs,ev,_⟩;rw[ev];rfl) λf cdv A outer s H vs Q E hr hsp=>(⟨S7 λE'=>kY (VU ?MF C) [] E' (bL ?bI ?kP),?_,?_⟩)⟩
       ·show ?eF;refine Q2 (i:=2) (n:="refusal") rfl rfl VX.nd rfl rfl xr (λC' xc=>xc.sub R hns) hm rfl (?H) ?ak (?c) λpins xe E' hp=>iU (Ri T rd hC) hr (?c) hp rfl (ak ?_ (?fj))
        ·exact pv 0
        ·exact pv 1
       ·obtain⟨G,tl,as,ts,r,dx,nl,p,xs,k,res,a,Cs,rfl,st,gr,h_r,hn,hc,ht,hp⟩:=hsp;refine⟨?bW,rfl,?dT,rfl,G,tl,as,ts,r,dx,nl,p,xs,k,res,rfl,st,gr,h_r,hn,hc,?_⟩;rcases ht with rfl|⟨n,rfl,rfl,rfl⟩
        ·exact hp
        ·refineλH' C' d sm xc hd _=>ag hd λfs hx hl=>⟨d,fs,yV n,rfl,hx,hl,?qc⟩;have h0:ID ?MF C tl as Cs r dx nl xs G H G H p:=⟨st,gr,h_r,hn,λb o z=>?dl,λb o _ z=>z,λb z=>z⟩;have h1:=h0.step hC (p+k);have s2:aj H' (upd H' l (.lst [?AB])):=?Pd
         have s3:=sm.trans s2;refine hp G _ as l (h1.st.keep s3) (s3 _ _ h1.hr) (?fd) (λb o z=>?dl) ?GL (.inl aa) (.inl (h1.old l (sm.free hl)));by_cases c:b=r
         ·exact ?Fl
         ·exact .inr (.inr (.inr (s3 b o (by rw[ae c];exact z))))) hr (?c) br rfl (ak ?_ (?fj)))
     ·exact pv 2
     ·exact pv 1
    show ?bF
    ·refine eu (?ow)
     ·exact pv 3
     ·exact ak (jG lh rfl rd.rc.len aml (ak (pv 4) aP)) aP
    ·refine aw (eu (mY agr an8 an9 Bc ?_ ?_))
     ·exact pv 3
     ·exact ak (pv 4) aP
  ·exact aw (b0 (pv 3))
 ·obtain⟨nl,xs,out,rfl,hn,ai1,hlen,hq⟩:=hsp;refine⟨?jX,rfl,λr dx e1 e2 ne=>(⟨r,dx,?jX,rfl,aa,rfl,?_⟩)⟩;rw[lK];refine⟨?bg,λtl NL=>⟨?bg,λtd htd=>?_⟩⟩;have k1:∀b o,H b=?d->upd ?xp r ?yQ b=?d:=λb o z=>by
   rw[ae (az z e1),ae (az z e2)];exact z
  have ntl:tl≠r:=λc=>by have z:upd ?xp r ?yQ tl=none:=NL;rw[c,aa]at z;cases z
  have ntd:td≠tl:=λc=>by rw[c,aa]at htd;cases htd
  have NO:upd ?xp r ?yQ td=none:=by have z:=htd;rw[ae ntd]at z;exact z
  have ntr:td≠r:=λc=>by rw[c,aa]at NO;cases NO
  have ai4:cW K (upd ?xp r ?yQ) nl ?jp:=rG hn λo z _=>k1 _ o z;have nls:(∀H',cW K H' nl ?jp)\/(nl≠tl/\nl≠td):=by
   rcases hn with(hn|⟨u,hn⟩)|hn
   ·exact ?Oa
   ·exact ?Oa
   ·exact .inl λ_=>.inr hn
  refine⟨λm σ H'=>Btw K C nl r dx tl td xs out m σ H',⟨_,⟨?iz,[],[],0,[],out,?ad,⟨λb o z=>(?ui),?_,rfl,λ_ _ _ z=>(?ui),.nil⟩,rfl,rfl,?_,?_,aa,ai1,rfl,rfl⟩⟩,?_⟩
  ·rw[ae (ahI ntd)];exact aa
  ·rw[ae (ahI ntr),ae (ahI ntl)];exact aa
  ·refine rG ai4 λo z _=>?_;rw[ae (az z NO),ae (az z NL)];exact z
  rintro m σ H1 ⟨G,as,ts,p,done,o2,⟨z,rfl⟩,st,gr,gd,hr1,hn1,Ad,run,ho,rfl⟩;refine⟨?dT,rfl,r,dx,_,rfl,hr1,rfl,r,dx,nl,p,_,rfl,hr1,hn1,_,rfl,?_⟩;rw[aa_];by_cases hp:xs.length<=p
  ·rw[decide_eq_true hp];show oW ?rA {nx:=λx H'=>Q V.b_ H',rt:=Q} _ _;rw[anF.mpr hp]at run;cases run with
   |nil=>
    rw[afM]at ho;subst ho;exact⟨_,rfl,hq _ _ Ad⟩
   |cons hc _ _=>exact absurd rfl hc.pos.2
  ·rw[decide_eq_false hp];refine wI (⟨λσ' H'=>∃m',m'<?Ly/\Btw K C nl r dx tl td xs out m' σ' H',?Mf,?_⟩);generalize xG:?uN=rest at run;cases run with
   |nil=>exact absurd (anF.mp xG) hp
   |cons hc ht run'=>
   rename_i Cs k res a o3;obtain⟨hk,_⟩:=hc.pos;have hda:td∉as:=λc=>by refine uu (st.tabs.at_ td c) λ_ _ c=>?_;rw[Ad]at c;cases c
   have hra:r∉as:=λc=>by refine uu (st.tabs.at_ r c) λ_ _ c=>?_;rw[hr1]at c;cases c;exact hC rfl
   refine⟨?bW,rfl,?dT,rfl,G,tl,as,ts,r,dx,nl,p,xs,k,res,a,Cs,rfl,st,gr,hr1,hn1,by rw[xG];exact hc,ht,?_⟩;intro G' H' vV l vR hr' kp' VR VS rdl hl;have keep:∀b o,b≠tl->b∉as->b≠r->H1 b=?d->H' b=?d:=λb o c1 c2 c3 z=>by
    rcases kp' b o z with c|c|c|c
    ·exact absurd c c1
    ·exact absurd c c2
    ·exact absurd c c3
    ·exact c
   have EY:=keep _ _ ntd hda ntr Ad;have WN:cW K (upd H' td (.lst ((?Eb).map V.int))) nl ?jp:=by
    rcases nls with hs|⟨n1,n2⟩
    ·exact hs _
    refine rG hn1 λo z c=>?_;have e1:nl≠r:=λe=>by rw[e,hr1]at z;cases z;show ?VU
    have e2:nl∉as:=λe=>by refine uu (st.tabs.at_ nl e) λ_ _ e=>?_;rw[e]at z;cases z;show ?VU
    rw[ae n2];exact keep _ o n1 e2 e1 z
   have ad3:∀b o,H1 b=?d->G b=none->G' b=none:=λb o z g=>by
    cases e:G' b with
    |none=>rfl
    |some u=>
     rcases VR b u e with c|c
     ·rw[g]at c;cases c
     ·rw[z]at c;cases c
   have gd':=ad3 _ _ Ad gd;have gr':=ad3 _ _ hr1 gr;have hld:l≠td:=λc=>by
    subst c;rcases hl with c|c|c|⟨o,c⟩
    ·rw[Ad]at c;cases c
    ·exact ntd c
    ·exact hda c
    ·rw[gd]at c;cases c
   have ai6:td∉vV:=λc=>by
    rcases VS td c with c|c
    ·exact hda c
    ·rw[Ad]at c;cases c
   rw[<-ho,adW,ad2,adW]at hlen;have big:10000000<sizeLine:=?c
   refine⟨.ref td,rfl,.inl ⟨rfl,_,cW.of EY⟩,?ax,rfl,l,_,rfl,.inl (.inl rdl),td,_,_,rfl,rfl,EY,?_,?_⟩
   ·rw[aa_];lia
   have hd2:upd H' td (.lst ?CY) td=some (.lst ?CY):=aa;refine⟨.ref td,rfl,.inl ⟨rfl,_,cW.of hd2⟩,?ax,rfl,td,l,_,?tN,rfl,rfl,hd2,?_,?_,?_⟩
   ·rcases rdl with c|⟨o,c⟩
    ·exact .inl (?UV)
    ·exact .inr ⟨o,?UV⟩
   ·simp only[adW,aa_,ad2,aod];lia
   ·rw[lK];refine⟨xs.length-(p+k),?M,⟨G',vV,Cs,p+k,?Eb,o3,?ad,vR.upd ntd gd' ai6,gr',gd',?_,?_,?_,?_,?_,rfl⟩⟩
    ·rw[ae (ahI ntr)];exact hr'
    ·have e:?CY++?tN=(?Eb).map V.int:=?J
     rw[e];exact WN
    ·rw[aa];simp
    ·rw[<-asF,xG];exact run'
    ·rw[<-ho];simp
#where
abbrev fl(f:Str):PV->?k:=Gf ?vs f
abbrev fN:GF:=λse=>?jy
abbrev fX(n:Int):GF:=λ_=>?ai
theorem D6 a0:bG [a0]=outF ((ai (cF (c1 (dM 2 [1] (iA ?b) ?iO bT (cF (c1 ?x ?mf) eh)) c0) lS)) [?s,.no]):=rfl
theorem J_ a0:oz [a0]=outF ((ab (bC (bO (bN (bV (cF (c1 ?b ?ga) eh))) (bV (c2 Cq (cF (c1 ?b c0) aM) ?aG))) ?eu fN) (ab (bC (bV (c2 ?G (c2 aU ?b ?ab) (cK (.str "up")))) (ai (cA (c2 ?G (cF (c1 ?b c0) aM) ?aG) (cA (cF (c1 (c2 aU ?b ?ac) ?hS) eh) (c2 WT (c2 aU ?b ?ac) ?ac)))) fN) (ai (cA (c2 ?G (c2 aU ?b ?ab) (cK (.str "of"))) (cA (c2 Y_ (cF (c1 ?b c0) aM) (c2 fw (cK (?vk)) ?ac)) (cF (c1 (FY ?b (oS ?ac) oN) c0) (bG))))))) [?s]):=rfl
theorem D7 a0:ko [a0]=outF ((ab (bC (bO (bN (bV (cF (c1 ?b ?ga) eh))) (bV (c2 Cq (cF (c1 ?b c0) aM) ?aG))) ?eu fN) (ab (bC (bO (bN (bV (cF (c1 (c2 aU ?b ?ab) ?mf) eh))) (bN (bV (cF (c1 (c2 aU ?b ?ac) c0) (oz))))) ?eu fN) (ai (cO (c2 ?G (FY ?b (oS ?aG) oN) (cF c0 fu)) (c2 ?G (FY ?b (oS ?aG) oN) (cF (c1 (cK (.str ?lI)) c0) fu)))))) [?s]):=rfl
theorem ze a0:iz [a0]=outF ((ab (bC (bO (bN (bV (cF (c1 ?b ?ga) eh))) (bO (bV (c2 Cq (cF (c1 ?b c0) aM) ?ac)) (bV (c2 E6 (cF (c1 ?b c0) aM) (cK (.int 6)))))) ?eu fN) (ai (cF (c1 (dM 2 [1] (iA ?b) ?iO bT (cF ?v (ko))) c0) lS))) [?s,.no]):=rfl
theorem Ka a0:oA [a0]=outF ((ai (cO (c2 ?G ?b ?ig) (cN (cF (c1 ?b ?ga) eh)))) [?s]):=rfl
theorem NP a0:rh [a0]=outF ((ai (cA (cF (c1 ?b ?ga) eh) (cF (c1 (dM 2 [1] (iA ?b) ?iO bT (cF ?v (oA))) c0) lS))) [?s,.no]):=rfl
theorem Gu a0:g9 [a0]=outF ((ai (cA (c2 Y_ (cF (c1 ?b c0) aM) (cK (.int 40))) (cF (c1 (dM 2 [1] (iA ?b) ?iO bT (cF ?v (rh))) c0) lS))) [?s,.no]):=rfl
theorem Gv a0:l4 [a0]=outF ((ab (bC (bO (bN (bV (cF (c1 ?b ?ga) eh))) (bV (c2 Cq (cF (c1 ?b c0) aM) ?ci))) ?eu fN) (ab (bC (bO (bV (c2 ?cn (c2 aU ?b ?ab) (cK (.str ?m)))) (bN (bV (cF (c1 (c2 aU ?b ?ac) ?mf) eh)))) ?eu fN) (ai (cA (cF (c1 (c2 aU ?b ?aG) c0) (iz)) (cF (c1 (FY ?b (oS ?ci) oN) c0) (g9)))))) [?s]):=rfl
theorem BI a0:bX [a0]=outF ((ai (c2 ?G (cF (c1 ?b c0) lsF) (cF (c1 ?b c0) aM))) [?s]):=rfl
theorem zf a0:aE [a0]=outF ((ai (c2 ?G (c2 aU (cU (fl ?oa) ?b) ?ab) (cK (.str "up")))) [?s]):=rfl
theorem Gw a0:bS [a0]=outF ((ai (FY (cU (fl ?oa) ?b) (oS ?ac) oN)) [?s]):=rfl
theorem xH a0:aQ [a0]=outF ((ai (dM 2 [1] (iA (cU (fl ?al) ?b)) ?iO bT (cU (fl ?q) ?x))) [?s,.no]):=rfl
theorem zg a0:iB [a0]=outF ((ab (bC (bN (bV (cF (c1 (dM 2 [1] (iA ?b) ?iO bT (cU (fl ?q) ?x)) c0) (bX)))) ?uO fN) (eU (iA ?b) (b8 1) (bC (bA (bN (bV (cF ?v (aE)))) (bN (bV (cF (c1 (cF ?v (bS)) c0) (bX))))) ?uO fN))) [?s,.no]):=rfl
theorem VZ a0 a1:tf ?aB=outF ((ab (bC (bV (c2 ?G ?b ?ig)) (ai (cU (fl ?lI) ?x)) fN) (ab (bC (bV (cF ?v (aE))) (ai (cA (cF (c1 ?b ?hS) eh) (c2 Cq ?b (c2 aU (cU (fl ?oa) ?x) ?ac)))) fN) (ai (c2 ?dw ?b (cF ?v (bS)))))) [?s,?S]):=rfl
theorem zh a0 a1:dY ?aB=outF ((eU (iA ?b) ?lR (ab (bC (bV (c2 ?cn (cF (c1 ?h c0) aM) (cF ?v aM))) ?uP fN) (bC (bN (bV (cF (c1 (dM 5 [3,4] (iZ (c1 ?h ?v)) ?Bm bT (cF (c1 ?l (c1 ?L c0)) (tf))) c0) lS))) ?uP fN))) [?s,?S,.no,.no,.no]):=rfl
theorem BJ a0:dG [a0]=outF ((ab (bC (bN (bV (cF (c1 ?b c0) (l4)))) (fX (-2)) fN) (ab (aD 1 (dM 4 [3] (iA (c2 aU ?b ?aG)) ?fp bT (cF (c1 (c2 aU ?l ?ab) (c1 (c2 aU ?l ?ac) (c1 (c2 ?G (cF (c1 ?l c0) aM) ?ci) c0))) (U0 aC S5)))) (ab (eM (cF ?v (iB))) (ab (aD 2 (cF (c1 (FY ?b (oS ?ci) oN) c0) Ia)) (ab (eM (cF (c1 ?h ?v) (dY))) (ai (cF (c1 (c2 aU ?b ?ac) (c1 ?x (c1 ?h c0))) (U0 aT QY)))))))) [?s,.no,.no,.no]):=rfl
theorem D8 a0 a1:b9 ?aB=outF ((ab (bC (bN (bV (cF (c1 ?b c0) (g9)))) (fX (-2)) fN) (ab (eM (cF (c1 ?b ?v) (dY))) (ai (cF (c1 ?b c0) Ia)))) [?s,?S]):=rfl
theorem xI a0 a1:aZ ?aB=outF ((ab (eU (iA ?x) ?lR (bC (bV (c2 ?G (cU (fl ?q) ?h) ?b)) (ai ?h) fN)) (fX (-13))) [?s,?S,.no]):=rfl
theorem D9 a0 a1:aF ?aB=outF ((ab (aD 2 (cF ?v (aQ))) (ab (bC (bN (bV (cF (c1 (dM 4 [3] (iA ?b) ?fp bT (c2 ?dw ?l ?h)) c0) lS))) (fX (-13)) fN) (ai (cF (c1 (dM 4 [3] (iA ?b) ?fp bT (cM ?aC Bg ?h (c1 ?l c0))) c0) sR)))) [?s,?S,.no,.no]):=rfl
theorem NQ a0 a1:cR ?aB=outF ((ai (cF (c1 (dM 3 [2] (iA ?x) ?hK bT (c2 aU ?b ?h)) c0) sR)) [?s,?S,.no]):=rfl
def gP(F:?e->?k):?e->?k:=dF 60 (cf [(?sN,F)]) [?aV,?dB,?N] [?aV,?dB] [] (top 45)
theorem pY F a0 a1:gP F ?aB=outF ((ai (cF (c1 (dM 3 [2] (iA ?b) ?hK bT (cF (c1 ?h ?v) F)) c0) lS)) [?s,?S,.no]):=rfl
theorem vA F a0 a1:je F ?aB=outF ((ab (bC (bV (cF (c1 ?b ?hS) eh)) (ai (cK ?lm)) fN) (ab (bC (bO (bN (bV (cF (c1 ?b ?ga) eh))) (bV (c2 Cq (cF (c1 ?b c0) aM) ?aG))) ?eu fN) (ab (bC (bO (bV (c2 ?G (c2 aU ?b ?ab) ?Gp)) (bV (c2 ?dw (c2 aU ?b ?ab) ?x))) (ai (cA (c2 ?G (cF (c1 ?b c0) aM) ?aG) (cF (c1 (c2 aU ?b ?ac) ?mf) eh))) fN) (ai (cA (c2 ?dw (c2 aU ?b ?ab) (cF (c1 (cK (.str "add")) (c1 (cK (.str "sub")) c0)) fu)) (cA (c2 ?G (cF (c1 ?b c0) aM) ?ci) (cF (c1 (FY ?b (oS ?ac) oN) ?v) (gP F)))))))) [?s,?S]):=rfl
theorem xJ F a0 a1:jM F ?aB=outF ((ab (bC (bO (bN (bV (cF (c1 ?b ?ga) eh))) (bV (c2 ?G (cF (c1 ?b c0) aM) ?ab))) ?eu fN) (ab (aD 2 (FY ?b (oS ?ac) oN)) (ab (bC (bV (c2 ?dw (c2 aU ?b ?ab) (cF (c1 ?Yk (c1 ?Gq c0)) fu))) (ai (cA (c2 ?G (cF (c1 ?h c0) aM) ?aG) (cF (c1 ?h ?v) (ez)))) fN) (ab (bC (bV (c2 ?G (c2 aU ?b ?ab) (cK (.str "gone")))) (ai (cA (c2 ?G (cF (c1 ?h c0) aM) ?ac) (cF (c1 ?h ?v) (ez)))) fN) (ab (bC (bA (bV (c2 ?G (c2 aU ?b ?ab) ?xN)) (bV (c2 ?cn (cF (c1 ?h c0) aM) ?ac))) ?eu fN) (ai (cA (c2 ?dw (c2 aU ?b ?ab) (cF (c1 ?GM (c1 ?sF (c1 ?xN c0))) fu)) (cF (c1 (dM 4 [3] (iA ?h) ?fp bT (cF (c1 ?l ?v) F)) c0) lS)))))))) [?s,?S,.no,.no]):=rfl
theorem fM F a0:cz F [a0]=outF ((ab (bC (bN (bV (cF (c1 ?b ?ga) eh))) (ai ?hp) fN) (ab (bC (bV (c2 ?dw (c2 aU ?b ?ab) (cK (.tup [?JR,(?mU),(?mV)])))) (ai (cF (c1 (c2 aU ?b ?ac) c0) nh)) fN) (ab ?nl (ab (eU (iA (FY ?b (oS ?ac) oN)) ?lR (sY 1 (cF (c1 ?h c0) F))) (ai ?x))))) [?s,.no,.no]):=rfl
theorem Gx a0 a1 a2:l5 ?ey=outF ((ab (bC (bO (bN (bV (cF (c1 ?x ?hS) eh))) (bN (bV (cF (c1 ?h ?hS) eh)))) (ai ?qV) fN) (ab (bC (bV (c2 ?G ?b (cK (.str "add")))) (ai (c2 fw ?x ?h)) fN) (ab (bC (bV (c2 Cq ?x ?h)) (ai ?qV) fN) (ai (c2 P9 ?x ?h))))) [?s,?S,?dm]):=rfl
theorem jV F a0 a1:pV F ?aB=outF ((ab (bC (bV (cF (c1 ?b ?hS) eh)) (ai ?b) fN) (ab (aD 2 (c2 aU ?b ?ab)) (ab (bC (bV (c2 ?G ?h ?Gp)) (ai (c2 aU ?b ?ac)) fN) (ab (bC (bV (c2 ?dw ?h (cK (.tup [?JR,(?mU),(?mV)])))) (ab (aD 3 (c2 aU (c2 aU ?x ?h) (c2 aU ?b ?ac))) (ai (cI (bV (c2 ?G ?l ?ig)) ?qV ?l))) fN) (ai (cF (c1 ?h (c1 (cF (c1 (c2 aU ?b ?ac) ?v) F) (c1 (cF (c1 (c2 aU ?b ?aG) ?v) F) c0))) (l5))))))) [?s,?S,.no,.no]):=rfl
theorem xK a0 a1 a2:jO ?ey=outF ((ab (bC (bV (c2 ?G ?b ?Yk)) (ai (cA (cF (c1 ?x ?hS) eh) (cA (cF (c1 ?h ?hS) eh) (c2 Cq ?x ?h)))) fN) (ai (cA (cU ?BH ?x) (c2 ?G ?x ?h)))) [?s,?S,?dm]):=rfl
theorem Rl F a0 a1:By F ?aB=outF ((ab (aD 2 (c2 aU ?b ?ab)) (ab (aD 3 (FY ?b (oS ?ac) oN)) (ab (bC (bV (c2 ?G ?h ?GM)) (ai (cF (c1 (dM 5 [4] (iA ?l) ?oc bT (cF (c1 ?L ?v) F)) c0) lS)) fN) (ab (bC (bV (c2 ?G ?h ?sF)) (ai (cF (c1 (dM 5 [4] (iA ?l) ?oc bT (cF (c1 ?L ?v) F)) c0) anyF)) fN) (ab (bC (bV (c2 ?G ?h ?xN)) (ai (cN (cF (c1 (c2 aU ?l ?ab) ?v) F))) fN) (ab (bC (bV (c2 ?G ?h (cK (.str "gone")))) (ai (cU (vi false) (cF (c1 (c2 aU ?l ?ab) ?v) (jN)))) fN) (ai (cF (c1 ?h (c1 (cF (c1 (c2 aU ?l ?ab) ?v) (jN)) (c1 (cF (c1 (c2 aU ?l ?ac) ?v) (jN)) c0))) (jO))))))))) [?s,?S,.no,.no,.no]):=rfl
theorem D_ a0:ku [a0]=outF ((ab (bC (bO (bV (c2 ?cn (cF (c1 ?b c0) aM) ?JE)) (bN (bV (cF (c1 (c2 aU ?b ?ci) ?mf) eh)))) ?eu fN) (ab (bC (bO (bN (bV (cF (c1 (c2 aU ?b ?aG) c0) (cZ)))) (bN (bV (cF (c1 (c2 aU ?b ?mC) c0) (cZ))))) ?eu fN) (ai (cA (c2 WT (cF (c1 (c2 aU ?b ?aG) c0) aM) ?ac) (c2 ?G (cF (c1 (c2 aU ?b ?aG) c0) aM) (cF (c1 (c2 aU ?b ?mC) c0) aM)))))) [?s]):=rfl
theorem BK a0:jr [a0]=outF ((ab (bC (bV (c2 ?G ?b (cF (c1 (cK (.str ?jW)) c0) fu))) (ai (cK ?lm)) fN) (ai (cA (cF (c1 ?b ?ga) eh) (cA (c2 ?G (cF (c1 ?b c0) aM) ?aG) (cA (c2 ?G (c2 aU ?b ?ab) (cK (.str "sum"))) (cF (c1 (c2 aU ?b ?ac) ?mf) eh)))))) [?s]):=rfl
theorem Ea a0:kx [a0]=outF ((ab (bC (bO (bV (c2 ?cn (cF (c1 ?b c0) aM) (cK (.int 6)))) (bO (bN (bV (cF (c1 (c2 aU ?b ?aG) c0) (cZ)))) (bN (bV (cF (c1 (c2 aU ?b ?ci) c0) (jr)))))) ?eu fN) (ai (cA (cF (c1 (c2 aU ?b ?mC) ?hS) eh) (cF (c1 (c2 aU ?b ?JE) ?hS) eh)))) [?s]):=rfl
theorem Gy a0:l8 [a0]=outF ((ab (bC (bO (bN (bV (cF (c1 ?b ?ga) eh))) (bO (bV (c2 Cq (cF (c1 ?b c0) aM) ?ci)) (bN (bV (cF (c1 (c2 aU ?b ?ac) ?mf) eh))))) ?eu fN) (ab (aD 1 (c2 aU ?b ?ab)) (ab (bC (bV (c2 ?dw ?x (cF (c1 ?kJ (c1 ?GN c0)) fu))) (ai (cA (c2 ?G (cF (c1 ?b c0) aM) ?ci) (cF (c1 (c2 aU ?b ?aG) (c1 (cK (.tup [?JR])) c0)) (eN)))) fN) (ab (bC (bV (c2 ?dw ?x (cF ?NL fu))) (ai (cA (c2 ?G (cF (c1 ?b c0) aM) ?ci) (cF (c1 (c2 aU ?b ?aG) (c1 (cK (.tup [(?mU),(?mV)])) c0)) (eN)))) fN) (ab (bC (bV (c2 ?G ?x ?sB)) (ai (cA (c2 ?G (cF (c1 ?b c0) aM) ?ci) (cF (c1 (c2 aU ?b ?aG) c0) (cZ)))) fN) (ab (bC (bV (c2 ?G ?x ?oN)) (ai (cA (c2 ?G (cF (c1 ?b c0) aM) ?mC) (cA (cF (c1 (c2 aU ?b ?aG) c0) (cZ)) (cF (c1 (c2 aU ?b ?ci) c0) (cZ))))) fN) (ab (bC (bV (c2 ?G ?x ?wY)) (ai (cF (c1 ?b c0) (ku))) fN) (ai (cA (c2 ?G ?x (cK (.str ?ly))) (cF (c1 ?b c0) (kx))))))))))) [?s,.no]):=rfl
theorem vB a0 a1:fA ?aB=outF ((bC (bV (c2 ?G (c2 aU ?b ?ab) (cK (.str "sum")))) (ab (aD 2 (c2 aU (cF (c1 (FY ?b (oS ?ac) oN) ?v) (aF)) ?ab)) (bC (bN (bV (cF (c1 (c2 aU (cU (fl ?al) ?x) ?h) c0) (aE)))) (fX (-13)) fN)) fN) [?s,?S,.no]):=rfl
theorem zi a0 a1:iD ?aB=outF ((ab (aD 2 (cF (c1 (c2 aU ?b ?ac) ?v) (aZ))) (ab (aD 3 (c2 aU ?b ?ab)) (ab (bC (bV (c2 ?dw ?l (cF (c1 ?kJ (c1 ?GN ?NL)) fu))) (ab (eM (cF (c1 (cF (c1 (c2 aU ?b ?aG) c0) (dU)) (c1 ?h c0)) (aF))) (?Gm)) fN) (ab (eM (cF (c1 (c2 aU ?b ?aG) (c1 ?h c0)) (aF))) (ab (bC (bV (c2 ?G ?l ?oN)) (eM (cF (c1 (c2 aU ?b ?ci) (c1 ?h c0)) (aF))) fN) (ab (bC (bV (c2 ?G ?l ?wY)) (eM (cF (c1 (c2 aU ?b ?mC) (c1 (cF (c1 (c2 aU ?b ?ci) ?v) (aZ)) c0)) (aF))) fN) (bC (bV (c2 ?G ?l (cK (.str ?ly)))) (eM (cF (c1 (c2 aU ?b ?ci) (c1 ?h c0)) (fA))) fN))))))) [?s,?S,.no,.no]):=rfl
theorem zj a0 a1:iF ?aB=outF ((ab (bC (bN (bV (cF (c1 ?b c0) (l8)))) (fX (-2)) fN) (eM (cF (c1 ?b ?v) (iD)))) [?s,?S]):=rfl
theorem vC a0:cB [a0]=outF ((ab (aD 1 (cF (c1 ?b c0) (aQ))) (ai (dM 3 [2] (iA (cU (fl ?R) ?b)) ?hK bT (cF (c1 ?x (c1 ?h c0)) dzF)))) [?s,.no,.no]):=rfl
theorem xM a0 a1:dq ?aB=outF ((ab (aD 2 (cF ?v (cB))) (ai (dM 5 [3,4] (iE (c1 ?h c0)) ?Bm (bN (bV (cF (c1 ?b (c1 (cF (c1 ?L c0) (Aa ["col"])) c0)) (oG)))) (cF (c1 ?l c0) fu)))) [?s,?S,.no,.no,.no]):=rfl
theorem Gz a0:hJ [a0]=outF ((ab ?nl (ab (eU (WW (c1 ?b c0)) ?lR (sY 1 (dM 4 [3] (iR2 (c1 (c2 fw ?h ?ac) (c1 ?b c0))) ?fp bT (cF (c1 ?h (c1 ?l c0)) fu)))) (ai ?x))) [?s,.no,.no,.no]):=rfl
theorem BL a0:js [a0]=outF ((ai (dM 2 [1] (WW (c1 (c2 P9 ?b ?ac) c0)) ?iO bT (cF (c1 ?x (c1 (c2 fw ?x ?ac) c0)) fu))) [?s,.no]):=rfl
theorem xO a0 a1 a2:eO ?ey=outF ((ab (aD 3 (cF ?v (cB))) (ai (dM 5 [4] (iA ?h) ?oc (bN (bV (cF (c1 ?b (c1 (cF (c1 (c2 aU ?l (c2 aU ?L ?ab)) (c1 (c2 aU ?l (c2 aU ?L ?ac)) c0)) (Aa ["one",?gJ])) c0)) (oG)))) ?L))) [?s,?S,?dm,.no,.no]):=rfl
theorem zk a0 a1:bY ?aB=outF ((ab (aD 2 (cF (c1 ?b ?v) (aF))) (ai (dM 4 [3] (iA (cU (fl ?R) ?x)) ?fp bT (cF (c1 ?l (c1 ?h c0)) (cR))))) [?s,?S,.no,.no]):=rfl
theorem BM a0 a1:eY ?aB=outF ((ab (aD 2 (cF (c1 ?x (c1 ?b c0)) (bY))) (ai (dM 4 [3] (iA (cF (c1 (cF (c1 ?h c0) aM) c0) (hJ))) ?fp (bV (c2 ?G (c2 aU ?h (c2 aU ?l ?ab)) (c2 aU ?h (c2 aU ?l ?ac)))) ?l))) [?s,?S,.no,.no]):=rfl
theorem tJ a0 a1 a2:eZ ?ey=outF ((ab (aD 3 (cF (c1 ?h (c1 ?b c0)) (bY))) (ai (dM 5 [4] (iA (cF (c1 ?b ?v) (eY))) ?oc (bV (c2 ?cn (c2 aU ?l (c2 aU ?L ?ab)) (c2 aU ?l (c2 aU ?L ?ac)))) ?L))) [?s,?S,?dm,.no,.no]):=rfl
theorem tK a0 a1 a2 a3:e_ ?zz=outF ((ab (aD 4 (cF (c1 ?l (c1 ?h c0)) (bY))) (ab (aD 5 (cF (c1 ?x (c1 ?b c0)) (bY))) (ai (dM 8 [6,7] (iE (c1 ?aJ c0)) (A_ [6,7]) (bA (bV (c2 ?fG ?ig ?fL)) (bV (c2 ?fG ?fL ?L))) (cF (c1 ?bo c0) fu))))) [?s,?S,?dm,.sh a3,.no,.no,.no,.no]):=rfl
theorem GA a0 a1 a2:l9 ?ey=outF ((ab (bC (bV (c2 ?G (c2 aU ?b ?ab) (cK (.str ?jW)))) (ai (cF (c1 ?h c0) aM)) fN) (ab (aD 3 (c2 aU (cF (c1 (FY ?b (oS ?ac) oN) ?v) (aF)) ?ab)) (ab (aD 4 (dM 7 [5] (iA ?h) (bu 5) bT (c2 aU (c2 aU (cU (fl ?R) ?x) ?aJ) ?l))) (ai (cF (c1 (dM 7 [6] (iA ?L) ?lS (bV (c2 ?cn ?bo ?ig)) ?bo) c0) sumF))))) [?s,?S,?dm,.no,.no,.no,.no]):=rfl
theorem tL a0 a1:fb ?aB=outF ((ab (aD 2 (cF (c1 (cU (fl ?R) ?x) (c1 (cF (c1 (c2 aU ?b ?aG) ?v) (aF)) c0)) (bD))) (ab (oZ 3 c0) (ab (eU (iG ?h) (b8 4) (ab (aD 5 (cF (c1 (c2 aU ?b ?ci) (c1 ?x (c1 ?L c0))) (l9))) (bC (bO (bV (c2 Cq ?aJ (c2 aU ?b ?mC))) (bV (c2 E6 ?aJ (c2 aU ?b ?JE)))) (lT 3 (cF (c1 ?L c0) sR)) fN))) (ai ?l)))) [?s,?S,.no,.no,.no,.no]):=rfl
theorem xP a0 a1:gD ?aB=outF ((ab (bC (bV (c2 Cq (cF (c1 (cF (c1 ?b ?v) (dq)) c0) aM) (cF (c1 (cU (fl ?R) ?x) c0) aM))) (ai ?hp) fN) (ai (cF (c1 (cF c0 fu) c0) nh))) [?s,?S]):=rfl
theorem GC a0 a1:fS ?aB=outF ((ab (aD 2 (cF (c1 (c2 aU ?b ?ac) ?v) (aZ))) (ab (aD 3 (c2 aU ?b ?ab)) (ab (bC (bV (c2 ?G ?l ?kJ)) (ai (cF (c1 (c2 aU ?b ?aG) (c1 ?h c0)) (dq))) fN) (ab (bC (bV (c2 ?G ?l ?GN)) (ai (cF (c1 (c2 aU ?b ?aG) (c1 ?h c0)) (gD))) fN) (ab (bC (bV (c2 ?G ?l (cK (.str "pairs")))) (ai (cF (c1 (c2 aU ?b ?aG) (c1 ?h (c1 (cF (c1 (cF (c1 (cU (fl ?R) ?h) c0) aM) c0) (hJ)) c0))) (eO))) fN) (ab (bC (bV (c2 ?G ?l ?Xq)) (ai (cF (c1 (c2 aU ?b ?aG) (c1 ?h (c1 (cF (c1 (cF (c1 (cU (fl ?R) ?h) c0) aM) c0) (js)) c0))) (eO))) fN) (ab (bC (bV (c2 ?G ?l ?sB)) (ai (cF (c1 ?h (c1 (c2 aU ?b ?aG) c0)) (eY))) fN) (ab (bC (bV (c2 ?G ?l ?oN)) (ai (cF (c1 ?h (c1 (c2 aU ?b ?aG) (c1 (c2 aU ?b ?ci) c0))) (eZ))) fN) (ab (bC (bV (c2 ?G ?l ?wY)) (ai (cF (c1 ?h (c1 (c2 aU ?b ?aG) (c1 (cF (c1 (c2 aU ?b ?ci) ?v) (aZ)) (c1 (c2 aU ?b ?mC) c0)))) (e_))) fN) (ai (cF (c1 ?b (c1 ?h c0)) (fb)))))))))))) [?s,?S,.no,.no]):=rfl
theorem Eb a0 a1:bM ?aB=outF ((ai (cF (c1 (dM 3 [2] (iA ?b) ?hK bT (c2 ?dw ?h ?x)) c0) lS)) [?s,?S,.no]):=rfl
theorem tM a0 a1:bc ?aB=outF ((ai (cF (c1 (dM 3 [2] (iA ?b) ?hK bT (cF (c1 ?h ?v) (bM))) c0) anyF)) [?s,?S,.no]):=rfl
theorem NR a0 a1:jQ ?aB=outF ((ai (c2 ?G (cF (c1 (cF (c1 ?x (c1 ?b c0)) (bD)) c0) aM) (cF ?v aM))) [?s,?S]):=rfl
theorem xQ a0 a1 a2:cu ?ey=outF ((ai (c2 ?G (cF (c1 (cF (c1 ?h (c1 ?b c0)) (bD)) c0) aM) (cF (c1 (cF (c1 ?h (c1 (c2 fw ?b (cF ?v fu)) c0)) (bD)) c0) aM))) [?s,?S,?dm]):=rfl
theorem BN a0:fc [a0]=outF ((ab ?nl (ab (eU (iA (cF (c1 (cF (c1 (cF (c1 (cU (fl ?al) ?b) c0) aM) c0) lrF) (c1 ?ci c0)) (dZ))) ?lR (bC (bA (bN (bV (cF (c1 ?x (c1 ?h c0)) (bc)))) (bV (cF (c1 ?h (c1 (cU (fl ?R) ?b) c0)) (jQ)))) (lT 1 ?h) fN)) (ai ?x))) [?s,.no,.no]):=rfl
theorem pZ a0 a1:dH ?aB=outF ((ab (aD 2 (dM 6 [5] (WW (c1 (cF (c1 (cU (fl ?al) ?b) c0) aM) c0)) (bu 5) (bV (c2 ?cn ?aJ ?x)) ?aJ)) (ab (oZ 3 c0) (ab (eU (iA (cF (c1 ?h (c1 ?aG c0)) (dZ))) (b8 4) (bC (bA (bN (bV (cF (c1 ?l (c1 ?L c0)) (bc)))) (bV (cF (c1 ?L (c1 ?x (c1 (cU (fl ?R) ?b) c0))) (cu)))) (lT 3 ?L) fN)) (ai ?l)))) [?s,?S,.no,.no,.no,.no]):=rfl
theorem tN a0:bp [a0]=outF ((ai (dM 2 [1] (iA ?b) ?iO (bV (c2 ?dw (c2 aU ?x ?ab) (cF (c1 ?sB (c1 ?oN c0)) fu))) ?x)) [?s,.no]):=rfl
theorem GG a0 a1 a2:md ?ey=outF ((ab (M7 3 (c1 ?b c0)) (ab (aD 4 (cU aah ?ac)) (ab (jJ (bV (c2 Cq ?L (cF (c1 ?l c0) aM))) (ab (DH 4 (cF (c1 ?l c0) aM)) (eU (iA ?x) (b8 5) (bC (bV (cF (c1 (c2 aU ?aJ ?aG) (c1 ?l c0)) (bM))) (DI 3 (dM 7 [6] (iA (cF (c1 ?aJ (c1 ?h c0)) (cE))) ?lS (bV (c2 ?fG ?bo ?l)) ?bo)) fN))) 100) (ai ?l)))) [?s,?S,?dm,.no,.no,.no,.no]):=rfl
theorem Kb a0 a1 a2:gq ?ey=outF ((ab (aD 3 (cF (c1 (c2 aU ?b ?aG) (c1 ?x (c1 ?h c0))) (md))) (ab (bC (bV (c2 ?G (c2 aU ?b ?ab) ?oN)) (ai (cF (c1 (c2 aU ?b ?ci) (c1 ?l c0)) (bM))) fN) (ai (cF (c1 (dM 5 [4] (iA ?x) ?oc bT (cA (c2 ?G (c2 aU ?L ?ab) ?sB) (cF (c1 (c2 aU ?L ?aG) (c1 ?l c0)) (bM)))) c0) anyF)))) [?s,?S,?dm,.no,.no]):=rfl
theorem BO a0 a1:cS ?aB=outF ((ai (dM 3 [2] (iA ?x) ?hK (bV (c2 ?cn ?h ?b)) ?h)) [?s,?S,.no]):=rfl
theorem Rm a0 a1:rB ?aB=outF ((ab (aD 2 (cF (c1 ?b c0) Ia)) (ab (eU (iV (c1 ?b c0)) ?rE (ab (aD 4 (cF (c1 ?l (c1 ?h c0)) (cS))) (bC (bV (cF (c1 ?l (c1 ?L ?v)) (gq))) (aD 2 ?L) fN))) (ai ?h))) [?s,?S,.no,.no,.no]):=rfl
theorem GH a0 a1:c_ ?aB=outF ((ai (dM 3 [2] (iA (cU (fl ?R) ?b)) ?hK bT (c2 aU ?h ?x))) [?s,?S,.no]):=rfl
theorem BP a0 a1:bJ ?aB=outF ((ai (dM 3 [2] (iA (cF (c1 ?b ?v) (c_))) ?hK (bV (c2 ?cn ?h ?ig)) ?h)) [?s,?S,.no]):=rfl
theorem vD a0:bP [a0]=outF ((ai (dM 3 [1,2] (iE (c1 (cU (fl ?al) ?b) c0)) (A_ [1,2]) (bV (cF (c1 ?h c0) (aE))) ?x)) [?s,.no,.no]):=rfl
theorem vE a0:fD [a0]=outF ((ab ?nl (ab (eU (iE (c1 (cU (fl ?al) ?b) c0)) (z8 [2,3]) (bC (bA (bV (cU (fl ?lI) ?l)) (bA (bV (c2 ?cn (cU (fl ?R) ?b) ?hp)) (bV (c2 ?fG ?ig (cF (c1 ?b (c1 ?h c0)) (c_)))))) (lT 1 (cF (c1 (cF (c1 ?kJ (c1 (cU (fl ?q) ?b) (c1 (cF (c1 ?xN (c1 (cF (c1 ?mp (c1 (cU (fl ?q) ?l) c0)) (jR)) c0)) fu) c0))) fu) (c1 (cF (c1 (cU (fl ?R) ?b) c0) aM) c0)) fu)) fN)) (ai ?x))) [?s,.no,.no,.no]):=rfl
theorem xS a0:gF [a0]=outF ((ab ?nl (ab (eU (iA (cF (c1 ?b c0) (bP))) ?lR (ab (aD 3 (cF (c1 ?b (c1 ?h c0)) (bJ))) (bC (bV (c2 ?cn ?l ?hp)) (ab (aD 4 (cU (fl ?q) (c2 aU (cU (fl ?al) ?b) ?h))) (ab (aD 5 (cF (c1 ?mp (c1 ?L c0)) fu)) (ab (aD 6 (cF (c1 ?GM (c1 (cF (c1 ?aJ (c1 (cF (c1 ?l c0) JI) c0)) (fU)) (c1 (cF (c1 (cF (c1 ?l c0) JH) (c1 ?aJ c0)) (fU)) c0))) fu)) (lT 1 (cF (c1 (cF (c1 ?kJ (c1 (cU (fl ?q) ?b) (c1 (cF (c1 ?sF (c1 (cF (c1 ?mp (c1 ?L c0)) (jR)) (c1 ?bo c0))) fu) c0))) fu) (c1 (cF (c1 ?l c0) aM) c0)) fu))))) fN))) (ai ?x))) [?s,.no,.no,.no,.no,.no,.no]):=rfl
theorem zm a0:iI [a0]=outF ((ab ?nl (ab (eU (iE (c1 (cU (fl ?al) ?b) c0)) (z8 [2,3]) (ab (aD 4 (cF (c1 ?b (c1 ?h c0)) (bJ))) (bC (bN (bV (cF (c1 ?l c0) (aE)))) (ab (aD 5 (dM 9 [8] (iA (cF (c1 ?l c0) (bS))) (bu 8) (bV (c2 ?dw ?nz ?L)) ?nz)) (bC (bA (bV (c2 ?cn ?aJ ?hp)) (bV (c2 Cq (cF (c1 ?aJ c0) aM) (cF (c1 (cF (c1 ?l c0) (bS)) c0) aM)))) (ab (aD 6 (dM 9 [8] (iA ?aJ) (bu 8) bT (cF (c1 ?Gq (c1 (cF (c1 ?mp (c1 (cU (fl ?q) ?l) c0)) fu) (c1 (cF (c1 ?Gp (c1 ?nz c0)) fu) c0))) fu))) (ab (aD 7 (c2 fw (cF (c1 ?sF (c1 (cF (c1 ?mp (c1 (cU (fl ?q) ?l) c0)) (jR)) c0)) fu) (cF (c1 ?bo c0) sR))) (lT 1 (cF (c1 (cF (c1 ?kJ (c1 (cU (fl ?q) ?b) (c1 ?fL c0))) fu) (c1 (cF (c1 ?L c0) aM) c0)) fu)))) fN)) fN))) (ai ?x))) [?s,.no,.no,.no,.no,.no,.no,.no,.no]):=rfl
theorem GI a0 a1 a2 a3:jS ?zz=outF ((ab (bC (bV (cF (c1 (dM 5 [4] (iA ?l) ?oc bT (c2 E6 (c2 aU ?L ?ab) (c2 aU ?L ?ac))) c0) anyF)) ?eu fN) (ai (c2 E6 (cF (c1 (cF (c1 ?b ?v) (bJ)) c0) JH) (cF (c1 (cF (c1 ?b (c1 ?h c0)) (bJ)) c0) JI)))) [?s,?S,?dm,.sh a3,.no]):=rfl
theorem GJ a0 a1 a2 a3:jT ?zz=outF ((ab (aD 4 (cU (fl ?q) (c2 aU (cU (fl ?al) ?b) ?x))) (ab (aD 5 (cU (fl ?q) (c2 aU (cU (fl ?al) ?b) ?h))) (ab (bC (bV (cF (c1 (dM 7 [6] (iA ?l) ?lS bT (c2 ?G (c2 aU ?bo ?ab) (c2 aU ?bo ?ac))) c0) lS)) (ai (cF (c1 ?L (c1 ?aJ (c1 (cF (c1 ?Gq (c1 (cF (c1 ?mp (c1 ?L c0)) fu) (c1 (cF (c1 ?mp (c1 ?aJ c0)) fu) c0))) fu) c0))) (iJ))) fN) (ab (bC (bV (cF (c1 ?b (c1 ?x (c1 ?h (c1 ?l c0)))) (jS))) (ai (cF (c1 ?L (c1 ?aJ c0)) (eA))) fN) (ab (bC (bV (cF (c1 ?b (c1 ?h (c1 ?x (c1 (dM 7 [6] (iA ?l) ?lS bT (cF (c1 (c2 aU ?bo ?ac) (c1 (c2 aU ?bo ?ab) c0)) fu)) c0)))) (jS))) (ai (cF (c1 ?aJ (c1 ?L c0)) (eA))) fN) (ai ?qV)))))) [?s,?S,?dm,.sh a3,.no,.no,.no]):=rfl
theorem rM a0:eF [a0]=outF ((ab (aD 1 (cF (c1 ?b c0) (bP))) (ab (oZ 2 c0) (ab (eU (iA ?x) ?rE (eU (iA (dM 11 [8] (iA ?x) (bu 8) (bV (c2 E6 ?nz ?l)) ?nz)) (b8 4) (ab (aD 5 (dM 11 [9] (iA (cU (fl ?R) ?b)) (bu 9) bT (cF (c1 (look 9) (c1 (cF (c1 ?l (c1 ?L c0)) fu) c0)) (cR)))) (ab (aD 6 (dM 11 [10] (iA ?aJ) (bu 10) (bV (c2 ?fG ?ig ?BJ)) ?BJ)) (ab (aD 7 (cI (bV (c2 ?G ?bo ?hp)) ?qV (cF (c1 ?b (c1 ?l (c1 ?L (c1 ?bo c0)))) (jT)))) (bC (bV (cU ?BH ?fL)) (lT 2 (cF (c1 (cF (c1 ?kJ (c1 (cU (fl ?q) ?b) (c1 ?fL c0))) fu) (c1 (cF (c1 ?bo c0) aM) c0)) fu)) fN)))))) (ai ?h)))) [?s,.no,.no,.no,.no,.no,.no,.no,.no,.no,.no]):=rfl
theorem vF a0:fF [a0]=outF ((ab ?nl (ab (eU (iA (cF (c1 ?b c0) (bP))) ?lR (ab (aD 3 (cF (c1 ?b (c1 ?h c0)) (c_))) (ab (aD 4 (dM 8 [7] (iZ (c1 ?l (c1 (FY ?l (oS ?ac) oN) c0))) (bu 7) (bV (c2 ?fG ?ig ?fL)) ?fL)) (bC (bA (bV (c2 ?cn ?L ?hp)) (bV (cF (c1 (dM 8 [7] (iA ?L) (bu 7) bT (c2 Y_ (c2 aU ?fL ?ab) (c2 aU ?fL ?ac))) c0) lS))) (ab (aD 5 (cU (fl ?q) (c2 aU (cU (fl ?al) ?b) ?h))) (ab (aD 6 (cF (c1 (cF (c1 (cK (?mV)) (c1 ?aJ c0)) fu) (c1 (cF (c1 (cK (?mU)) (c1 ?aJ c0)) fu) c0)) (fU))) (lT 1 (cF (c1 (cF (c1 ?Xq (c1 (cU (fl ?q) ?b) (c1 (cF (c1 ?sF (c1 (cF (c1 (cK (?mU)) (c1 ?aJ c0)) (jR)) (c1 (cF (c1 (cK (?mV)) (c1 ?aJ c0)) (jR)) (c1 ?bo c0)))) fu) c0))) fu) (c1 (cF (c1 ?L c0) aM) c0)) fu)))) fN)))) (ai ?x))) [?s,.no,.no,.no,.no,.no,.no,.no]):=rfl
theorem GK a0 a1:hX ?aB=outF ((ai (cF (c1 (cF (c1 ?b c0) (aQ)) ?v) (cR))) [?s,?S]):=rfl
theorem BQ a0 a1:jt ?aB=outF ((ai (dM 3 [2] (iA ?x) ?hK bT (cF (c1 (cF (c1 ?sB (c1 (cU (fl ?q) ?b) (c1 (cF (c1 ?b (c1 ?h c0)) (hX)) c0))) fu) (c1 (cF (c1 (cU (fl ?R) ?b) c0) aM) c0)) fu))) [?s,?S,.no]):=rfl
theorem tO a0 a1:ff ?aB=outF ((ab (aD 2 (cF (c1 (cU (fl ?R) ?b) ?v) (bD))) (ai (cF (c1 (dM 4 [3] (iG ?h) ?fp (bV (c2 E6 (cF (c1 ?l c0) aM) ?ac)) (cF (c1 ?l c0) aM)) c0) sumF))) [?s,?S,.no,.no]):=rfl
theorem xT a0 a1:gH ?aB=outF ((ab (oZ 2 c0) (ab (eU (iE (c1 (cU (fl ?al) ?b) c0)) (z8 [3,4]) (eU (iA (cF (c1 ?b (c1 ?l c0)) (dH))) (b8 5) (bC (bN (bV (cF (c1 ?x (c1 ?aJ c0)) (bc)))) (ab (aD 6 (cF (c1 ?oN (c1 (cU (fl ?q) ?b) (c1 (cF (c1 ?b (c1 ?aJ c0)) (hX)) (c1 (cF (c1 (cU (fl ?q) ?L) c0) fu) c0)))) fu)) (lT 2 (cF (c1 ?bo (c1 (cF (c1 ?b (c1 ?aJ c0)) (ff)) c0)) fu))) fN))) (ai ?h))) [?s,?S,.no,.no,.no,.no,.no]):=rfl
theorem zo a0 a1 a2 a3:iK ?zz=outF ((ab (bC (bO (bV (c2 ?cn (cF ?v (aE)) (cF (c1 (c2 aU (cU (fl ?al) ?h) ?l) c0) (aE)))) (bN (bV (cF (c1 (cF (c1 ?l c0) fu) (c1 (cU (fl ?R) ?h) c0)) (jQ))))) ?eu fN) (ab (aD 4 (cF (c1 ?h (c1 ?l c0)) (c_))) (ai (cF (c1 (dM 6 [5] (iA ?b) (bu 5) bT (c2 ?dw ?aJ ?L)) c0) lS)))) [?s,?S,?dm,.sh a3,.no,.no]):=rfl
theorem zp a0 a1 a2:iL ?ey=outF ((ab (aD 3 (c2 aU (cU (fl ?al) ?b) ?x)) (ab (aD 4 (cF (c1 ?b ?v) (bJ))) (ab (oZ 5 c0) (ab (eU (iE (c1 (cU (fl ?al) ?h) c0)) (z8 [6,7]) (bC (bA (bV (c2 ?cn ?L ?hp)) (bV (cF (c1 ?L (c1 ?l (c1 ?h (c1 ?bo c0)))) (iK)))) (ab (aD 8 (cF (c1 ?wY (c1 (cU (fl ?q) ?b) (c1 (cF (c1 (cU (fl ?q) ?l) c0) fu) (c1 (cU (fl ?q) ?h) (c1 (cF (c1 (cU (fl ?q) ?fL) c0) fu) c0))))) fu)) (lT 5 (cF (c1 ?nz (c1 (cF (c1 ?L c0) aM) c0)) fu))) fN)) (ai ?aJ))))) [?s,?S,?dm,.no,.no,.no,.no,.no,.no]):=rfl
theorem vG a0 a1:fJ ?aB=outF ((ab (oZ 2 c0) (ab (eU (WW (c1 (cF (c1 (cU (fl ?al) ?b) c0) aM) c0)) ?rE (eU (iA ?x) (b8 4) (bC (bV (c2 ?cn (cU (fl ?q) ?L) (cU (fl ?q) ?b))) (sY 2 (cF (c1 ?b (c1 ?l (c1 ?L c0))) (iL))) fN))) (ai ?h))) [?s,?S,.no,.no,.no]):=rfl
theorem xU a0 a1:dr ?aB=outF ((ab (aD 2 (cF (c1 ?b c0) (fc))) (ab (aD 3 (c2 fw (c2 fw (cF (c1 ?b c0) (fD)) (cF (c1 ?b c0) (gF))) (cF (c1 ?b c0) (iI)))) (ab (aD 3 (c2 fw (c2 fw ?l (cF (c1 ?b c0) (eF))) (cF (c1 ?b c0) (fF)))) (ab (aD 3 (c2 fw (c2 fw ?l (cF (c1 ?b (c1 ?h c0)) (jt))) (cF (c1 ?b (c1 ?h c0)) (gH)))) (ai (c2 fw ?l (cF (c1 ?b ?v) (fJ)))))))) [?s,?S,.no,.no]):=rfl
theorem zq a0:iM [a0]=outF ((ab (bC (bV (c2 E6 (cF (c1 ?b c0) aM) (cK (.int 7)))) ?nm fN) (ab (bC (bA (bV (cM ?bZ Bh ?b (c1 (cK (.str "0")) c0))) (bV (c2 ?cn ?b (cK (.str "0"))))) ?nm fN) (ab (aD 1 (cF (c1 ?b c0) U2)) (ab (bC (bV (c2 E6 ?x (cK (.int 1000000)))) ?nm fN) (ai ?x))))) [?s,.no]):=rfl
theorem Ec a0:kA [a0]=outF ((ab (bC (bO (bV (c2 E6 (cF (c1 ?b c0) aM) (cK (.int 20)))) (bO (bV (c2 ?fG (c2 aU ?b ?ab) (cK (.str ?CV)))) (bV (c2 ?dw (cK (?Ct)) ?b)))) ?nm fN) (ai ?b)) [?s]):=rfl
theorem Ed a0:kB [a0]=outF ((ab (bC (bV (cM ?bZ F5 ?b c0)) (ai (cF (c1 ?b c0) (iM))) fN) (ai (cF (c1 ?b c0) (kA)))) [?s]):=rfl
theorem vH a0:bh [a0]=outF ((ab (aD 1 (cF (c1 ?b c0) (aH))) (ab (bC (bV (c2 ?cn (cF ?v aM) ?ac)) ?nm fN) (ai (c2 aU ?x ?ab)))) [?s,.no]):=rfl
def iQ(F:?e->?k):?e->?k:=dF 60 (cf [(?uL,F)]) [?aV,?N] [?aV] [] (top 138)
theorem xV F a0:iQ F [a0]=outF ((ai (cM ?bZ qW ?yo (c1 (dM 2 [1] (iA ?b) ?iO bT (cF ?v F)) c0))) [?s,.no]):=rfl
theorem Kc F a0:tG F [a0]=outF ((ab (bC (bV (cF (c1 ?b ?ga) eh)) (ab (aD 1 (cF (c1 ?b c0) (iQ F))) (ai (cU (Qv "(" ")") ?x))) fN) (ai (cF (c1 ?b c0) Qu))) [?s,.no]):=rfl
theorem tQ a0:bH [a0]=outF ((ab (aD 1 (cF (c1 ?b c0) (kP))) (ab (bC (bV (c2 E6 (cF ?v aM) (cK (.int 12000)))) (fX (-8)) fN) (ai (dM 3 [2] (iA ?x) ?hK bT (cF (c1 ?h c0) Dt))))) [?s,.no,.no]):=rfl
theorem zr a0 a1:aA ?aB=outF ((ai (cF (c1 (cF ?v (dj)) (c1 ?b c0)) (aZ))) [?s,?S]):=rfl
theorem zt a0 a1:aW ?aB=outF ((ai (dM 3 [2] (iA (cF (c1 ?b ?v) (dr))) ?hK bT (c2 aU ?h ?ab))) [?s,?S,.no]):=rfl
theorem xW a0:bw [a0]=outF ((ai (c2 fw (cF (c1 (cF (c1 ?b c0) aM) c0) nh) (cF (c1 ?b c0) (bH)))) [?s]):=rfl
theorem xX a0 a1:gJ ?aB=outF ((ai (cF (c1 (cF (c1 (cF (c1 ?b ?v) (aA)) (c1 ?b c0)) (aW)) c0) (bw))) [?s,?S]):=rfl
theorem zu a0 a1 a2:bZ ?ey=outF ((ab (aD 3 (cF (c1 (cF (c1 ?b (c1 ?h c0)) (aA)) (c1 ?b c0)) (dr))) (ab (bC (bO (bV (c2 Cq ?x ?ab)) (bV (c2 WT ?x (cF (c1 ?l c0) aM)))) ?uP fN) (ai (c2 aU ?l ?x)))) [?s,?S,?dm,.no]):=rfl
theorem zv a0 a1 a2:iO ?ey=outF ((ab (aD 3 (cF (c1 ?b (c1 ?x (c1 ?h c0))) (bZ))) (ai (cF (c1 (cF (c1 (c2 aU ?l ?ab) c0) nh) c0) (bH)))) [?s,?S,?dm,.no]):=rfl
theorem xY a0 a1:gK ?aB=outF ((ab (bC (bV (c2 E6 (cF ?v aM) (cK (.int 700)))) ?nm fN) (ab (aD 2 (cF ?v (bh))) (ab (eM (cF (c1 ?h (c1 ?b c0)) (iF))) (ab (aD 3 (cF (c1 ?h (c1 ?b c0)) (fS))) (ai (cF (c1 (cI (bV (c2 ?G ?l ?hp)) ?ac ?ab) (c1 (cF (c1 ?l c0) aM) c0)) nh)))))) [?s,?S,.no,.no]):=rfl
theorem Ee a0 a1 a2:kD ?ey=outF ((ab (aD 3 (cF (c1 (cU (fl ?q) ?b) (c1 (cU (fl ?al) ?b) ?v)) (U0 aT QY))) (ai (dM 5 [4] (iA ?h) ?oc bT (cI (bV (c2 ?G (cU (fl ?q) ?L) (cU (fl ?q) ?b))) ?l ?L)))) [?s,?S,?dm,.no,.no]):=rfl
theorem xZ a0 a1 a2:gL ?ey=outF ((ab (aD 3 (cF (c1 ?b ?v) (aA))) (ab (aD 4 (cF (c1 ?l (c1 (cF (c1 (cF (c1 ?h c0) (aH)) (c1 (cU (fl ?al) ?l) c0)) (b9)) (c1 ?b c0))) (kD))) (ab (aD 5 (cF (c1 ?l (c1 ?b c0)) (aW))) (ab (aD 6 (dM 9 [7,8] (iE (c1 ?aJ c0)) (A_ [7,8]) (bV (c2 ?G (cF (c1 ?nz (c1 ?L c0)) (fS)) ?hp)) ?fL)) (ai (c2 fw (cF (c1 (cF (c1 ?bo c0) aM) c0) nh) ?bo)))))) [?s,?S,?dm,.no,.no,.no,.no,.no,.no]):=rfl
theorem zw a0 a1:iP ?aB=outF ((ab (aD 2 (cF (c1 (cF (c1 ?b ?v) (aA)) c0) (fc))) (ab (oZ 3 (c1 (cF (c1 ?h c0) aM) c0)) (ab (eU (iA ?h) (b8 4) (ab (lT 3 (cF (c1 ?L c0) aM)) (sY 3 ?L))) (ai ?l)))) [?s,?S,.no,.no,.no]):=rfl
theorem x9 a0 a1 a2:gM ?ey=outF ((ab (aD 3 (cF (c1 ?b ?v) (aA))) (ab (aD 4 (cF (c1 (cF (c1 ?h c0) (aH)) (c1 ?l c0)) (cp))) (ab (aD 5 (dM 7 [6] (WW (c1 (cF (c1 (cU (fl ?al) ?l) c0) aM) c0)) ?lS (bV (cF (c1 ?L (c1 ?bo (c1 (cU (fl ?R) ?l) c0))) (cu))) ?bo)) (ai (c2 fw (cF (c1 (cF (c1 ?aJ c0) aM) c0) nh) ?aJ))))) [?s,?S,?dm,.no,.no,.no,.no]):=rfl
theorem x_ a0 a1:gN ?aB=outF ((ab (aD 2 (cF (c1 ?b ?v) (aA))) (ai (cF (c1 (cF (c1 (cF (c1 (cF (c1 ?h (c1 ?b c0)) (aW)) c0) (bp)) (c1 (cF (c1 ?h c0) (aQ)) c0)) (rB)) c0) (bw)))) [?s,?S,.no]):=rfl
theorem tR a0 a1 a2:fg ?ey=outF ((ab (aD 3 (c2 aU (cF (c1 ?b (c1 ?x (c1 ?h c0))) (bZ)) ?ab)) (ab (aD 4 (cF (c1 ?b (c1 ?h c0)) (aA))) (ab (aD 5 (cF (c1 (cF (c1 ?L (c1 ?b c0)) (aW)) c0) (bp))) (ab (bC (bV (c2 ?fG ?l ?aJ)) (fX (-6)) fN) (ai (cF (c1 (cI (bV (cF (c1 ?l (c1 (cF (c1 ?l (c1 ?aJ c0)) (cS)) (c1 (cF (c1 ?L c0) (aQ)) c0))) (gq))) ?ac ?ab) c0) nh)))))) [?s,?S,?dm,.no,.no,.no]):=rfl
#where
namespace TC
open PySem (Str PyData sizeLine Addr)
open PP
open Vadtta (Bytes Tree Cell Kind Row Store Cond Claim Exp)
def sB(w:Bytes):Str:=⟨(w.map apY).toArray⟩
theorem kQ:sB a=sB b<->a=b:=by
 refine⟨?cS,λh=>by rw[h]⟩;have h2:a.map apY=b.map apY:=by have:=congrArg ?FL h;simpa[sB]using this
 exact arF (λ_ _ e=>aph e)|>.mp h2
@[simp] theorem ya w:(sB w).length=w.length:=by simp[sB,apG]
theorem pB w:amQ ?iP=true:=by simp only[amQ,sB];rw[<-aqn];simp only[adY,adX];refineλx Ra=>ag Ra λb _ T2=>?_;clear Ra;subst T2;have:=b.toNat_lt;lia
mutual
def eT:Tree->PV
 |?an=>?hd
 |?f w=>.str ?iP
 |?j l=>.tup (Pb l)
def Pb:?aA->?e
 |[]=>[]
 |x::r=>eT x::Pb r
end
mutual
def dT:Tree->PyData
 |?an=>?hd
 |?f w=>.str ?iP
 |?j l=>.tuple (vY l)
def vY:?aA->?mN
 |[]=>[]
 |x::r=>dT x::vY r
end
theorem BR:∀l,Pb l=?qC
 |[]=>rfl
 |x::r=>by dsimp only[Pb];rw[BR r];rfl
theorem v5:∀l,vY l=?qW
 |[]=>rfl
 |x::r=>by dsimp only[vY];rw[v5 r];rfl
@[simp] theorem GL n:eT (?an)=?en:=rfl
@[simp] theorem oH w:eT (?f w)=.str ?iP:=rfl
@[simp] theorem aR l:eT (?j l)=.tup ?bK:=by dsimp only[eT];rw[BR]
mutual
theorem Ta:∀t,dat ?iQ=some (dT t)
 |?an=>?TM
 |?f w=>?TM
 |?j l=>by unfold eT dT dat;rw[BS l];rfl
theorem BS:∀l,yX (Pb l)=some (vY l)
 |[]=>by unfold Pb vY yX;rfl
 |x::r=>by unfold Pb vY yX;rw[Ta x,BS r];rfl
end
theorem NS(l:?aA):yX ?bK=some (?qW):=by rw[<-BR,<-v5];exact BS l
mutual
theorem Tb:∀t,(dT t).canLay0=true
 |?an=>by unfold dT aiF;rfl
 |?f w=>by unfold dT aiF;exact pB w
 |?j l=>by unfold dT aiF;exact BU l
theorem BU:∀l,amO (vY l)=true
 |[]=>by unfold vY amO;rfl
 |x::r=>by unfold vY amO;rw[Tb x,BU r];rfl
end
mutual
theorem IH:∀a b,ahm (dT a) (dT b)=true<->a=b
 |?ep,?an=>by unfold dT ahm;simp;lia
 |?f m,?f n=>by unfold dT ahm;simp[kQ]
 |?j l,?j m=>by unfold dT ahm;rw[Ef l m];simp
 |?ep,?f n=>?oA
 |?ep,?j n=>?oA
 |?f m,?an=>?oA
 |?f m,?j n=>?oA
 |?j m,?an=>?oA
 |?j m,?f n=>?oA
theorem Ef:∀l m,an_ (vY l) (vY m)=true<->l=m
 |[],[]=>?ET
 |[],_::_=>?ET
 |_::_,[]=>?ET
 |x::r,y::s=>by unfold vY an_;rw[abk,IH x y,Ef r s];simp
end
instance ad4:DecidableEq Tree:=λa b=>decidable_of_iff _ (IH a b)
theorem Rn a b:ahm (dT a) (dT b)=?JS:=by rw[acM,IH,decide_eq_true_eq]
def dp(t:Tree):Nat:=(dT t).depth
@[simp] theorem ai7 n:dp (?an)=0:=rfl
@[simp] theorem af4 w:dp (?f w)=0:=rfl
theorem nD:∀l,aqI (vY l)<=n<->∀t∈l,dp t<=n
 |[]=>by delta vY aqI;simp
 |x::r=>by unfold vY aqI;have:=nD (n:=n) r;simp;rw[<-this,Nat.max_le];rfl
theorem kF l:dp (?j l)<=n+1<->∀t∈l,dp t<=n:=by rw[<-nD];unfold dp dT aqB;simp_all
theorem NT(h:?iF):A9 ?iQ=some (dT t):=by
 delta A9;rw[Ta];have:akx (dT t)=true:=by delta akx;rw[Tb];exact decide_eq_true h
 simp[this]
theorem mQ(ha:?qX)(hb:dp b<=64):bz neg (eT a) (eT b)=?DB:=by delta bz;rw[NT ha,NT hb];simp only[Rn];show ?uV
theorem ad5{l:?aA}(h:∀t∈l,dp t<=63):A9 (.lst ?bK)=some (?j (?qW)):=by
 delta A9;have e:dat (.lst ?bK)=some (?j (?qW)):=by unfold dat;rw[NS];rfl
 rw[e];have:akx (?j (?qW))=true:=by unfold akx aiF aqB;rw[<-v5,BU];have:=(nD l).mpr h;simp_all
 simp[this]
theorem eq_nil{l:?aA}(h:∀t∈l,dp t<=63):bz neg (.lst ?bK) ?bu=?sa:=by delta bz;rw[ad5 h,show A9 _=?bk from rfl];simp only[ahm];cases l<;>cases neg<;>simp[an_]
theorem Tc{l:?aA}(h:?iF)(hp:jI p=some ?bK):Y7 neg ?iQ p=?vV:=by
 delta Y7;rw[NT h,hp];simp only[ah9,NS];rw[show amO _=true from by rw[<-v5];exact BU l,(show((?qW).any λy=>ahm y (dT t))=decide (t∈l)from by rw[acM];simp[IH])]
 show ?uV
theorem p9{l:?aA}(h:?iF):jK neg ?iQ (.tup ?bK)=?vV:=?RI
theorem mf{l:?aA}(h:?iF):jK neg ?iQ (.lst ?bK)=?vV:=?RI
section
theorem comp_map{α:Type}{ft}{gt}{ge}{env}{en e}{t}:∀(l:?aa),(∀a∈l,∃dt,?VV/\?Oh)->comp ft gt ge env ?hj=.ok (?Gr)
 |[],_=>rfl
 |a::r,h=>by
  refine aG (h a ?aS) λdt h1 h2 h3=>?_;have ih:=comp_map r ?EE;rw[abL];unfold comp;rw[h1];simp only[quiet,Rs.aK,h2];cases ht:t a with
  |true=>simp[h3 ht,ih,ht]
  |false=>simp[ih,ht]
theorem NU{α:Type}{ft}{en e}(l:?aa)(h:∀a∈l,∃dt,?VV/\ge dt=.ok (e a)):comp ft bT ge env ?hj=.ok (l.map e):=by have:=comp_map (gt:=bT) l λa ha=>ag ?CA λdt h1 h2=>⟨dt,h1,rfl,λ_=>h2⟩;rw[this,aiR.mpr ?pV]
#where
theorem yb{α β:Type}{f}{g}{h:?ob}(e:∀a,f (g a)=some (h a))(l:?aa):FV f (l.map g)=some (l.map h):=by
 induction l with
 |nil=>rfl
 |cons a r ih=>simp[FV,e,ih]
@[simp] theorem W5{α:Type}f(l:?aa):HX (l.map λa=>PV.bl ?dF)=some ?iB:=yb (h:=f) (?ar) l
@[simp] theorem p_{α:Type}f(l:?aa):intsOf (l.map λa=>PV.int ?dF)=some ?iB:=yb (h:=f) (?ar) l
@[simp] theorem mh{α:Type}f(l:?aa):strsOf (l.map λa=>PV.str ?dF)=some ?iB:=yb (h:=f) (?ar) l
open Vadtta (Bytes Tree Cell Kind Row Store Cond Claim Exp eachOf wordOf wUp wOf wMaybe wTable wWord wCol wOne wTwo wAdd wSub wLess wSame wGone wAnd wOr wNot wEach wAny wPairs wNext wKey wFixes wRefers wGroups wCount wSum)
section
@[simp] theorem amo:one f [p]=f p:=rfl
@[simp] theorem amq:two f [p,q]=f p q:=rfl
@[simp] theorem amr:opt f (?cr)=f a:=rfl
@[simp] theorem ams:opt f none=.bad:=rfl
@[simp] theorem amt:E5 f (?O)=f i:=rfl
@[simp] theorem amu:wN f ?ag=f x:=rfl
@[simp] theorem amv:P1 f (?dj)=f l:=rfl
@[simp] theorem amw:uH f (?cx)=f l:=rfl
@[simp] theorem amx:vg f (?dj)=f l:=rfl
@[simp] theorem amy:vg f (?cx)=f l:=rfl
theorem Ro(h:jI p=?dS):vg f p=f l:=by
 show ?iY
 case tup=>cases h;rfl
 case lst=>cases h;rfl
 all_goals show ?w
@[simp] theorem ai8:ZL f ?rd=f n:=rfl
@[simp] theorem amz:FP (?Y)=?bC:=rfl
@[simp] theorem af5{g:GF}:k_ g (.nx se)=g se:=rfl
@[simp] theorem af6{g:GF}:k_ g (.rt p)=?lf:=rfl
@[simp] theorem ai9:kindS (?O)=some ?fW:=rfl
@[simp] theorem ai_:kindS ?ag=some ?bZ:=rfl
@[simp] theorem aja:kindS (?dj)=some ?be:=rfl
@[simp] theorem ajb:kindS .b_=some ?ul:=rfl
#where
def pC:?uq
 |?f _=>true
 |_=>false
def W6:?uq
 |.num _=>true
 |_=>false
def FO:?uq
 |?j _=>true
 |_=>false
@[simp] theorem Rp t:eh [eT t,.ty ?bZ]=.ok (.bl (pC t)):=?DK
@[simp] theorem af7 t:eh [eT t,.ty "int"]=.ok (.bl (W6 t)):=?DK
@[simp] theorem af8 t:eh [eT t,.ty ?be]=.ok (.bl (FO t)):=?DK
theorem lit(h:aee s=sB w):PV.str (aee s)=eT (?f w):=?W
theorem ajc:PV.str (aee "up")=eT (?f wUp):=?bN
theorem ajd:PV.str (aee "of")=eT (?f wOf):=?bN
theorem W7:PV.str (aee ?lI)=eT (?f wMaybe):=?bN
theorem W8:PV.str (aee ?m)=eT (?f wTable):=?bN
theorem ad6:PV.str (aee "word")=eT (?f wWord):=?bN
theorem af9:PV.str (aee "col")=eT (?f wCol):=?bN
theorem af_:PV.str (aee "one")=eT (?f wOne):=?bN
theorem aga:PV.str (aee ?gJ)=eT (?f wTwo):=?bN
theorem agb:PV.str (aee "add")=eT (?f wAdd):=?bN
theorem agc:PV.str (aee "sub")=eT (?f wSub):=?bN
theorem ad7:PV.str (aee "less")=eT (?f wLess):=?bN
theorem ad8:PV.str (aee "same")=eT (?f wSame):=?bN
theorem ad9:PV.str (aee "gone")=eT (?f wGone):=?bN
theorem agd:PV.str (aee "and")=eT (?f wAnd):=?bN
theorem aje:PV.str (aee "or")=eT (?f wOr):=?bN
theorem age:PV.str (aee "not")=eT (?f wNot):=?bN
theorem ad_:PV.str (aee "each")=eT (?f wEach):=?bN
theorem agf:PV.str (aee "any")=eT (?f wAny):=?bN
theorem W9:PV.str (aee "pairs")=eT (?f wPairs):=?bN
theorem aea:PV.str (aee "next")=eT (?f wNext):=?bN
theorem agg:PV.str (aee "key")=eT (?f wKey):=?bN
theorem W_:PV.str (aee "fixes")=eT (?f wFixes):=?bN
theorem V0:PV.str (aee "refers")=eT (?f wRefers):=?bN
theorem V1:PV.str (aee ?ly)=eT (?f wGroups):=?bN
theorem Xa:PV.str (aee ?jW)=eT (?f wCount):=?bN
theorem agh:PV.str (aee "sum")=eT (?f wSum):=?bN
theorem V2{l:?aA}(h:?iF)(e:m=?qC):jK neg ?iQ (.tup m)=?vV:=by rw[e];exact p9 h
theorem Eg(ha:?qX)(hb:dp b<=64)(e:PV.tup m=eT b):bz neg (eT a) (.tup m)=?DB:=by rw[e];exact mQ ha hb
theorem agi:PV.tup []=eT (?j []):=rfl
theorem BV(h:l[k]?=?F):aU (?dj) (.int (k:Nat))=.ok x:=?Pe
theorem tT(h:l[k]?=?F):aU (?cx) (.int (k:Nat))=.ok x:=?Pe
theorem ix0:aU ?JF ?ns=.ok x:=?rF
theorem ix1:aU (.tup (?jY)) ?nr=.ok y:=?rF
theorem ix2:aU ?WY (.int 2)=.ok z:=?rF
theorem ix3:aU (.tup (x::y::z::u::r)) (.int 3)=.ok u:=?rF
theorem ix4:aU (.tup (x::y::z::u::v::r)) (.int 4)=.ok v:=?rF
theorem ix5:aU (.tup (x::y::z::u::v::w::r)) (.int 5)=.ok w:=?rF
theorem V3(h0:0<k)(h:k<=l.length):KZ (?dj) (some (k:Nat)) none=.ok (.tup (l.drop k)):=by
 have e:HT.k8 l.length 0 (some ((k)))=k:=by rw[HT.AW];simp_all
 simp only[KZ,e,HT.CS,JD];rw[if_neg ?a,aqt ?i]
theorem sl1:KZ ?JF (some 1) none=?Kx:=V3 ?A ?lH
theorem sl2:KZ (.tup (?jY)) (some 2) none=?Kx:=V3 ?lH ?dx
theorem VH:KZ ?WY (some 3) none=?Kx:=V3 ?lH ?dx
theorem NV:aM [?dj]=?kD:=rfl
theorem Td:aM [?cx]=?kD:=rfl
inductive Ok:Nat->Tree->Prop
 |num {d n:Nat}:?qd->Ok d (?an)
 |word {d:Nat} {w:Bytes}:?jA->Ok d (?f w)
 |list {d:Nat} {l:?aA}:?jq->(∀t∈l,?ba)->Ok ?eL (?j l)
theorem Ok.dp:∀{t}{d},?ba->dp t<=d
 |.num _,_,_=>?bg
 |?f _,_,_=>?bg
 |?j l,_,?j _ h=>(kF l).mpr λt ht=>(h t ht).dp
theorem Ok.sub(h:Ok d (?j l))(ht:t∈l):?ba/\Ok ?bQ t:=by
 cases h with
 |@list d _ _ h=>
  refine⟨?_,h t ht⟩;have:∀{t}{d},?ba->Ok ?eL t:=λ{t}{d}h=>by
   induction h with
   |num h=>exact .num h
   |word h=>exact ?f h
   |list h _ ih=>exact ?j h ih
  exact this (h t ht)
theorem Ok.mono(h:?ba)(le:d<=e):Ok e t:=by
 induction h generalizing e with
 |num h=>exact .num h
 |word h=>exact ?f h
 |@list d l h _ ih=>
  obtain⟨e',rfl⟩:∃e',e=e'+1:=⟨e-1,?M⟩;exact ?j h λt ht=>ih t ht (?W)
theorem Ok.len(h:Ok d (?j l)):?jq:=by cases h;show ?cJ
theorem sz:5000<=sizeLine:=?c
@[simp] theorem V4:zZ (?bP)=?dq:=rfl
@[simp] theorem agk:asI (?O)=.ok (?fQ):=rfl
theorem NW:Cq (?O) (?fP)=.ok (.bl (?py)):=rfl
theorem aeb:Y_ (?O) (?fP)=.ok (?Fx):=rfl
theorem amA:E6 (?O) (?fP)=.ok (?xw):=rfl
theorem aec:WT (?O) (?fP)=.ok (?xg):=rfl
theorem V5:P9 (?O) (?fP)=.ok (.int (i-j)):=rfl
theorem amB:(if a=true then Rs.ok true else Rs.ok b)=Rs.ok (a||b):=?mr
theorem ajf:(if a=true then Rs.ok b else Rs.ok false)=Rs.ok (a&&b):=?mr
theorem amC:(if a=true then Rs.ok (PV.bl true)else Rs.ok (PV.bl b))=Rs.ok (PV.bl (a||b)):=?mr
theorem V6:(if a=true then Rs.ok (PV.bl b)else Rs.ok ?JG)=Rs.ok (PV.bl (a&&b)):=?mr
theorem ajg:(Rs.ok (!a):?gA)=Rs.ok (!a):=rfl
theorem Te:bz neg (?O) (?fP)=.ok (.bl (neg !=?Ak)):=by have:∀i,A9 (?O)=?bk:=λi=>rfl;delta bz;rw[this,this];have e:(i==j)=?Ak:=rfl;simp only[ahm,e];show ?uV
theorem ao6:fu []=.ok ?Bx:=rfl
theorem ao7:fu [a]=.ok (.tup [a]):=rfl
theorem ao8:fu ?aE=.ok (.tup ?aE):=rfl
theorem ao9:fu ?lG=.ok (.tup ?lG):=rfl
theorem ao_:fu [a,b,c,d]=.ok (.tup [a,b,c,d]):=rfl
theorem apa:fu [a,b,c,d,e]=.ok (.tup [a,b,c,d,e]):=rfl
theorem apb:nh []=.ok ?bu:=rfl
theorem apc:nh [a]=.ok (.lst [a]):=rfl
theorem apd:nh ?aE=.ok (.lst ?aE):=rfl
section
theorem fW{gt:GB}{ge:GE}{g3:GF}(ht:gt ?bA=?dq)(h1:?dQ->ge ?bA=r)(h2:b=false->?my):?rO:=by
 delta ab bC;rw[ht];cases b with
 |true=>
  have:=h1 rfl;rw[ai,this];cases r<;>rfl
 |false=>simpa using h2 rfl
theorem kb{gt:GB}{ge:GE}{g3:GF}(ht:gt ?bA=?nh)(h2:?my):?rO:=fW ht ft λ_=>h2
theorem iW{gt:GB}{ge:GE}{g3:GF}(ht:gt ?bA=?iE)(h1:ge ?bA=r):?rO:=fW ht (λ_=>h1) nofun
theorem qa{gt:GB}{g3:GF}(ht:gt ?bA=?dq)(h1:?dQ->r=?ai)(h2:b=false->?my):outF (ab (bC gt (fX n) fN) g3 se)=r:=by
 delta ab bC;rw[ht];cases b with
 |true=>simp only[h1 rfl];rfl
 |false=>simpa using h2 rfl
theorem ao{ge:GE}(h:ge ?bA=r):outF (ai ge se)=r:=by delta ai;rw[h];cases r<;>rfl
theorem evSet{ge:GE}{g3:GF}(h:?dd=?bC)(h2:outF (g3 ?kK)=r):outF (ab ?qp g3 se)=r:=by delta ab aD;rw[h];exact h2
theorem eP{g1 g2:GF}(h:g1 se=?IV)(h2:?HT):outF (?AK)=r:=by delta ab;rw[h];exact h2
theorem yc{ge:GE}{g3:GF}(h:?dd=?bC)(h2:?my):?Er=r:=by delta ab eM;rw[h];exact h2
#where
local macro_rules|`(~~~ $h)=>`(akT ?ak $h)
theorem uT{l:?aA}(hp:g6 p=.ok ?bK)(hl:?gS):bG [p]=.ok (.bl (?gx)):=by simp only[D6];refine ?D;erw[hp];rw[NU (e:=λt=>.bl (pC t)) l λa _=>⟨_,rfl,?hh⟩];simp[nh,hl,lS]
theorem uU{l:?aA}(hl:?gS):bG [.tup ?bK]=.ok (.bl (?gx)):=uT rfl hl
def wd:Tree->Bytes
 |?f w=>w
 |_=>[]
theorem iX:∀l,?ph=if ?gx=true then some (l.map wd)else none
 |[]=>rfl
 |t::r=>by unfold eachOf;rw[iX r];cases t<;>simp[wordOf,pC,wd]
theorem Kd:(?ph).isSome=?gx:=by rw[iX];grind
theorem Rq(hw:w≠wUp):(ahN (?j (?f w::b::r))).isSome=(decide (w=wOf)&&(?VW&&?JH)):=by
 have hu:(w==wUp)=false:=?GC
 have hb:(w==wOf)=decide (w=wOf):=by rw[acM];simp
 unfold ahN;split
 ·rename_i e;simp at e;refine i8 e λajh aji ape=>?_;clear e;subst ajh;subst aji;simp[hu,pC]
 ·rename_i w' r' _ e;simp at e;obtain⟨rfl,rfl⟩:=e;by_cases hw:w=wOf
  ·rw[if_pos (?GC),iX];by_cases hr:?JH=true
   ·rw[if_pos hr,hr,ah9,aa_,ad2];by_cases h9:r.length<=9
    ·rw[if_pos ⟨?M,by show r.length+1<=10;lia⟩];simp[h9,hw]
    ·rw[if_neg (λz=>h9 (by have:=z.2;simp only[Vadtta.WORDS]at this;lia))];simp[h9]
   ·rw[if_neg hr];rw[akW]at hr;rw[hr];simp
  ·simp[hw]
 ·rename_i h1 h2;exact absurd rfl (h2 _ _)
theorem Ke(h:?ba)(hd:?iV):oz ?gH=.ok (.bl (ahN t).isSome):=by
 rw[J_];match t,h with
 |?an,h=>rfl
 |?f n,h=>rfl
 |?j [],h=>rfl
 |?j [a],h=>exact iW rfl (by cases a<;>simp[ahN,eachOf]<;>rfl)
 |?j (?nG),h=>
  have ha:=((h.sub (t:=a) ?i).1).dp;have hl:=h.len;have e1:bG [.tup (eT b::?nt)]=.ok (.bl (?JH)):=uU (l:=b::r) (by have:=sz;simp at hl⊢;lia);rw[aR];refine kb (?H) (fW (b:=decide (a=?f wUp)) (by erw[one];rw[mQ ?a ?i];simp) (?T) λz=>?D)
  ·have z:=?hX;subst z;erw[one];cases r with
   |nil=>cases b<;>simp[W6,aec,ahN,eachOf,wordOf,wUp,wOf]<;>(try (split<;>simp_all))<;>try lia
   |cons x y=>
    have:(wUp==wOf)=false:=?H
    simp[ahN,this];lia
  ·show ?sj;erw[one];rw[mQ ?a ?i,e1];erw[one];have e:decide ((((?nt).length+1+1:Nat):Int)<=10+1)=?VW:=?Dp
   simp only[fw,Rs.aK,aeb,e,V4,V6];congr 2;match a,z with
   |?an,_=>kernel_rfl
   |?j n,_=>simp[ahN]
   |?f w,z=>
    rw[Rq λe=>z (?lz)];simp
theorem Ak(h:ahN t=?as):t=k.tree:=by
 delta ahN at h;show ?ao
 ·show ?ao
  ·rename_i z;simp at z;grind [aq_,z.1]
  ·show ?w
 ·show ?ao
  ·rename_i w r _ z;rw[iX]at h;show ?ao
   ·rename_i hr;simp only[ah9]at h;show ?ao
    ·cases h;simp at z;simp only[aq_,z,abV];congr 2;have:∀l:?fR,?gx=true->l=l.map (agV∘wd):=λl hl=>by
      induction l with
      |nil=>rfl
      |cons a s ih=>
       simp only[aik,abk]at hl;cases a with
       |word w=>exact congrArg _ (ih hl.2)
       |_=>exact ft hl.1
     exact this r hr
    ·show ?w
   ·show ?w
  ·show ?w
 ·show ?w
theorem Eh(h:?ba)(hd:?iV):ko ?gH=.ok (.bl (agU t).isSome):=by
 rw[D7];match t,h with
 |?an,h=>rfl
 |?f n,h=>rfl
 |?j [],h=>rfl
 |?j [a],h=>exact iW rfl (?mr)
 |?j (?nG),h=>
  have hk:=Ke (h.sub (t:=b) ?i).1 hd;rw[aR];refine kb (?H) (fW (b:=!pC a||!(ahN b).isSome) (by erw[one];rw[hk];erw[one]) (?T) λz=>?D)
  ·show Rs.ok _=_;cases a<;>simp[pC,agU]at z⊢;match r with
   |[]=>simp[agU,z]
   |[?f m]=>simp[agU,z]
   |[?ep]=>rfl
   |[?j m]=>rfl
   |_::_::_=>simp[agU,z]
  ·have ho:∀x∈r,dp x<=62:=λx hx=>by have:=(h.sub (t:=x) (by simp[hx])).1.dp;lia
   have hdr:dp (?j r)<=63:=(kF r).mpr ho;erw[one];rw[<-aR,Eg (a:=?j r) (b:=?j []) ?a (?c) ?i,Eg (a:=?j r) (b:=?j [?f wMaybe]) ?a (?c) ?i];erw[one];cases a<;>simp[pC,agU]at z⊢;obtain⟨k,hk⟩:=aka.mp z;match r with
   |[]=>simp[agU,hk]
   |[?f m]=>simp[agU,hk];split<;>simp_all
   |[?ep]=>rfl
   |[?j m]=>kernel_rfl
   |_::_::_=>simp[agU]
section
theorem Al{α:Type}{ft}{en e}{l:?aa}{t}(hn:?tr)(hg:?ke=.ok ?hj)(h:∀a∈l,∃dt,?wd/\?Oh)(hl:?gS):dM n own gi ft gt ge env=.ok (.lst (?Gr)):=by simp only[dM];rw[if_pos hn,hg,Rs.aK,comp_map l h,Rs.aK,nh,if_pos];rw[aa_];exact afh ?hx hl
theorem yd{α:Type}{ft}{en e}{l:?aa}(hn:?tr)(hg:?ke=.ok ?hj)(h:∀a∈l,∃dt,?wd/\ge dt=.ok (e a))(hl:?gS):dM n own gi ft bT ge env=.ok (.lst (l.map e)):=by rw[Al hn hg (λa ha=>ag ?CA λx h1 h2=>⟨x,h1,rfl,λ_=>h2⟩) hl,aiR.mpr ?pV]
theorem vI{α:Type}{ft}{en}{l:?aa}{f}(hn:?tr)(hg:?ke=.ok ?hj)(h:∀a∈l,∃dt,?wd/\ge dt=.ok (.bl ?dF))(hl:?gS):cF ?QE lS env=.ok (.bl (l.all f)):=by simp[cF,c1,yd hn hg h hl,lS]
theorem anyC{α:Type}{ft}{en}{l:?aa}{f}(hn:?tr)(hg:?ke=.ok ?hj)(h:∀a∈l,∃dt,?wd/\ge dt=.ok (.bl ?dF))(hl:?gS):cF ?QE anyF env=.ok (.bl (l.any f)):=by simp[cF,c1,yd hn hg h hl,anyF]
#where
theorem iY(f:Tree->Option A):∀l,(eachOf f l).isSome=l.all λx=>(f x).isSome
 |[]=>rfl
 |a::r=>by simp only[eachOf];simp only[aik,<-iY f r];cases f a<;>cases ?Bn<;>rfl
theorem jW:∀{l}{m},?GO->m.length=l.length
 |[],_,h=>?IH
 |a::r,m,h=>by
  unfold eachOf at h;cases h1:f a with
  |none=>simp_all
  |some x=>
   show ?fs;cases h2:?Bn with
   |none=>rw[h2]at h;show ?w
   |some y=>rw[h2]at h;cases h;simp[jW h2]
def II:?uq
 |?j l=>?VX&&decide (l.length<=6)&&l.all λc=>(agU c).isSome
 |_=>false
theorem zx(h:?ba)(hd:?iV):iz ?gH=.ok (.bl (II t)):=by
 simp only[ze];match t,h with
 |?an,h=>rfl
 |?f n,h=>rfl
 |?j l,h=>
  have hl:=h.len;rw[aR];refine fW (b:=decide (l.length<1)||decide (6<l.length)) (by erw[show eh [.tup _,.ty ?be]=.ok ?lm from rfl];congr 1;rw[acM];simp only[arq,arp,agD,decide_eq_true_eq,aa_];lia) (?T) λz=>?D
  ·show Rs.ok _=_;congr 2;rw[acM];simp only[II,agD,abk,decide_eq_true_eq]at z⊢;show ?cI
   ·exactλh=>ft h
   ·intro h;lia
  ·rw[vI ?ch rfl (λa ha=>⟨_,rfl,~~~(Eh (h.sub ha).1 hd)⟩) ?hZ];congr 2;rw[acM];simp only[II,abk,decide_eq_true_eq]at z⊢;exact⟨λh=>⟨⟨?M,?M⟩,h⟩,λh=>h.2⟩
theorem Kf(h:?iF):oA ?gH=.ok (.bl (art t).isSome):=by
 simp only[Ka];refine ?D;erw[one];rw[Eg (b:=?j []) h ?lH (?H)];match t with
 |?an=>rfl
 |?f n=>rfl
 |?j []=>rfl
 |?j (_::_)=>rfl
theorem NX(h:?ba)(hd:?iV):rh ?gH=.ok (.bl (amR t).isSome):=by
 simp only[NP];refine ?D;match t,h with
 |?an,h=>rfl
 |?f n,h=>rfl
 |?j l,h=>
  have hl:=h.len;show P7 _ _=_;rw[vI (f:=λc=>(art c).isSome) ?ch (by simp;rfl) (λa ha=>⟨_,rfl,~~~(Kf (by have:=(h.sub ha).1.dp;lia))⟩) ?hZ];erw[one];simp[FO,amR,iY]
theorem ye{l:?aA}(hp:g6 p=.ok ?bK)(hlen:aM [p]=?kD)(h:∀t∈l,?ba)(hd:?iV)(hl:?jq):g9 [p]=.ok (.bl (?UW&&l.all λc=>(amR c).isSome)):=by simp only[Gu];refine ?D;show P7 _ _=_;rw[vI ?ch (hp) (λa ha=>⟨_,rfl,~~~(NX ?CA hd)⟩) ?hZ];erw[one];rw[hlen];erw[one];congr 2;rw[acM];simp;intro _;lia
theorem GN(h:?ba)(hd:?iV):l4 ?gH=.ok (.bl (ah_ t).isSome):=by
 rw[Gv];match t,h with
 |?an,h=>kernel_rfl
 |?f n,h=>rfl
 |?j [],h=>rfl
 |?j [a],h=>exact iW rfl (?mr)
 |?j ?aE,h=>exact iW rfl (?Sj)
 |?j ?kZ,h=>
  have hl:=h.len;simp at hl;have ha:=(h.sub (t:=a) ?ct).1.dp;have hc:=zx (h.sub (t:=c) ?cf).1 hd;have hr:=ye (p:=?mw) (l:=r) rfl (by rw[NV];simp) (λt ht=>(?Sk).1) hd ?a;rw[aR];refine kb (?H) (fW (b:=!decide (a=?f wTable)||!pC b) (by erw[one];rw[mQ ?a ?i];erw[one]) (?T) λz=>?D)
  ·show Rs.ok _=_;congr 2;cases a with
   |num _=>rfl
   |list _=>rfl
   |word w=>
    cases b with
    |num _=>rfl
    |list _=>rfl
    |word v=>
     cases c with
     |num _=>rfl
     |word _=>rfl
     |list cs=>
      exact congrArg ap8 (show ah_ (?j (?f w::?f v::?j cs::r))=none from if_neg λe=>by rw[eq_of_beq e,?Gj]at z;cases z).symm
  ·erw[one];rw[hc,hr];erw[one];congr 2;rw[aiV,amn,decide_eq_true_eq,amn]at z;show ?Md;rcases b with _|v|_
   ·cases z
   case list=>cases z
   cases c with
   |num _=>rfl
   |word _=>rfl
   |list cs=>
    simp only[ah_,beq_self_eq_true,if_true,II];have e1:=iY agU cs;have e2:=iY amR r;rw[<-e1,<-e2];cases h1:eachOf agU cs with
    |none=>simp
    |some x=>
     cases h2:eachOf amR r with
     |none=>simp
     |some y=>
      simp only[ah9,jW h1,jW h2,apC,aob,asi,aoX];by_cases z:(1<=cs.length/\?Ab)/\r.length<=40
      ·rw[?ek];simp[z]
      ·rw[?gv];rw[acM];simp;intro a b;lia
open Vadtta (Column)
theorem Ei(ys:?t):∀n,n<=ys.length->(∀k,(fQ (?ot) n).any (·==k)=(?qv).contains k)/\((fQ (?ot) n).length=n<->(?qv).Nodup)
 |0,_=>by simp[fQ]
 |n+1,h=>by
  obtain⟨h1,h2⟩:=Ei ys n (aps ?bM);have hg:ys.getD n ⟨#[]⟩=ys[n]:=by rw[ah7,aft _];rfl
  have ht:ys.take ?eJ=?qv++[ys[n]]:=by simp only[List.take_succ,aft ?bM];rfl
  have hle:=vX (?ot) n;refine⟨λk=>?_,?_⟩
  ·simp only[DB,h1,ht,hg];rw[acM];simp only[agD,afw,decide_eq_true_eq,afC,afO]
  ·rw[DC,h1,hg,ht,ahL];by_cases hm:(?qv).contains ys[n]=true
   ·rw[if_pos hm];have hm':ys[n]∈?qv:=afw.mp hm;show ?cI
    ·lia
    ·exactλz=>absurd rfl (z.2.2 _ hm' _ ?ct)
   ·rw[if_neg hm];have hm':ys[n]∉?qv:=λz=>hm (afw.mpr z);show ?cI
    ·exactλz=>⟨h2.mp ?a,?J,λa ha b hb=>by simp at hb;subst hb;exactλe=>hm' (e▸ha)⟩
    ·intro z;lia
theorem Am:∀ws,ajn ws=false<->ws.Nodup
 |[]=>by simp[ajn]
 |x::r=>by simp only[ajn];rw[aiV,Am r];simp
theorem Ej{ws:?cc}:(?qw).Nodup<->ws.Nodup:=by
 show ?cI
 ·intro h;rw[arG,akI]at h;exact h.imp λhne e=>hne (?lz)
 ·intro h;rw[arG,akI];exact h.imp λhne e=>hne (kQ.mp e)
theorem rN(hp:jI p=some (ws.map λw=>PV.str ?iP))(hlen:aM [p]=.ok (.int ws.length))(hl:ws.length<4000):bX [p]=.ok (.bl (!ajn ws)):=by
 simp only[BI];refine ?D;erw[hlen];have e:lsF [p]=.ok (.int (gm (?qw))):=by show vg _ p=_;simp_all[Ro hp]
 erw[e];congr 2;have h1:=(show gm (?qw)=(?qw).length<->(?qw).Nodup from by have:=(Ei (?qw) _ ?A).2;rwa[List.take_length]at this)
 rw[aa_,Ej,<-Am]at h1;grind
def eC(c:Column):PV:=.ins aC [(?q,?ms),(?oa,eT c.kind.tree),(?lI,.bl c.may)]
def ay(T:afr):PV:=.ins aT [(?q,?pe),(?al,?gd),(?R,?hQ)]
theorem V7(h:S5.contains f=true)(e:?jC=?Y):fl f (.ins aC fs)=?bC:=by rw[fl,Gf];rw[if_pos (by simp only[cf,h,beq_self_eq_true,aob,aqC]),e]
theorem V8(h:QY.contains f=true)(e:?jC=?Y):fl f (?LK)=?bC:=by rw[fl,Gf];rw[if_pos (by simp only[cf,h,beq_self_eq_true,aob,aqv]),e]
theorem nE:fl ?q ?rG=.ok (?ms):=V7 rfl rfl
theorem yf:fl ?oa ?rG=.ok (eT c.kind.tree):=V7 rfl rfl
theorem An:fl ?lI ?rG=.ok (.bl c.may):=V7 rfl rfl
theorem gQ:fl ?q ?em=.ok (?pe):=V8 rfl rfl
theorem bK:fl ?al ?em=.ok (?gd):=V8 rfl rfl
theorem cj:fl ?R ?em=.ok (?hQ):=V8 rfl rfl
def qb:Kind->Bool
 |.up _=>true
 |.of_ _=>false
def K4:Kind->?cc
 |.up _=>[]
 |.of_ ws=>ws
structure Rr(c:Column):Prop where
 nm:c.name.length<=20
 wl:(?BK).length<=10
 ws:∀w∈?BK,?jA
theorem d0:aE [eC c]=.ok (.bl (?gn)):=by
 simp only[zf];refine ?D;erw[yf];cases h:c.kind with
 |up n=>
  kernel_rfl
 |of_ ws=>
  erw[aq_,aR,abL];kernel_rfl
theorem qc(h:?gn=false):bS [eC c]=.ok (.tup (((?BK).map agV).map eT)):=by
 simp only[Gw];refine ?D;erw[yf];cases hk:c.kind with
 |up n=>rw[hk]at h;exact nomatch h
 |of_ ws=>
  erw[aq_,aR,abL];rfl
theorem gR(h:?yb):aQ ?iR=.ok (.lst (T.cols.map λc=>?ms)):=by simp only[xH];exact ao (yd ?A ?ko (λa ha=>⟨_,rfl,rfl⟩) ?hZ)
theorem yg{α:Type}{ft}{gb}{en}{n}(I:?jP)bad:∀(l:?aa)se,(∀a∈l,∀se,I se->∃mP,?sq/\(bad a=true->gb mP=?ai)/\(bad a=false->∃ox,?xv/\I ox))->I se->
  (l.any bad=true->dv ft gb ?hj se=?ai)/\(l.any bad=false->∃se',?vM/\I se')
 |[],se,_,h=>aqh (λz=>by show ?aD) ?WZ
 |a::r,se,hs,h=>by
  refine aG (hs a ?aS _ h) λmP h1 h2 h3=>?_;have hu:?RJ=gb mP>>=λf=>match f with
    |.nx ox=>?Uo
    |.rt q=>.ok (.rt q):=by
   rw[abL];conv=>lhs;unfold dv
   rw[h1];rfl
  rw[hu,amU];cases hb:bad a with
  |true=>exact⟨λ_=>by rw[h2 hb];rfl,λz=>by show ?aD⟩
  |false=>
   refine ?SG;rw[h4];exact yg I _ r _ ?Ec h5
theorem zy{cs:?pQ}(hl:?Ab)(hc:∀c∈cs,Rr c):iB [?dV]=if(ajn (cs.map ?pI)||cs.any ?Gy)=true then .ex (-3)else ?lJ:=by
 rw[zg];have e1:dM 2 [1] (iA ?b) ?iO bT (cU (fl ?q) ?x) [some (?dV),none]=.ok (.lst (cs.map λc=>?ms)):=
  yd (l:=cs) (en:=eC) ?i rfl (λa ha=>⟨[?bk,some (eC a)],rfl,~~~(nE)⟩) ?hZ
 have e2:bX [.lst (cs.map λc=>?ms)]=.ok (.bl (!ajn (cs.map ?pI))):=rN (by simp[jI]) (by rw[Td];simp) ?aj;refine qa (b:=ajn (cs.map ?pI)) (by show(cF _ _ _>>=_>>=_)=_;simp only[full,abL,agn,Slot.full,cF,c1,c0];rw[e1];erw[one];rw[e2];erw[one];simp) (λz=>by rw[z];rfl) ?T;rw[z,arp];have hh:=yg (n:=-3) (ft:=b8 1) (en:=eC) (gb:=bC (bA (bN (bV (cF ?v (aE)))) (bN (bV (cF (c1 (cF ?v (bS)) c0) (bX))))) ?uO fN)
  (λse=>∃x,se=[.sh (?dV),x]) (?Gy) cs [.sh (?dV),.no] ?Tc ?ad
 ·show outF (eU _ _ _ _)=_;have ef:eU (iA ?b) (b8 1) (bC (bA (bN (bV (cF ?v (aE)))) (bN (bV (cF (c1 (cF ?v (bS)) c0) (bX))))) ?uO fN) [.sh (?dV),.no]=dv (b8 1) (bC (bA (bN (bV (cF ?v (aE)))) (bN (bV (cF (c1 (cF ?v (bS)) c0) (bX))))) ?uO fN) (cs.map (eC)) [.sh (?dV),.no]:=rfl;rw[ef];cases hb:cs.any ?Gy with
  |true=>rw[hh.1 hb];rfl
  |false=>
   refine ?RK;rw[h1];rfl
 ·subst e;refine⟨[.sh (?dV),.sh (eC a)],rfl,?_⟩;have hca:=hc a ha;have ht:(bA (bN (bV (cF ?v (aE)))) (bN (bV (cF (c1 (cF ?v (bS)) c0) (bX))))) [some (?dV),some (eC a)]=.ok a.kind.twice:=by
   erw[one];rw[d0];erw[one];cases hk:qb a.kind with
   |true=>
    cases Rt:a.kind with
    |up n=>rfl
    |of_ ws=>rw[Rt]at hk;exact nomatch hk
   |false=>
    rw[qc hk];erw[one];rw[rN (ws:=K4 a.kind) (by simp[jI]) (by rw[NV];simp) (by have:=hca.wl;lia)];erw[one];cases Rt:a.kind with
    |up n=>rw[Rt]at hk;exact nomatch hk
    |of_ ws=>simp[Kind.twice,K4]
  unfold bC;simp only[full,abL,agn,Slot.full];rw[ht];refine ?Nq
section
theorem tU{gt:GB}{g1 g2:GF}(h:gt ?bA=?dq):bC gt g1 g2 se=if ?dQ then g1 se else g2 se:=by unfold bC;rw[h];rfl
theorem rO{g1 g2:GF}(h:g1 se=?IV):?AK=g2 se':=?EF
theorem Tf{g1 g2:GF}(h:g1 se=?ai):?AK=?ai:=?EF
theorem NY{g1 g2:GF}(h:g1 se=?lf):?AK=?lf:=?EF
#where
theorem mi(x:Cell):dp x.tree<=1:=by cases x<;>simp[ag4];decide
theorem V9:tf [eT x.tree,eC c]=.ok (.bl (c.has x)):=by
 simp only[VZ];have hx:=mi x;refine fW (b:=decide (x=?bm)) (by erw[one];rw[Eg (b:=?j []) ?a (?c) ?i];erw[one];cases x<;>simp[ag4]) (?T) ?T
 ·have z:=?hX;subst z;erw[An];cases h:c.kind<;>simp[aqD,arV,h]
 show ?sj;have hg:(x==anR)=false:=?eR
 refine fW (b:=?gn) (by erw[d0]) (λhu=>?_) λhu=>?D
 ·erw[yf];cases hk:c.kind with
  |of_ ws=>rw[hk]at hu;exact ft hu
  |up n=>
   erw[aq_,aR,abL];cases x with
   |gone=>exact ?Kn
   |num m=>simp[ag4,W6,NW,aqD,arV,hk]
   |word w=>simp[ag4,W6,aqD,arV,hk]
 ·erw[qc hu];rw[p9 ?a];cases hk:c.kind with
  |up n=>rw[hk]at hu;exact nomatch hu
  |of_ ws=>
   cases x with
   |gone=>exact ?Kn
   |num m=>simp[ag4,K4,aqD,arV,hk]
   |word w=>simp[ag4,K4,aqD,arV,hk]
theorem IJ{α β:Type}(f:α->β->Bool):∀(a:?aa)b,((a.zip b).all λx=>f x.1 x.2)=(b.zip a).all λx=>f x.2 x.1
 |[],b=>?J
 |_::_,[]=>rfl
 |x::a,y::b=>by simp[IJ f a b]
def kG(cs:?pQ)(rs:List Row):Bool:=rs.any ?IK
theorem pD(hp:g6 p=.ok ?si)(hc:?Ab)(hr:∀r∈rs,r.length<=5000):dY [p,?dV]=if ?JI then .ex (-4)else ?lJ:=by
 simp only[zh];have hh:=yg (n:=-4) (ft:=b8 2) (en:=λr=>?ur) (gb:=ab (bC (bV (c2 ?cn (cF (c1 ?h c0) aM) (cF ?v aM))) ?uP fN) (bC (bN (bV (cF (c1 (dM 5 [3,4] (iZ (c1 ?h ?v)) ?Bm bT (cF (c1 ?l (c1 ?L c0)) (tf))) c0) lS))) ?uP fN))
  (λse=>∃x,se=[?iU,.sh (?dV),x,.no,.no]) (?IK) rs [?iU,.sh (?dV),.no,.no,.no] ?Tc ?ad
 ·simp only[eU,iA,jA,abL,agn,Slot.jA,look,aia,Rs.aK,hp,abV];show outF (dv _ _ (rs.map λr=>?ur) _)=_;unfold kG;cases hb:rs.any ?IK with
  |true=>rw[hh.1 hb];rfl
  |false=>
   refine ?RK;rw[h1];rfl
 ·rw[e];refine⟨[?iU,.sh (?dV),.sh (eT (afx a)),.no,.no],rfl,?_⟩;have hla:=hr a ha;have e1:(bV (c2 ?cn (cF (c1 ?h c0) aM) (cF ?v aM))) [?Y,some (?dV),?GP,none,none]=.ok (! ?DV):=by
   erw[one];simp only[afx,aR];erw[one];simp;lia
  have e2:(bN (bV (cF (c1 (dM 5 [3,4] (iZ (c1 ?h ?v)) ?Bm bT (cF (c1 ?l (c1 ?L c0)) (tf))) c0) lS))) [?Y,some (?dV),?GP,none,none]=.ok (!(?Qp)):=by
   simp only[bN,bV];rw[vI (l:=a.zip cs) (en:=λx=>.tup [?KJ,eC x.2]) ?i (by
    erw[one];try erw[afx,aR,JK,jI,F4,abV]
    simp only[asS,abV];rfl) (λx hx=>⟨[?Y,some (?dV),?GP,some (?KJ),some (eC x.2)],rfl,~~~(V9)⟩) (by have:=sz;rw[apg];lia)]
   erw[one];rw[IJ (λ(x:Cell)(c:Column)=>c.has x)]
  have ef:akQ cs a=(?DV&&?Qp):=?H
  rw[ef];cases h1:?DV with
  |false=>
   rw[h1]at e1;exact⟨λ_=>Tf ?Xa,nofun⟩
  |true=>
   rw[h1]at e1;rw[rO ?Xa,tU e2];exact⟨λz=>by rw[amV]at z;rw[z];rfl,λz=>by rw[amV]at z;rw[z];exact⟨_,rfl,_,rfl⟩⟩
theorem Kg(h:art t=?F):t=x.tree:=by
 match t,h with
 |?an,h=>cases h;rfl
 |?f w,h=>cases h;rfl
 |?j [],h=>cases h;rfl
 |?j (_::_),h=>show ?w
theorem ia{g:A->Tree}(hf:∀t x,f t=?F->t=g x):∀{l}{m},?GO->l=m.map g
 |[],_,h=>?IH
 |a::r,m,h=>by
  unfold eachOf at h;cases h1:f a with
  |none=>simp_all[h1]
  |some x=>
   cases h2:?Bn with
   |none=>rw[h2]at h;show ?aR
   |some y=>
    rw[h2]at h;have e:=ia hf h2;show ?fs;cases h;rw[e,hf a x h1];rfl
theorem nF(h:amR t=some r):t=afx r:=by
 cases t with
 |list l=>exact congrArg _ (ia (λt x=>Kg) h)
 |_=>show ?w
theorem uV(h:agU t=?bj):t=c.tree:=by
 unfold agU at h;show ?ao
 ·refine ag ?Be λk h1 ajj=>?_;rw[<-ajj];simp[aq0,Ak h1]
 ·show ?ao
  ·rename_i hm;refine ag ?Be λk h1 ajk=>?_;rw[<-ajk];simp_all[aq0,Ak h1]
  ·show ?aR
 ·show ?w
theorem kind_len(h:ahN t=?as):(K4 k).length<=10:=by
 unfold ahN at h;show ?ao
 ·show ?ao
  ·cases h;simp[K4]
  ·show ?w
 ·show ?ao
  ·refine ag ?li λws h1 h=>?_;show ?ao
   ·rename_i z;cases h;exact z.2
   ·show ?w
  ·show ?aR
 ·show ?w
theorem yh(h:agU t=?bj):∃n k r q b,t=?j (?f n::k::r)/\ahN k=?lN/\c=⟨n,q,b⟩:=by
 rcases t with _|_|(_|⟨a,_|⟨k,_|⟨m,_|⟨x,l⟩⟩⟩⟩)
 ·show ?w
 ·show ?w
 ·show ?w
 ·cases a<;>show ?w
 ·show ?mE
  ·show ?w
  ·exact ag ?Be ?OL
  ·show ?w
 ·show ?mE
  ·show ?w
  ·rcases m with _|v|_
   ·show ?w
   ·by_cases hm:(v==Vadtta.wMaybe)=true
    ·exact ag (afv.mp ?Sl) ?OL
    ·exact ?QV
   ·show ?w
  ·show ?w
 ·cases a<;>first|show ?w|(cases m<;>show ?w)
theorem Ao(h:ah_ t=?eH):∃w tn cs rs c r,t=?j (?f w::?f tn::?j cs::rs)/\asL agU cs=?bj/\asL amR rs=some r/\(?Oo)/\T=⟨tn,c,r⟩:=by
 rcases t with _|_|(_|⟨a,l⟩)
 ·show ?w
 ·show ?w
 ·show ?w
 show ?mE
 ·show ?w
 ·rcases l with _|⟨b,l⟩
  ·show ?w
  rcases b with _|tn|_
  ·show ?w
  ·rcases l with _|⟨d,l⟩
   ·show ?w
   rcases d with _|_|cs
   ·show ?w
   ·show ?w
   ·by_cases hm:(w==Vadtta.wTable)=true
    ·refine ag (afu.mp ?Sl) λc h1 h=>ag ?li λr h2 h=>?_;by_cases hb:?Oo
     ·exact⟨w,tn,cs,l,c,r,rfl,h1,h2,hb,(afE ((?uQ).symm.trans h)).symm⟩
     ·exact nn ((?uR).symm.trans h)
    ·exact ?QV
  ·show ?w
 ·show ?w
theorem Ru(hc:agU t=?bj)(h:?ba):Rr c:=by
 have hk:∃k,ahN k=some c.kind:=by obtain⟨n,k,r,q,b,_,h1,e⟩:=yh hc;exact⟨k,e▸h1⟩
 obtain⟨k,hk⟩:=hk;have e:=uV hc;subst e;have hw:=(h.sub (t:=?f c.name) ?ct).1;have hkk:=(h.sub (t:=c.kind.tree) ?hW).1;refine⟨by cases hw;show ?cJ,kind_len hk,λw hw=>?_⟩;cases hkd:c.kind with
 |up n=>rw[hkd]at hw;exact nomatch hw
 |of_ ws=>
  rw[hkd]at hw hkk;have:=(hkk.sub (by simp;exact .inr ⟨w,hw,rfl⟩)).1;cases this;show ?cJ
theorem nG:∀{l}{m},?GO->∀x∈m,∃t∈l,f t=?F
 |[],_,h=>by cases h;intro x hx;show ?fY
 |a::r,m,h=>by
  unfold eachOf at h;cases h1:f a with
  |none=>simp_all[h1]
  |some x=>
   show ?fs;cases h2:?Bn with
   |none=>rw[h2]at h;show ?w
   |some y=>
    rw[h2]at h;cases h;intro z hz;rcases aed.mp hz with rfl|hz
    ·exact⟨a,adP ..,h1⟩
    ·exact ag (nG h2 z hz) λt ht h3=>⟨t,aaV _ ht,h3⟩
theorem yi(h:ah_ t=?eH)(ho:?ba):(∀c∈T.cols,Rr c)/\(∀r∈T.rows,r.length<=5000)/\T.name.length<=20:=by
 obtain⟨w,tn,cs,rs,c,r,rfl,h1,h2,_,rfl⟩:=Ao h;refine⟨?mW,λr hr=>?_,?_⟩
 ·exact ag (nG h1 c hc) λx hx h3=>Ru h3 (((ho.sub ?cf).1).sub hx).1
 ·refine ag (nG h2 r hr) λx hx h3=>?_;have:=nF h3;subst this;have:=(ho.sub (t:=afx r) (by simp[hx])).1.len;show ?fD
 ·have:=(ho.sub (aaV _ ?aS)).1;cases this;show ?cJ
def rP(t:Tree):?k:=match ah_ t with
 |none=>?nB
 |?eH=>if ?rJ=true then .ex (-3)else if ?UX then .ex (-4)else .ok ?em
section
theorem mj{ge:GE}{g3:GF}(h:?dd=?ai)(h2:r=?ai):?Er=r:=by unfold ab eM;rw[h,h2];rfl
#where
theorem BW(h:?ba)(hd:?iV):dG ?gH=rP t:=by
 rw[BJ];refine qa (b:=!(ah_ t).isSome) (by erw[one];rw[GN h hd];erw[one]) (?T) ?T
 ·unfold rP;cases e:ah_ t with
  |none=>rfl
  |some T=>rw[e]at z;show ?nq
 cases e:ah_ t with
 |none=>rw[e]at z;simp at z
 |some T=>
  refine Cu (show t=T.tree/\1<=T.cols.length/\?yb/\T.rows.length<=40 from by
     unfold ah_ at e;show ?aQ
     ·show ?aQ
      ·rename_i hw;simp at hw;refine ag ?uk λcs h1 e=>ag ?uk λrs h2 e=>?_;show ?aQ
       ·rename_i hz;cases e;refine⟨?_,hz.1.1,hz.1.2,hz.2⟩;simp[arW,hw,ia (λt x=>uV) h1,ia ?Lz h2]
       ·show ?er
      ·simp at e
     ·show ?er) λajl h1 h2 h3=>?_
  subst ajl;refine i8 (yi e h) λhc hr hn=>?_;unfold rP;rw[e];show ?bR;have et:eT T.tree=.tup (eT (?f wTable)::?pe::.tup ((T.cols.map aq0).map eT)::?Ek):=by simp[arW]
  rw[et];refine evSet (p:=?gd) ?_ ?_
  ·rw[abV];refine yd ?zA (?ay) (λc E8=>⟨[?bk,none,none,some (?nn)],?H,?_⟩) ?hZ;simp only[aq0,aR,afU,abL];cases hm:c.may
   ·erw[one];simp[U0,eC,hm,Te];rfl
   ·erw[one];simp[U0,eC,hm,Te];rfl
  have ecn:=zy h2 hc;by_cases hb:?rJ=true
  ·rw[?uQ]at ecn⊢;exact mj ?TN rfl
  rw[?uR]at ecn⊢;refine yc (p:=.b_) ?TN (evSet (?ay) ?_);have Rv:=pD (p:=?hQ) rfl h2 hr;by_cases hb:?UX
  ·rw[?uQ]at Rv⊢;exact mj ?wF rfl
  rw[?uR]at Rv⊢;refine yc (p:=.b_) ?wF (?D);erw[one];rfl
def v7(cs:?pQ)(l:?aA):?k:=match eachOf amR l with
 |none=>?nB
 |some rs=>if aoX<rs.length then ?nB else if ?JI then .ex (-4)else .ok (.lst ?bK)
theorem Ek(h:∀t∈l,?ba)(hd:?iV)(hl:?jq)(hc:?Ab):b9 [.lst ?bK,?dV]=v7 cs l:=by
 simp only[D8];have ea:=ye (p:=?fn) rfl (by simp only[Td];simp) h hd hl;rw[<-iY]at ea;refine qa (b:=!(?UW&&(eachOf amR l).isSome)) (by erw[ea]) (?T) ?T
 ·unfold v7;cases e:?us with
  |none=>rfl
  |some rs=>
   rw[e]at z;have:=jW e;simp at z;show ?bR;rw[if_pos (by rw[this];exact z)]
 cases e:?us with
 |none=>rw[e]at z;simp at z
 |some rs=>
  rw[e]at z;simp at z;have hlen:=jW e;have hrt:=ia ?Lz e;unfold v7;rw[e];show ?bR;rw[if_neg (by rw[hlen];show¬40<_;lia)];have Rv:=pD (p:=?fn) (by rw[<-hrt];rfl) hc λr hr=>by refine ag (nG e r hr) λt ht h3=>?_;have:=nF h3;subst this;simpa using(h _ ht).len
  by_cases hb:?JI
  ·rw[?uQ]at Rv⊢;exact mj ?wF rfl
  rw[?uR]at Rv⊢;refine yc ?wF (?D);erw[one];rfl
theorem NZ(ha:amQ a=true)(hb:amQ b=true):bz neg (?dC) (?ru)=?DB:=by
 have:∀x,amQ x=true->A9 ?ag=some ?ag:=λx h=>by
  have:akx ?ag=true:=?Rp
  simp[A9,dat,this]
 delta bz;rw[this a ha,this b hb];have e:(a==b)=?JS:=?H
 simp only[ahm,e];show ?uV
theorem Ap{α:Type}{ft}{gb}{en res:α->PV}(I:?jP)hit:∀(l:?aa)se,(∀a∈l,∀se,I se->∃mP,?sq/\(hit a=true->gb mP=.ok (.rt (res a)))/\(hit a=false->∃ox,?xv/\I ox))->I se->
  (∀a,l.find? hit=?cr->dv ft gb ?hj se=.ok (.rt (res a)))/\(l.find? hit=none->∃se',?vM/\I se')
 |[],se,_,h=>aqh (λa z=>by show ?aD) ?WZ
 |a::r,se,hs,h=>by
  refine aG (hs a ?aS _ h) λmP h1 h2 h3=>?_;have hu:?RJ=gb mP>>=λf=>match f with
    |.nx ox=>?Uo
    |.rt q=>.ok (.rt q):=by
   rw[abL];conv=>lhs;unfold dv
   rw[h1];rfl
  rw[hu,ahu];cases hb:hit a with
  |true=>exact⟨λb z=>by simp_all[h2 hb],λz=>by show ?aD⟩
  |false=>
   refine ?SG;rw[h4];exact Ap I _ r _ ?Ec h5
def findS(s:Store)(x:Str):Option afr:=List.find? (λT=>decide (?uz=x)) s
theorem N0:findS s ?iP=Store.find s w:=by delta findS ajO;congr 1;funext T;rw[acM];simp[kQ]
theorem nH{x}(hx:amQ x=true):aZ [?cW,.lst ?bU]=match findS s x with
  |?eH=>.ok ?em
  |none=>?dN:=by
 rw[xI];have hh:=Ap (ft:=b8 2) (en:=ay) (res:=ay) (gb:=bC (bV (c2 ?G (cU (fl ?q) ?h) ?b)) (ai ?h) fN)
  (λse=>∃y,se=[.sh ?ag,.sh (.lst ?bU),y]) (λT=>decide (?uz=x)) s [.sh _,.sh _,.no] (λa ha se⟨y,e⟩=>?_) ?ad
 ·have ef:∀gb,eU (iA ?x) ?lR _ [.sh ?ag,.sh (?fn),.no]=dv _ gb ?bU _:=?ar;delta findS;cases hf:s.find? _ with
  |some T=>rw[NY ((ef _).trans (hh.1 T hf))];rfl
  |none=>
   refine ag (hh.2 hf) λse' h1 _=>?_;rw[rO ((ef _).trans h1)];rfl
 ·rw[e];refine ?gj;have ht:(bV (c2 ?G (cU (fl ?q) ?h) ?b)) [some ?ag,some (.lst ?bU),some (ay a)]=.ok (decide (sB a.name=x)):=by
   erw[gQ,NZ ?od hx]
  rw[tU ht];exact ?Nq
theorem jX{s:Store}:aZ [eT (?f w),.lst ?bU]=match ?CB with
  |?eH=>.ok ?em
  |none=>?dN:=by
 rw[oH,nH (pB w),N0]
structure aY(T:afr):Prop where
 nm:T.name.length<=20
 c1:1<=T.cols.length
 c6:?yb
 co:∀c∈T.cols,Rr c
 Ct:T.rows.length<=40
 fit:∀r∈T.rows,akQ T.cols r=true
 nd:(?Ev).Nodup
 kd:∀c∈T.cols,(?BK).Nodup
theorem aY.len(h:aY T)(hr:?qe):?wG:=by have:=h.fit r hr;unfold akQ at this;simp only[abk]at this;simpa using ?nV
theorem aY.has(h:aY T)(hr:?qe){i:Nat}(hc:?lk=?bj)(hx:r[i]?=?F):c.has x=true:=by have:=h.fit r hr;unfold akQ at this;rw[abk,adY]at this;refine this.2 (c,x) (agj.mpr ⟨i,?_⟩);rw[anW];exact⟨hc,hx⟩
def cq(T:afr)(c:Bytes):Nat:=(T.colNo c).getD 0
theorem N1{cs:?pQ}:(cs.map λx=>sB x.name).findIdx? (·==sB c)=cs.findIdx? λx=>x.name==c:=by rw[List.findIdx?_map];congr 1;funext x;rw[acM];simp[kQ]
theorem Kh{T:afr}:agV c∈?Rq<->?dW=true:=by delta anm;simp
theorem gw(h6:?yb)(hp:?ol)(hl:?gQ):aF ?vj=if ?ia then .ok (.tup (ns.map λc=>?ew))else ?dN:=by
 simp only[D9];refine evSet (~~~(gR h6)) ?_;have hp2:g6 p=.ok (ns.map λc=>PV.str (sB c)):=by rw[hp];simp
 refine qa (b:=! ?KE) ?_ (?T) ?T
 ·simp only[bN,bV];rw[vI (f:=λc=>?dW) ?ch ?TO (λa ha=>⟨[?Y,some ?em,some (.lst (T.cols.map λc=>?ms)),?Yl],?H,by
   erw[one];rw[(show(T.cols.map λc=>PV.str (sB c.name))=(?Rq).map eT from ?J),<-oH,mf ?i];erw[one];congr 2;rw[acM,decide_eq_true_eq,Kh]⟩) hl]
  rfl
 ·rw[if_neg (?eR)]
 ·have z:?ia:=?eR
  rw[?ek];refine ?D;simp only[cF,c1,c0];rw[yd (e:=λc=>?ew) ?ch ?TO (λa ha=>⟨[?Y,some ?em,some (.lst (T.cols.map λc=>?ms)),?Yl],?H,by
   erw[one];have hs:?TP:=by unfold ag5 at z;exact adY.mp z a ha
   obtain⟨i,hi⟩:=aka.mp hs;try simp only[one,two,E5,wN,uH,vg,opt,E7,w9,wY,Du,k_,yW,beq_self_eq_true,if_true,Bg,mh,N1]
   rw[show(T.cols.findIdx? λx=>x.name==a)=?fQ from hi];simp[cq,hi]⟩) hl]
  rfl
theorem El{is:?aw}(h:∀i∈is,aU p (.int ?bd)=.ok (f i))(hl:is.length<=sizeLine):cR [p,.tup (is.map λ?bd=>?O)]=.ok (.tup (is.map f)):=by simp only[NQ];refine ?D;simp only[cF,c1,c0];rw[yd (e:=f) ?ch rfl (λa ha=>⟨[?Y,?bk,?bk],rfl,h a ha⟩) hl];rfl
theorem BX(hr:?wG)(hc:?dW=true):(r.map ag4)[?rn]?=some (?kQ).tree:=by
 obtain⟨i,hi⟩:=aka.mp hc;have hlt:i<r.length:=by rw[hr];have:=an1.mp hi;exact ?nV
 delta cq afX;rw[hi,show(T.cols.findIdx? _)=?fQ from hi];simp[hlt]
theorem qd(hr:?wG)(hc:?ia)(hl:?gQ):cR [?ur,.tup (ns.map λc=>?ew)]=.ok (eT (?j ((afG T ns r).map ag4))):=by
 have e:(ns.map λc=>PV.int (?rn))=(ns.map ?nQ).map ?cK:=?J
 rw[e,El (f:=λi=>eT ((r.map ag4).getD i (?j []))) (λi hi=>?_) ?oJ]
 ·simp only[aR,abV,afG];congr 2;refine agu λc WO=>?_;have:=?Up;simp only[ai2,ah7,this,aqo]
 ·refine ag (adX.mp hi) λc WO ajm=>?_;subst ajm;have:=?Up;simp only[afx,aR];refine BV ?_;simp only[ad0,ah7,this];rfl
theorem iR(hT:aY T)(hp:?ol)(hl:?gQ)(hc:?ia):bY ?vj=.ok ?MT:=by simp only[zk];refine evSet (by erw[one];rw[gw hT.c6 hp hl,?qm]) (?D);rw[abV];exact yd ?dx ?Fm (λr hr=>⟨_,rfl,~~~(qd (?BL) hc hl)⟩) ?QW
theorem Xb:100000<=sizeLine:=?c
def nI(b:UInt8):Bool:=b==40||b==41
def sg(b:UInt8):Nat:=if(afT b||nI b)=true then b.toNat else if amD b=true then 32 else 63
def tS(t:Bytes):Str:=⟨(?CC).toArray⟩
def eL(t:Bytes):PV:=.lst (t.map ?ww)
def Rw:?jo:=((afs 26).map λi=>(97+i,97+i))++((afs 26).map λi=>(65+i,65+i))++((afs 10).map λi=>(48+i,48+i))++[(45,45),(46,46),(40,40),(41,41),(32,32),(10,32)]
def V_:List (?Bo):=Rw.map λx=>?Ds
theorem IK(n:Nat):∀l:?jo,(lV (l.map λx=>(?Ds:?Bo)) (amL ?cV))=(l.lookup n).map λc=>PV.str ?gm
 |[]=>rfl
 |(a,c)::r=>by
  have ih:=IK n r;unfold lV at ih⊢;simp only[abL,ahu,ahf];by_cases h:n=a
  ·rw[h];simp
  ·have h1:(n==a)=false:=?gf
   have h2:decide ((amL (a):L2.Key)=amL ?cV)=false:=decide_eq_false λe=>h ?a;simp only[h1,h2];exact ih
theorem Ki b:(lV V_ (amL ((b.toNat:Nat):Int))).getD (?Ct)=.str ?JJ:=by
 unfold V_;rw[IK];have h:=((show∀n,n<256->(Rw.lookup n).getD 63=sg ?iG from ?g) _ b.toNat_lt);rw[akK]at h;rw[<-h];cases Rw.lookup _ with
 |none=>rfl
 |some c=>rfl
theorem GP(l:?aw):PySem.Txt.join (aee "") (l.map ?EU)=⟨l.toArray⟩:=by show aqp _ _=_;rw[apv];exact PyProof.Rows.join_ones l
theorem N2(l:?aw):((l.map ?EU).map (·.length)).sum=l.length:=by
 induction l with
 |nil=>rfl
 |cons a r ih=>
  rw[abL,abL,aoV,ih,ad2];show 1+r.length=_;lia
def GQ(l:?jo):List (?Bo):=l.map λx=>?Ds
def putN(l:?jo)(a v:Nat):?jo:=if(?SH)=true then l.map (λx=>if x.1=a then(x.1,v)else x)else l++[(a,v)]
theorem BY l(a v:Nat):F9 (GQ l) (?LA) (.str ⟨#[v]⟩)=GQ (putN l a v):=by
 have h:∀x:Nat×Nat,((amL (x.1):L2.Key)=?LA)<->x.1=a:=λx=>⟨λe=>?M,λe=>?lz⟩;unfold F9 putN GQ;have e1:((l.map λx=>((amL (x.1),PV.str ⟨#[x.2]⟩):?Bo)).any λkv=>decide (kv.1=?LA))=?SH:=by rw[arQ];congr 1;funext x;simp only[ai2,h]
 rw[e1];split
 ·simp only[abV];refine agu λx _=>?_;simp only[ai2,h];split<;>rfl
 ·simp only[afU];rfl
theorem N3:∀(ks:?aw)z l,∃z',putL (cF (c1 ?h c0) Dt) ?h 2 (ks.map λc=>.str ?gm) [?Y,none,z,none] (GQ l)=.ok ([?Y,none,z',none],GQ (ks.foldl ?Xb l))
 |[],z,l=>⟨z,rfl⟩
 |c::ks,z,l=>by obtain⟨z',h⟩:=N3 _ _ _;refine⟨z',?_⟩;rw[abL];unfold putL;simp only[look,aky,akz,akB,aia,Rs.aK,cF,c1];rw[show Dt _=.ok (.int (c))from rfl];simp only[Rs.aK,keyOf,BY];rw[h];rfl
theorem put2(hm:putN (putN l 32 32) 10 32=m):putL ?l ?yo 3 ?xM [?Y,none,z,none] (GQ l)=.ok ([?Y,none,z,some (?vk)],GQ m):=by subst hm;have e:(PV.str (aee " "))=.str ⟨#[32]⟩:=congrArg _ rfl;have h1:=BY l 32 32;have h2:=BY (putN l 32 32) 10 32;unfold putL putL putL;simp only[look,cK,e,aky,akz,akB,aia,Rs.aK,keyOf];simp_all
def aef:?aw:=?NN++((afs 10).map λi=>48+i)++[45,46,40,41]
theorem Rx{dt}(e1:gi1 [?Y,none,none,none]=.ok M1)(e2:putL gk1 SY 2 M1 [?Y,none,none,none] []=.ok (dt,ps1))(e3:gi2 dt=.ok M2)(e4:putL gk2 Vh 3 M2 dt ps1=.ok (env2,O_))(hl:M1.length+M2.length<sizeLine):Af gi1 gk1 SY gi2 gk2 Vh ge [p]=?QB:=by unfold Af;simp_all[e3]
theorem tV(h:?gi):dj ?iS=.ok (.str ?hL):=by
 obtain⟨z',h1⟩:=N3 _ _ [];have h2:=put2 (p:=eL t) (z:=z') (show putN (putN (aef.foldl ?Xb []) 32 32) 10 32=Rw from ?tk);have h3:=Rx (ge:=(cM ?bZ qW ?yJ (c1 (dM 4 [3] (iA ?b) ?fp bT (cG ?x ?l (cK oy))) c0))) (show iA (cK eW) ([some (eL t),none,none,none])=.ok (aef.map λc=>.str ?gm)from ?H) h1 ((rfl:iA (cK iy) ([some (eL t),none,z',none])=.ok ?xM)) h2 (by show 66+2<sizeLine;have:=Xb;lia)
 unfold dj vZ;rw[h3];exact(show(cM ?bZ qW ?yJ (c1 (dM 4 [3] (iA ?b) ?fp bT (cG ?x ?l (cK oy))) c0)) [some (eL t),some (.vf V_),z',some (?vk)]=.ok (.str ?hL)from by
  have hz:=Xb;simp only[Rs.aK,c1];rw[yd (e:=λb=>PV.str ?JJ) ?i ?ko (λb hb=>⟨[?bk,?bk,z',some (.int (b.toNat))],rfl,by
   simp only[onD,opt,cG,look,akB,aia,Rs.aK,oy,keyOf,Ki]⟩) ?a]
  try simp only[one,wN,vg,Rs.aK,yW,qW]
  rw[mh _];simp only[opt];have e:(t.map λb=>(?JJ))=(?CC).map ?EU:=?yR
  rw[e,N2,GP,if_pos (by rw[show(aee "").length=0 from rfl];simp;lia)]
  rfl)
def zz(c:Nat)(z:?aw)(k:Nat):?aw:=if k=c then z else [k]
theorem yj c z:∀l:?aw,c∉l->l.flatMap (zz c z)=l
 |[],_=>rfl
 |k::r,h=>by have h1:¬k=c:=λe=>h (e▸adP ..);rw[af2,yj c z r λm=>h ?uF,zz,if_neg h1];rfl
theorem Em c z:∀parts,(∀p∈parts,c∉p.cps.toList)->(anG ?gm parts).cps.toList.flatMap ?Xc=(anG z parts).cps.toList
 |[],_=>rfl
 |[p],h=>yj c _ _ (h p (afO.mpr rfl))
 |p::y::r,h=>by have ih:=Em c z _ λa ha=>h a ?LO;show(p++⟨_⟩++anG _ _).cps.toList.flatMap _=(p++z++anG z _).cps.toList;simp[aoY,ih,yj c _ _ (h p ?aS),zz]
theorem yk x z c:(apZ x ?gm z).cps.toList=x.cps.toList.flatMap ?Xc:=by rw[PySem.StrLaws.replace_one,<-Em c z _ (PySem.StrLaws.split_free x c),PySem.StrLaws.join_split]
def Pc(b:UInt8):?aw:=if nI b=true then [32,b.toNat,32]else [sg b]
theorem N4 t:uK ?hL=⟨(t.flatMap Pc).toArray⟩:=by
 apply aq1;apply Array.toList_inj.mp;unfold uK;rw[show(aee _)=⟨#[40]⟩from ?H,show(aee ")")=⟨#[41]⟩from ?H,yk,yk];simp only[tS];induction t with
 |nil=>rfl
 |cons b r ih=>
  simp at ih⊢;congr 1;have:=((show∀n:Nat,n<256->(zz 40 ?Bv (sg ?iG)).flatMap (zz 41 [32,41,32])=Pc ?iG from ?c) _ b.toNat_lt);rwa[akK]at this
theorem Kj t:(apZ ?hL "(" " ( ").length<=3*t.length:=by
 have:∀l:?fR,(l.flatMap (zz 40 ?Bv)).length<=3*l.length:=λl=>by
  induction l with
  |nil=>simp
  |cons a r ih=>
   rw[af2,adW,ad2];have:(zz 40 ?Bv a).length<=3:=by unfold zz;split<;>simp
   lia
 have h:=this (?CC);have e:=yk ?hL (aee " ( ") 40;rw[show(aee _).cps.toList=?Bv from rfl]at e;rw[show(aee _)=⟨#[40]⟩from rfl];have e2:=?yF;simp only[akO]at e2;show(apZ _ _ _).cps.size<=_;rw[e2];simpa[tS]using h
theorem N5 t:(uK ?hL).length<=3*t.length:=by
 rw[N4];show(t.flatMap _).toArray.size<=_;rw[afS];induction t with
 |nil=>simp
 |cons a r ih=>
  rw[af2,adW,ad2];have:(Pc a).length<=3:=by unfold Pc;split<;>simp
  lia
def flush(run:Bytes):?cc:=if run=[]then []else [run]
def ml:Bytes->Bytes->?cc
 |run,[]=>?ix
 |run,c::r=>?Mn
theorem N6 run:ml run []=?ix:=rfl
theorem jC run c(r:Bytes):ml run ?ro=?Mn:=rfl
theorem rQ:agZ c=!(amD c||nI c):=rfl
theorem En:∀(r run:Bytes),run≠[]->ml run r=(run++r.takeWhile agZ)::ml [] (r.dropWhile agZ)
 |[],run,h=>by simp[ml,flush,h]
 |c::r,run,h=>by
  simp only[List.takeWhile_cons,List.dropWhile_cons];cases ha:agZ c with
  |true=>
   rw[rQ,afI,aiV]at ha;simp[jC,ha.1,ha.2,En r ?AV _]
  |false=>
   simp only[rQ,amn,agD]at ha;simp;simp only[jC];cases hb:amD c with
   |true=>simp[flush,h]
   |false=>
    have hp:nI c=true:=by simp_all[hb]
    simp[flush,h,hp]
theorem rR:∀f t,t.length<=f->asG f t=ml [] t
 |0,t,h=>by have:t=[]:=ale (?W);subst this;rfl
 |f+1,[],_=>rfl
 |f+1,c::r,h=>by
  show ?aR;simp only[jC];unfold asG;have hpe:(c==40||c==41)=nI c:=rfl;rw[hpe];cases hb:amD c with
  |true=>
   exact~~~(rR f r ?bM)
  |false=>
   cases hp:nI c with
   |true=>
    rw[rR f r ?bM];rfl
   |false=>
    simp[rR f _ (afh (List.dropWhile_sublist _).length_le ?bM),En r [c] ?i]
theorem N7 t:aoi t=ml [] t:=rR _ t ?A
theorem aeg:∀n:Nat,n<256->agZ ?iG=true->anv (sg ?iG)=false:=?c
theorem aeh:∀n:Nat,n<256->amD ?iG=true->Pc ?iG=[32]:=?c
theorem aei:∀n:Nat,n<256->nI ?iG=true->anv n=false/\sg ?iG=n:=?c
theorem Wa:anv 32=true:=rfl
open PySem.KWd (step fin scan)in
theorem BZ:∀(t run:Bytes)(ws:?t),fin ((t.flatMap Pc).foldl step ?AL)=ws++(?CD).map tS
 |[],run,ws=>by
  show fin ?AL=_;unfold fin ml flush;have:?Sm:=?yr
  simp only[this];cases run with
  |nil=>simp
  |cons a r=>simp
 |c::r,run,ws=>by
  have hl:?Sm:=?yr
  have K5:∀k,anv k=true->step ?AL k=(ws++(?ix).map tS,tS []):=λk hk=>by
   unfold step flush;rw[?jH];simp only[hl];cases run with
   |nil=>simp
   |cons a s=>simp;rfl
  rw[af2,aoD,jC];cases hb:amD c with
  |true=>
   have he:=aeh c.toNat c.toNat_lt (by rw[akK];exact hb);rw[akK]at he;rw[he,?bV];show ?uc;rw[K5 32 Wa,BZ r [] _,afU,akJ]
  |false=>
   rw[if_neg (?c)];cases hp:nI c with
   |true=>
    have he:=aei c.toNat c.toNat_lt (by rw[akK];exact hp);rw[akK]at he;rw[?bV,show Pc c=[32,c.toNat,32]from ?TQ];show ?uc;rw[K5 32 Wa];have e1:step (ws++(?ix).map tS,tS []) c.toNat=(ws++(?ix).map tS,tS [c]):=by unfold step;rw[he.1,if_neg (?c)];simp only[tS,abL,agn,he.2];rfl
    have e2:step (ws++(?ix).map tS,tS [c]) 32=(ws++(?ix).map tS++[tS [c]],tS []):=by unfold step;rw[if_pos Wa,if_neg (?yr)];rfl
    rw[e1,e2,BZ r [] _,afU,abL];simp only[akJ,anw]
   |false=>
    have ha:agZ c=true:=by rw[rQ,hb,hp];rfl
    have he:=aeg c.toNat c.toNat_lt (by rw[akK];exact ha);rw[akK]at he;rw[if_neg (?c),show Pc c=[sg c]from ?TQ];show ?uc;have e1:step ?AL (sg c)=(ws,tS ?AV):=by unfold step;rw[he,if_neg (?c)];refine congrArg (Prod.mk ws) (aq1 ?_);simp[tS,aoY]
    rw[e1,BZ r ?AV ws]
theorem IL t:PySem.Txt.words (uK ?hL)=(aoi t).map tS:=by simp only[PySem.KWd.words_scan,N4,N7];have:=BZ t [] [];exact~~~(this)
def GR(p:Bytes):Prop:=p=[40]\/p=[41]\/(p≠[]/\?yS)
theorem B0:∀t run,run.all agZ=true->(∀p∈?CD,GR p)/\(?CD).length<=?Xd
 |[],run,h=>by
  unfold ml flush;cases run with
  |nil=>simp
  |cons a r=>
   refine⟨?dc,?J⟩;simp at hp;subst hp;exact .inr (.inr ⟨?J,h⟩)
 |c::r,run,h=>by
  have hf:(∀p∈?ix,GR p)/\(?ix).length<=run.length:=by
   unfold flush;cases run with
   |nil=>simp
   |cons a s=>
    refine⟨?dc,?J⟩;simp at hp;subst hp;exact .inr (.inr ⟨?J,h⟩)
  simp only[jC];obtain⟨i1,i2⟩:=B0 r [] rfl;split
  ·refine⟨?dc,?VY⟩;show ?GQ
   ·exact hf.1 p hp
   ·exact i1 p hp
  ·rename_i hb;split
   ·rename_i hp;refine⟨λp hm=>?_,?VY⟩;rcases afC.mp hm with hm|hm
    ·exact hf.1 p hm
    ·show ?Gd
     ·unfold nI at hp;simp at hp;rcases hp with rfl|rfl
      ·exact ?y
      ·exact .inr (?y)
     ·exact i1 p hm
   ·rename_i hp;obtain⟨j1,j2⟩:=B0 r ?AV (by
     simp only[aof,h];simp[rQ];exact⟨?ds,by simpa using hp⟩)
    exact⟨j1,by simp at j2⊢;lia⟩
theorem GU t:(∀p∈aoi t,GR p)/\(aoi t).length<=t.length:=by rw[N7];have:=B0 t [] rfl;show ?fD
theorem Eo{P:UInt8->Prop}(h:∀n:Nat,n<256->P ?iG)b:P b:=by have:=h _ b.toNat_lt;simp_all
theorem N8 b:?NV:=Eo (P:=λb=>?NV) (?c) b
def aej:?aw:=?NN
theorem Ep b:?Pn:=Eo (P:=λb=>?Pn) (?c) b
theorem GV b:?Po:=Eo (P:=λb=>?Po) (?c) b
theorem N9 b:?Qb:=Eo (P:=λb=>?Qb) (?c) b
theorem N_(h:p.all afT=true):tS p=sB p:=by unfold tS sB;congr 2;refine agu λb hb=>(by unfold sg;rw[(adY.mp h b hb)];rfl)
theorem yl p:(tS p).length=p.length:=?yr
theorem Oa p:amQ (tS p)=true:=by
 simp only[amQ,tS];rw[<-aqn];simp only[adY,adX];refineλx Tg=>ag Tg λb _ aek=>?_;clear Tg;subst aek;have:=(show sg b<256 from by
  have:=b.toNat_lt;unfold sg;split
  ·show ?eM
  ·split<;>lia)
 lia
theorem Ob(h:?XK):aM [?cW]=?XL:=?uZ
theorem Oc:∀(r:Bytes)n,n*10^r.length<=r.foldl (λ?iH b=>?xO) n
 |[],n=>?J
 |b::r,n=>by simp only[ad2,Nat.pow_succ];have:=Oc r (?xO);refine afh ?_ this;simp[Nat.add_mul,Nat.mul_assoc,Nat.mul_comm 10]
theorem IP:∀(r:Bytes)n,(r.map apY).foldl (λacc c=>acc*10+(c-48)) n=r.foldl (λ?iH b=>?xO) n
 |[],n=>rfl
 |b::r,n=>by rw[abL,ah0,ah0,IP r,Nat.mul_comm n 10]
theorem Ry x:aoZ x "0"=decide (x.cps.toList[0]?=some 48):=by
 have h:=PySem.StrLaws.subAt_one x 48 0;unfold aoZ
 rw[acM,abk,decide_eq_true_eq,decide_eq_true_eq];exact h
theorem IQ:inS neg ?gm x=(neg !=decide (c∈x.cps.toList)):=by unfold inS;rw[PySem.StrLaws.found_one];show ?uV
theorem Er{p:Bytes}(hp:p≠[])(ha:?yS)(hl:?IL):kB [?pR]=match akF p with
  |?cr=>.ok (eT a)
  |none=>?eC:=by
 simp only[Ed];refine fW (b:=p.all alf) (by erw[one];simp only[wN,opt,FP,w9,if_true,F5];rw[(show arX (tS p)=p.all alf from by
    unfold arX;have h1:decide ((tS p).length>0)=true:=by
     rw[yl];cases p with
     |nil=>exact ?pv
     |cons a r=>simp
    simp only[h1,amV];rw[<-aqn];simp only[tS,aox];congr 1;funext b;exact(Eo (P:=λb=>PySem.Unicode.isDigit _=alf b) (?c) b))];rfl) (?T) λz=>?D
 ·refine~~~(show iM [?pR]=if(ako p&&decide (?IM))=true then .ok (.int ?LB)else ?eC from by
    have hz:=Xb;have hdb:∀b∈p,alf b=true:=adY.mp z;have he:tS p=sB p:=N_ (adY.mpr λb hb=>(N8 b (hdb b hb)).1);have hz0:sB p=aee "0"<->p=[48]:=by rw[show aee "0"=sB [48]from ?g,kQ]
    have hst:aoZ (sB p) "0"=?Td:=by
     rw[Ry];congr 1;apply propext;cases p with
     |nil=>exact ?pv
     |cons a r=>
      simp only[sB,abL,aia,Option.some.injEq,List.head?_cons];exact⟨λe=>aph e,λe=>by rw[e];rfl⟩
    rw[he,zq];refine qa (b:=decide (7<p.length)) (by erw[one];rw[Ob ?aj];erw[one];rw[ya];congr 1;rw[acM];simp;lia) (?T) ?T
    ·have z:=?hX;rw[if_neg];intro h;rw[abk,decide_eq_true_eq]at h;cases p with
     |nil=>exact ?pv
     |cons c r=>
      cases r with
      |nil=>simp at z
      |cons d r=>
       have h1:=h.1;simp only[ako,abk,bne_iff_ne,ne_eq]at h1;have h2:=Oc (d::r) ?Ac;have h3:alg (c::d::r)=(d::r).foldl (λ?iH b=>?xO) ?Ac:=by show List.foldl _ (10*0+?Ac) (d::r)=_;congr 1;lia
       rw[h3]at h;have h4:=(N8 c h1.1).2;have h5:c.toNat≠48:=λe=>h1.2.1 (aph e);have h6:10^7<=10^(d::r).length:=aq2 (?c) (by simp at z⊢;lia);have h7:1*10^7<=?Ac*10^(d::r).length:=Nat.mul_le_mul ?a h6;have:=h.2;lia
    have z:p.length<=7:=?eR
    refine qa (b:=?Td&&decide (p≠[48])) ?_ (?nA) ?nA
    ·erw[one];try erw[yW,beq_self_eq_true,if_true,Bh,hst,Rs.aK]
     rw[NZ ?od (?g)];erw[one];congr 2;rw[acM];simp[hz0]
    ·rw[if_neg];intro h;rw[abk]at h z2;cases p with
     |nil=>exact ?pv
     |cons c r=>
      cases r with
      |nil=>
       have a:=?Uq;have b:=of_decide_eq_true z2.2;simp at a;exact b (by rw[a])
      |cons d r=>
       have a:=?Uq;simp at a;subst a;have h1:=h.1;simp[ako]at h1
    have jA:ako p=true:=by
     cases p with
     |nil=>exact ?pv
     |cons c r=>
      cases r with
      |nil=>exact hdb c ?i
      |cons d r=>
       simp only[ako,abk,bne_iff_ne];refine⟨hdb c ?i,λe=>?_,adY.mpr λb hb=>hdb b (?BX)⟩;subst e;simp at z2
    have hint:aqW (sB p)=some (?LB:Int):=by
     have h:=PySem.intText_digits (x:=sB p) (λc hc=>by simp only[sB,adX]at hc;refine ag hc λb hb ael=>?_;clear hc;subst ael;exact(N8 b (hdb b hb)).2) (by simp[sB,hp]) ?aj
     rw[h];congr 2;exact IP p 0
    refine evSet (p:=.int ?LB) (by erw[one];erw[U2,hint];rw[if_pos ?aj]) ?_;rw[jA,amV];refine qa (b:=!decide (?IM)) (by erw[one];congr 1;rw[acM];simp;lia) (?T) λz=>?D
    ·rw[if_neg (?eR)]
    ·erw[one];rw[if_pos (?eR)]).trans ?_
  unfold akF;have hnw:amW p=false:=by
   cases p with
   |nil=>rfl
   |cons c r=>
    cases hc:amK c with
    |false=>simp[amW,hc]
    |true=>
     have h1:=adY.mp z c ?i;rw[(GV c hc).2]at h1;simp at h1
  rw[hnw];cases ako p with
  |false=>rfl
  |true=>
   simp only[amV,if_true,decide_eq_true_eq];by_cases hv:?IM
   ·rw[if_pos hv,if_pos (show alg p<=as_ from hv)];simp
   ·rw[if_neg hv,if_neg (show¬alg p<=as_ from hv)]
 ·refine~~~(show kA [?pR]=if amW p=true then .ok (.str (sB p))else ?eC from by
    have hz:=Xb;have hab:=adY.mp ha;cases p with
    |nil=>exact ?pv
    |cons c r=>
     simp only[Ec];have hix:aU (.str (tS ?ro)) ?ns=.ok (.str ⟨#[sg c]⟩):=by simp only[aU,UI];rw[if_pos (?JK),show L2.zU (tS ?ro).cps.toList 0=some (sg c)from L2.A0 (?H)];rfl
     have ajo:(aee ?CV).cps.toList=aej:=?H
     have ajp:decide (63∈(tS ?ro).cps.toList)=!(c::r).all afT:=by
      rw[acM,decide_eq_true_eq,afI,<-akW,adY];simp only[tS,adX];show ?cI
      ·refineλaem h=>ag aem λb hb e=>?_;have:=(Ep b (hab b hb)).mp e;rw[h b hb]at this;show ?iT
      ·refineλh=>apP λhn=>h ?hl;cases hw:afT b with
       |true=>rfl
       |false=>exact absurd ⟨b,hb,(Ep b (hab b hb)).mpr hw⟩ hn
     have hw:?No:=rfl;refine qa (b:=!amW ?ro) ?_ (?T) λz=>?D
     ·erw[one];rw[Ob (?JK),hix];erw[one];simp only[jK,IQ,ajo,(λb=>Eo (P:=λb=>decide (sg b∈aej)=amK b) (?g) b)];rw[show(aee "?")=⟨#[63]⟩from ?H,IQ,ajp];erw[one];rw[yl,hw];congr 1;cases hc:amK c with
      |false=>simp
      |true=>
       rw[aik,(GV c hc).1,acM];simp only[ad2,amV,agD,decide_eq_true_eq,afI,Bool.and_eq_false_iff,decide_eq_false_iff_not,arq,ahn,false_or];rw[or_comm];refine or_congr Iff.rfl ?_;lia
     ·rw[if_neg (?eR)]
     ·have z:amW ?ro=true:=?eR
      rw[?ek];erw[one];rw[hw,abk,abk]at z;rw[N_ (by simp only[aik,(GV c z.1).1,?hM];rfl)]).trans ?_
  unfold akF;have hnd:ako p=false:=by
   cases hi:ako p with
   |false=>rfl
   |true=>
    have:p.all alf=true:=by
     cases p with
     |nil=>rfl
     |cons c r=>
      cases r with
      |nil=>simpa[ako]using hi
      |cons d r=>
       simp only[ako,abk]at hi;simp only[aik,hi.1,hi.2.2];rfl
    rw[this]at z;simp at z
  rw[hnd];show ?sI;split<;>simp
def JA(two:Bool):?aA:=if two then [?f wOne,?f wTwo]else [?f wCol]
def zT(two:Bool):PV:=.tup ((JA two).map eT)
theorem Es{l:?aA}(hF:∀t∈l,F [eT t,h]=.ok (.bl (g t)))(hl:?gS):gP F [.tup ?bK,h]=.ok (.bl (l.all g)):=by simp only[pY];exact ao (vI ?dx rfl (λa ha=>⟨_,rfl,hF a ha⟩) hl)
theorem Wb(h:?iF):jK neg ?iQ ?Ym=.ok (.bl (neg !=?Rr)):=by refine~~~(show jK neg _ _=_ from V2 (l:=?aE) h rfl).trans ?_;simp
theorem Rz(h:?iF):jK neg ?iQ (.tup [eT a,eT b,eT c])=.ok (.bl (neg !=(decide (t=a)||(decide (t=b)||decide (t=c))))):=by refine~~~(show jK neg _ _=_ from V2 (l:=?lG) h rfl).trans ?_;simp
theorem B1{α β γ:Type}{o:?dL}{p:Option β}{f:α->β->γ}:(o.bind λa=>p.map ?dF).isSome=(o.isSome&&p.isSome):=by rcases o with _|_<;>rcases p with _|_<;>rfl
theorem aen{two}(z:a=?f wWord\/a∈JA two):(afK two (?j (?nG))).isSome=(pC b&&r.isEmpty):=by
 rcases two with _|_
 ·rcases z with rfl|z
  ·show ?rK
  ·obtain rfl:=afO.mp z;show ?rK
 ·rcases z with rfl|z
  ·show ?rK
  ·rcases aed.mp z with rfl|z
   ·show ?rK
   ·obtain rfl:=afO.mp z;show ?rK
theorem Wc{two}(z1:a≠?f wWord)(z2:a∉JA two):(afK two (?j ?aE)).isSome=false:=by
 show ?mE
 ·rfl
 ·rcases b with _|x|_
  ·rfl
  ·have e:∀{x},agV w≠?f x->(w==x)=false:=λh=>beq_eq_false_iff_ne.mpr λe=>h (?lz);rcases two with _|_
   ·show(if(w==wWord)=true then _ else if(w==wCol)=true then _ else none).isSome=false;rw[e z1,e λz=>z2 (afO.mpr z)];rfl
   ·show(if(w==wWord)=true then _ else if(w==wOne)=true then _ else if(w==wTwo)=true then _ else none).isSome=false;rw[e z1,e λz=>z2 (aed.mpr (?dl)),e λz=>z2 (aed.mpr (.inr (afO.mpr z)))];rfl
  ·rfl
 ·rfl
theorem Od{two}:(afK two (?j ?lG)).isSome=((decide (a=?f wAdd)||decide (a=?f wSub))&&((?no).isSome&&(afK two c).isSome)):=by
 show ?mE
 ·rfl
 ·by_cases h1:w=wAdd
  ·rw[h1];have e:afK two (?j [?f wAdd,b,c])=(?no).bind λx=>(afK two c).map (Exp.add x):=by show ?kX<;>rfl
   rw[e];exact B1
  ·by_cases h2:w=wSub
   ·rw[h2];have e:afK two (?j [?f wSub,b,c])=(?no).bind λx=>(afK two c).map (Exp.sub x):=by show ?kX<;>rfl
    rw[e];exact B1
   ·rw[decide_eq_false λe=>h1 (?W),decide_eq_false λe=>h2 (?W)];have e:∀{x y:Option Exp},(if(w==wAdd)=true then x else if(w==wSub)=true then y else none).isSome=false:=?W
    show ?kX<;>exact e
 ·rfl
theorem Oe{two}n:∀d t,?ba->d<n->?iV->cy n ?zB=.ok (.bl ?oS):=by
 induction n with
 |zero=>exactλd t h hn=>?oY
 |succ n ih=>
  intro d t h hn hd;show je (cy n) _=_;rw[vA];rcases t with m|w|l
  ·rfl
  ·exact kb rfl (?hq)
  rcases l with _|⟨a,_|⟨b,r⟩⟩
  ·exact kb rfl (?hq)
  ·exact kb rfl (iW rfl (by show ?pE<;>rfl))
  ·have ha:?qX:=by have:=(h.sub (t:=a) ?i).1.dp;lia
   have hm:∀t∈b::r,Ok ?bQ t:=λt ht=>(h.sub (t:=t) (aaV _ ht)).2;have hd0:1<=d:=?eY
   clear h;rw[aR];refine kb rfl (kb (?H) (fW (b:=decide (a=?f wWord)||decide (a∈JA two)) (by erw[one];rw[mQ ha ?i,zT,p9 ha];erw[one]) (?T) λz=>?D))
   ·erw[one];show ?PO;have e2:decide (((?nt).length+1+1:Nat)=(2:Int))=r.isEmpty:=by rcases r with _|_<;>simp;lia
    rw[e2,aen z];try exact congrArg ?et (asM _ _)
   ·rw[aiV,decide_eq_false_iff_not,decide_eq_false_iff_not]at z;erw[one];rw[Wb ha];rcases r with _|⟨c,_|⟨e,s⟩⟩
    ·rw[Wc z.1 z.2];erw[one];generalize(?Ad||?Ad)=q;rcases q with _|_<;>rfl
    ·have e3:=Es (F:=cy n) (l:=[b,c]) (h:=zT two) (λt ht=>ih ?bQ t (hm t ht) ?a ?a) ?EG;simp only[abL,agn]at e3⊢;rw[e3,Od];erw[one];simp
    ·have h3:decide ((((s.map eT).length+1+1+1+1:Nat):Int)=3)=false:=?H
     have e:(afK two (?j (a::b::c::e::s))).isSome=false:=by
      show ?pE
      ·rfl
      ·show ?kX<;>rfl
      ·rfl
     rw[e];erw[one];simp only[h3];generalize(?Ad||?Ad)=q;rcases q with _|_<;>rfl
theorem We{two}(h:?ba)(hd:?gK):mH ?zB=.ok (.bl ?oS):=Oe 41 d t h ?a ?a
theorem GW{two}{l:?aA}(h:∀t∈l,?ba)(hd:?gK)(hl:?jq):ez [.tup ?bK,zT two]=.ok (.bl (l.all λt=>?oS)):=Es (λt ht=>We (h t ht) hd) ?hZ
theorem rS{two}:∀l,(anH two l).isSome=l.all λt=>?oT
 |[]=>?H
 |a::r=>by simp only[anH,aik,<-rS r];cases aha _ a<;>cases anH _ r<;>rfl
section
abbrev RA(two:Bool)(w:Bytes)(r:?aA):Bool:=(aha two (?j (?f w::r))).isSome
theorem Th{two}(z:w=wLess\/w=wSame):RA two w r=(?Xe&&r.all λt=>?oS):=by
 rcases r with _|⟨x,_|⟨y,_|⟨_,_⟩⟩⟩
 ·show ?th<;>rfl
 ·show ?th<;>rfl
 ·have e:∀{f:Exp->Exp->Cond},((afK two x).bind λa=>(afK two y).map ?dF).isSome=(decide ([x,y].length=2)&&[x,y].all λt=>?oS):=by
   intro f;rw[B1];show _=((afK _ x).isSome&&((afK _ y).isSome&&true));rw[aob]
  show ?th<;>exact e
 ·show ?th<;>rfl
theorem RB{two}:RA two wGone r=(?xu&&r.all λt=>?oS):=by
 show ?VZ
 ·rfl
 ·show((afK _ x).map _).isSome=((afK _ x).isSome&&true);simp
 ·rfl
theorem Of{two}:RA two wNot r=(?xu&&r.all λt=>?oT):=by
 show ?VZ
 ·rfl
 ·show((aha _ x).map _).isSome=((aha _ x).isSome&&true);simp
 ·rfl
theorem Ti{two}{w}{r}(z:w=wAnd\/w=wOr):RA two w r=r.all λt=>?oT:=by
 rw[<-rS];show ?th
 ·unfold RA aha;exact alx
 ·unfold RA aha;exact alx
#where
theorem Kk{two}n:∀d t,?ba->d<n->?gK->dn n ?zB=.ok (.bl ?oT):=by
 induction n with
 |zero=>exactλd t h hn=>?oY
 |succ n ih=>
  intro d t h hn hd;show jM (dn n) _=_;rw[xJ];rcases t with m|w|l
  ·exact ?hq
  ·exact ?hq
  rcases l with _|⟨a,r⟩
  ·exact ?hq
  ·have ha:?qX:=by have:=(h.sub (t:=a) ?i).1.dp;lia
   have hl:=h.len;simp at hl;have hd0:1<=d:=?eY
   have hm:∀t∈r,Ok ?bQ t:=λt ht=>(?Sk).2;have ea:=GW (two:=two) hm ?a ?a;have DK:decide ((((?nt).length:Nat):Int)=1)=?xu:=?Dp
   have Nf:decide ((((?nt).length:Nat):Int)=2)=?Xe:=?Dp
   clear h;rw[aR];refine kb (by erw[one];simp[eh];lia) (evSet (p:=?mw) (?hh) (fW (b:=decide (a=?f wLess)||decide (a=?f wSame)) (by erw[one];rw[Wb ha];erw[one]) (?T) λz1=>?_))
   ·erw[one];rw[ea,Nf];erw[one];show ?PO;rcases z with z|z
    ·rw[z];exact congrArg ?et (Th (?y)).symm
    ·rw[z];exact congrArg ?et (Th (?dz)).symm
   refine fW (b:=decide (a=?f wGone)) (by erw[one];rw[mQ ha ?i];erw[one]) (?T) ?nA
   ·erw[one];rw[ea,DK];erw[one];rw[?hX];exact congrArg ?et RB.symm
   refine fW (b:=decide (a=?f wNot)&&! ?xu) (by erw[one];rw[mQ ha ?i];erw[one];rw[DK]) (?T) λz3=>?D
   ·show Rs.ok _=_;rw[abk,decide_eq_true_eq,afI]at z;rw[z.1];refine akT ?_ (congrArg ?et Of.symm);rw[z.2];rfl
   ·have e9:=vI (n:=4) (own:=[3]) (gi:=iA ?h) (ft:=bu 3) (ge:=cF (c1 ?l ?v) (dn n)) (env:=full [.sh (.tup (eT a::?nt)),.sh (zT two),.sh (?mw),.no]) (l:=r) (en:=eT) (f:=λt=>?oT) ?ch rfl (λx hx=>⟨_,?ay,by erw[one];exact ih ?bQ x (hm x hx) ?a ?a⟩) ?hZ;show P7 _ _=_;rw[show(([Slot.sh (PV.tup (aqq eT (a::r))),.sh (zT two),.no,.no]:SE).set 2 (.sh (?mw)))=[.sh (.tup (eT a::?nt)),.sh (zT two),.sh (?mw),.no]from rfl,e9];erw[one];rw[Rz ha];erw[one];rw[aiV,decide_eq_false_iff_not,decide_eq_false_iff_not]at z1;have z2:=?UY;show ?mE
    ·rfl
    ·have ne:∀{x},¬agV w=?f x->w≠x:=λz e=>z (?lz);refine congrArg ?et (?_:_=RA two w r);by_cases h4:w=wAnd
     ·rw[h4,Ti (?y),?Gj,aqv];rfl
     by_cases h5:w=wOr
     ·rw[h5,Ti (?dz),decide_eq_true (rfl:agV wOr=?f wOr),aqv,aqC];rfl
     by_cases h6:w=wNot
     ·rw[h6,decide_eq_true (rfl:agV wNot=?f wNot),amV,amn]at z3;rw[h6,Of,decide_eq_true (rfl:agV wNot=?f wNot),aqC,aqC,z3]
     ·rw[(show RA two w r=false from by have e:∀{x y:Bytes},x≠y->(x==y)=false:=λh=>?wm;unfold RA aha;simp_all),decide_eq_false (λe=>h4 ?Ht),decide_eq_false (λe=>h5 ?Ht),decide_eq_false (λe=>h6 ?Ht)];rfl
    ·rfl
theorem IS{two}(h:?ba)(hd:?gK):eN ?zB=.ok (.bl ?oT):=Kk 41 d t h ?a ?bM
open Vadtta (Tree)
theorem oI{x:GE}(h:x e=.ok (?bP)):bV x e=?dq:=congrArg (·>>=zZ) h
theorem bNe{t:GB}(h:t e=?dq):bN t e=.ok (!b):=?xq
theorem bOe{s t:GB}(h:s e=?dq)(k:t e=.ok c):bO s t e=.ok (b||c):=by delta bO;rw[h,k];show ?nN
theorem Xc{x y:GE}(h:x e=.ok (?bP))(k:y e=.ok (.bl c)):cA x y e=.ok (.bl (b&&c)):=by delta cA;rw[h,k];show ?nN
theorem Fb{g:GE}(ha:g e=?dE)(h:gs e=.ok l):c1 g gs e=.ok (a::l):=by show(g e>>=λ_=>gs e>>=_)=_;rw[ha,h];rfl
theorem cFe{gs:GS}(h:gs e=.ok l):cF gs F e=F l:=?Xf
theorem sC{g1:GE}(ha:g1 e=?dE)(h:F [a]=r):cF (c1 g1 c0) F e=r:=(cFe (Fb ha rfl)).trans h
theorem sD{g1 g2:GE}(ha:g1 e=?dE)(hb:g2 e=?dq)(h:F ?aE=r):cF (c1 g1 (c1 g2 c0)) F e=r:=(cFe (Fb ha (Fb hb rfl))).trans h
theorem Wf{g1 g2 g3:GE}(ha:g1 e=?dE)(hb:g2 e=?dq)(hc:g3 e=.ok c)(h:F ?lG=r):cF (c1 g1 (c1 g2 (c1 g3 c0))) F e=r:=(cFe (Fb ha (Fb hb (Fb hc rfl)))).trans h
theorem Xd{g1 g2 g3 g4:GE}(ha:g1 e=?dE)(hb:g2 e=?dq)(hc:g3 e=.ok c)(hd:g4 e=.ok d)(h:F [a,b,c,d]=r):cF (c1 g1 (c1 g2 (c1 g3 (c1 g4 c0)))) F e=r:=(cFe (Fb ha (Fb hb (Fb hc (Fb hd rfl))))).trans h
theorem aeo{g:GE}(h:g e=.ok ?JF):c2 aU g ?ab e=.ok x:=(?xq).trans ix0
theorem aep{g:GE}(h:g e=.ok (.tup (y::x::r))):c2 aU g ?ac e=.ok x:=(?xq).trans ix1
theorem RC{g:GE}(h:g e=.ok (.tup (z::y::x::r))):c2 aU g ?aG e=.ok x:=(?xq).trans ix2
theorem rT{g1 g2:GE}(ha:g1 e=?dE)(hb:g2 e=?dq)(h:F a b=r):c2 F g1 g2 e=r:=by show(g1 e>>=λ_=>g2 e>>=_)=r;rw[ha,hb];exact h
theorem Xe{g:GE}(h:g e=?bC)(k:g6 p=r):iA g e=r:=(congrArg (·>>=g6) h).trans k
theorem iEe{gs:GS}(h:gs e=.ok l)(k:qQ l=r):iE gs e=r:=(congrArg (·>>=qQ) h).trans k
theorem cIe{t:GB}{x y:GE}(h:t e=?dq)(k:?dQ->x e=r)(l:b=false->y e=r):cI t x y e=r:=by
 delta cI;rw[h];cases b
 ·exact l rfl
 ·exact k rfl
theorem bAe{s t:GB}(h:s e=?dq)(k:t e=.ok c):bA s t e=.ok (b&&c):=by delta bA;rw[h,k];show ?nN
theorem eqf(h:?qX):bz false (eT a) (eT (?f w))=.ok (.bl (decide (a=?f w))):=by rw[mQ h (?bg),aoF]
theorem aer(h:?iF):jK false ?iQ ?Ym=.ok (.bl ?Rr):=(V2 (l:=?aE) h rfl).trans ?i
theorem kI{gt:GB}{ge:GE}{g3:GF}(h:?my)(ht:gt ?bA=?nh:=by kernel_rfl):?rO:=kb ht h
theorem Kl{gt:GB}{ge:GE}{g3:GF}(h:ge ?bA=r)(ht:gt ?bA=?iE:=by kernel_rfl):?rO:=iW ht h
def jf:?uq
 |?j l=>?gx
 |_=>false
theorem jY(h:?ba):cZ ?gH=.ok (.bl (jf t)):=by
 refine ?D;match t,h with
 |?an,h=>rfl
 |?f n,h=>rfl
 |?j l,h=>
  have:=h.len;erw[aR];exact~~~(uU ?hZ)
theorem B2(h:?ba)(hd:?iV):jr ?gH=.ok (.bl (ano t).isSome):=by
 rw[BK];have hp:=h.dp;refine fW (b:=decide (t=?j [?f wCount])) (by erw[one];rw[Eg (b:=?j [?f wCount]) ?a (?c) ?i];erw[one]) (?T) λz=>?D
 ·have z:=?hX;subst z;simp[ano]
 ·show ?sj;match t,h with
  |?an,h=>rfl
  |?f n,h=>rfl
  |?j [],h=>rfl
  |?j [a],h=>
   refine akT (b:=Rs.ok ?la) ?ak (congrArg ?et ?_);cases a with
   |word w=>exact congrArg ap8 (show ano (?j [?f w])=none from if_neg λe=>z ?Wa).symm
   |_=>rfl
  |?j ?aE,h=>
   have ha:=(h.sub (t:=a) ?ct).1.dp;by_cases q:a=?f wSum
   ·subst q;cases b<;>kernel_rfl
   ·refine akT (b:=Rs.ok ?la) ?_ (congrArg ?et (congrArg ap8 (show ano (?j ?aE)=none from ?_)).symm)
    ·erw[one];simp only[aR,abL,agn];erw[one];rw[mQ ?a (?bg),decide_eq_false q];rfl
    ·cases a with
     |word w=>
      cases b with
      |word v=>exact if_neg λe=>q ?Wa
      |_=>rfl
     |_=>rfl
  |?j ?kZ,h=>
   refine akT (b:=Rs.ok ?la) ?ak (congrArg ?et ?_);cases a with
   |word w=>show ?nN
   |_=>rfl
def Wg(c:Tree)(r:?aA):Bool:=match r with
 |[u,e]=>?Yn&&(match c,e with
  |?j l,?j m=>?VX&&decide (l.length=m.length)
  |_,_=>false)
 |_=>false
def RD(c:Tree)(r:?aA):Bool:=match r with
 |[s,lo,hi]=>jf c&&?IT&&(W6 lo&&W6 hi)
 |_=>false
theorem tW(h:?gx=false):?ph=none:=by rw[iX,h];rfl
theorem rV(h:?gx=true):?ph=some (l.map wd):=by rw[iX,h];rfl
section
abbrev clS(w t:Bytes)(c:Tree)(r:?aA):Bool:=(aib (?j (?f w::?f t::c::r))).isSome
theorem aes(z:(decide (a=?f wEach)||decide (a=?f wAny))=true):(r.isEmpty&&(aha false c).isSome)=(aib (?j (a::?f t::c::r))).isSome:=?Mi
theorem aet(z:(decide (a=?f wPairs)||decide (a=?f wNext))=true):(r.isEmpty&&(aha true c).isSome)=(aib (?j (a::?f t::c::r))).isSome:=?Mi
theorem Wh:clS wKey t c r=(r.isEmpty&&jf c):=by
 rcases r with _|⟨_,_⟩
 ·show ?dY
  ·rfl
  ·rfl
  ·exact alx.trans Kd
 ·show ?dY<;>rfl
theorem Og:clS wFixes t c r=(match r with
 |[e]=>jf c&&jf e
 |_=>false):=by
 rcases r with _|⟨e,_|⟨_,_⟩⟩
 ·show ?dY<;>rfl
 ·show ?dY
  ·rfl
  ·rfl
  ·rcases e with _|_|m
   ·exact ?pU
   ·exact ?pU
   ·exact(show((?ph).bind λcs=>(eachOf wordOf m).map λds=>(Claim.fixes t) cs ds).isSome=(?gx&&m.all pC)from by simp only[iX];cases ?vu<;>cases m.all _<;>simp)
 ·show ?dY
  ·rfl
  ·rfl
  ·rcases e with _|_|m<;>rfl
theorem Km:clS wRefers t c r=Wg c r:=by
 rcases r with _|⟨u,_|⟨e,_|⟨_,_⟩⟩⟩
 ·show ?dY<;>rfl
 ·show ?dY<;>rcases u with _|_|_<;>rfl
 ·rcases u with _|u|_
  ·show ?dY<;>rfl
  ·show ?dY
   ·rfl
   ·rfl
   ·rcases e with _|_|m
    ·show false=?SI;rw[akd]
    ·show false=?SI;rw[akd]
    ·show((?us).bind _).isSome=(true&&(?vu&&m.all _)&&(?qQ&&?qQ));rcases hl:?vu with _|_
     ·rw[tW hl];rfl
     ·rcases hm:m.all _ with _|_
      ·rw[rV hl,tW hm];rfl
      ·rw[rV hl,rV hm];simp only[ah9,aa_];by_cases z:1<=l.length/\l.length=m.length
       ·rw[?ek,decide_eq_true z.1,decide_eq_true z.2];rfl
       ·rw[?gv];simp_all
  ·show ?dY<;>rfl
 ·show ?dY
  ·rfl
  ·rfl
  ·rcases u with _|_|_
   ·rfl
   ·rcases e with _|_|_<;>rfl
   ·rfl
theorem Kn:clS wGroups t c r=RD c r:=by
 rcases r with _|⟨s,_|⟨lo,_|⟨hi,_|⟨_,_⟩⟩⟩⟩
 ·show ?dY<;>rfl
 ·show ?dY<;>rfl
 ·show ?dY
  ·rfl
  ·rfl
  ·rcases lo with _|_|_<;>rfl
 ·show ?dY
  ·rfl
  ·rfl
  ·rcases lo with lo|_|_
   ·rcases hi with hi|_|_
    ·show((?us).bind _).isSome=(?vu&&?IT&&true);rw[aob];rcases hl:?vu with _|_
     ·rw[tW hl];rfl
     ·rw[rV hl];exact alx
    ·exact ?pU
    ·exact ?pU
   ·exact ?pU
   ·exact ?pU
 ·show ?dY
  ·rfl
  ·rfl
  ·rcases lo with _|_|_
   ·rcases hi with _|_|_<;>rfl
   ·rfl
   ·rfl
#where
theorem Et(h:Ok d (?j ?kZ)):ku [eT (?j ?kZ)]=.ok (.bl (Wg c r)):=by
 rw[aR];simp only[D_];have hc:=jY (h.sub (t:=c) ?i).1;match r,h with
 |[],h=>rfl
 |[u],h=>rfl
 |[u,e],h=>
  have he:=jY (h.sub (t:=e) ?i).1;show ?pS;refine fW (b:=!pC u) (?Hu) (?T) ?T
  ·rw[afI]at z;show Rs.ok ?JG=Rs.ok (PV.bl (pC u&&_&&_));rw[z];rfl
  refine fW (b:=!jf c||!jf e) (by erw[hc,he]) (?nA) λz2=>?D
  ·rw[<-asT,afI]at z2;show Rs.ok ?JG=Rs.ok (PV.bl (?Yn&&_));rw[z2,akd];rfl
  ·rw[amn]at z;rw[<-asT,amn,abk]at z2;erw[one];cases c with
   |num _=>cases ?SJ
   |word _=>cases ?SJ
   |list l=>
    cases e with
    |num _=>cases ?SK
    |word _=>cases ?SK
    |list m=>
     erw[aR];congr 2;simp only[Wg,z,z2.1,z2.2];rw[acM];simp;lia
 |u::e::f::s,h=>
  rfl
theorem Eu(h:Ok d (?j ?kZ))(hd:?gK):kx [eT (?j ?kZ)]=.ok (.bl (RD c r)):=by
 rw[aR];simp only[Ea];have hc:=jY (h.sub (t:=c) ?i).1;match r,h with
 |[],h=>rfl
 |[u],h=>rfl
 |[u,v],h=>rfl
 |[s,lo,hi],h=>
  have hs:=B2 (h.sub (t:=s) ?i).1 ?a;show ?pS;refine fW (b:=!jf c||! ?IT) (by erw[hc,hs];simp) (?nA) λz2=>?D
  ·simp only[agD,afI]at z2;rcases z2 with z2|z2<;>simp[RD,z2]
  ·simp at z2;erw[RD,z2.1,z2.2];rfl
 |u::v::w::x::s,h=>
  rfl
theorem GY(h:?ba)(hd:?gK):l8 ?gH=.ok (.bl (aib t).isSome):=by
 rw[Gy];rcases t with n|n|l
 ·exact ?hq
 ·exact ?hq
 rcases l with _|⟨a,_|⟨b,_|⟨c,r⟩⟩⟩
 ·exact ?hq
 ·exact iW rfl (by show ?pE<;>rfl)
 ·exact iW rfl (by show ?pE<;>show ?kX<;>first|rfl|(unfold aib;simp))
 have ha:?qX:=by have:=(h.sub (t:=a) ?ct).1.dp;lia
 have WQ:=(h.sub (t:=c) ?cf).1;have Tj:=jY WQ;have l3:∀u,c2 ?G (cF (c1 ?b c0) aM) ?ci (some (eT (?j ?kZ))::u)=.ok (.bl r.isEmpty):=λu=>by rcases r with _|_<;>rfl
 have l0:∀u,c2 Cq (cF (c1 ?b c0) aM) ?ci (some (eT (?j ?kZ))::u)=.ok ?la:=λu=>by show Rs.ok (PV.bl (decide ((((Pb r).length+1+1+1:Nat):Int)<3)))=_;rw[decide_eq_false ?a]
 refine fW (bOe (c:=false||!pC b) (bNe (oI rfl)) (bOe (oI (l0 _)) (bNe (oI (sD (aep rfl) rfl (Rp _)))))) (?T) ?T
 ·show ?kX
  ·show ?pE<;>rfl
  ·exact ft z
  ·show ?pE<;>rfl
 rcases b with _|tn|_
 ·simp[pC]at z
 ·refine evSet (aeo rfl) ?_;refine fW ?Yo (λz=>(Xc (l3 _) (sD ?CE rfl (IS (two:=false) WQ hd))).trans (congrArg ?et (aes z))) λz1=>?_;refine fW ?Yo (λz=>(Xc (l3 _) (sD ?CE rfl (IS (two:=true) WQ hd))).trans (congrArg ?et (aet z))) ?nA;refine fW (oI (~~~(eqf (w:=wKey) ha))) (?T) λz3=>?_
  ·cases ?hX;exact(Xc (l3 _) (sC ?CE Tj)).trans (congrArg ?et Wh.symm)
  refine fW (oI (~~~(eqf (w:=wFixes) ha))) (?T) λz4=>?_
  ·cases ?hX;refine akT ?_ (congrArg ?et Og.symm);rcases r with _|⟨e,_|⟨x,s⟩⟩
   ·rfl
   ·exact Xc (b:=true) rfl (Xc (sC ?CE Tj) (~~~(jY (h.sub (.tail _ ?cf)).1)))
   ·rfl
  refine fW (oI (~~~(eqf (w:=wRefers) ha))) (?T) λz5=>?D
  ·cases ?hX;exact(sC rfl (Et h)).trans (congrArg ?et Km.symm)
  ·refine(Xc (~~~(eqf (w:=wGroups) ha)) (sC rfl (Eu h hd))).trans (congrArg ?et ?_);show ?mE
   ·rfl
   ·by_cases h8:w=wGroups
    ·rw[h8];exact Kn.symm
    ·simp at z1 z2 z3 z4 z5;have e:∀{x},¬w=x->(w==x)=false:=beq_eq_false_iff_ne.mpr;rw[decide_eq_false λq=>h8 (Tree.word.inj q)];show _=ap8 (if(w==wEach)=true then _ else if(w==wAny)=true then _ else if(w==wPairs)=true then _ else if(w==wNext)=true then _ else if(w==wKey)=true then _ else if(w==wFixes)=true then _ else if(w==wRefers)=true then _ else if(w==wGroups)=true then _ else none);rw[e z1.1,e z1.2,e z2.1,e z2.2,e z3,e z4,e z5,e h8];rfl
   ·rfl
 ·simp[pC]at z
theorem nJ{α:Type}[?le]{a b}{y:α}(h:?Fh=?bl):(c/\a=?bl)\/b=?bl:=by
 by_cases q:c
 ·rw[?nx]at h;exact .inl ⟨q,h⟩
 ·rw[?qM]at h;exact ?rx
theorem fY{α:Type}[?le]{a b}{y:α}{P:Prop}(h1:c->a=?bl->P)(h2:b=?bl->P):?Fh=?bl->P:=by
 by_cases q:c
 ·rw[?nx];exact h1 q
 ·rw[?qM];exact h2
theorem ym{α β γ:Type}{a}{b}{f:α->β->γ}{c}(h:(a.bind λx=>b.map λy=>f x y)=?bj):∃x y,a=?F/\b=?bl/\f x y=c:=by
 rcases a with _|x
 ·show ?w
 simp_all
theorem Ew{α β:Type}{a:?dL}{f}{c:β}(h:a.map f=?bj):∃x,a=?F/\f x=c:=?W
theorem GZ{α:Type}{f:Tree->?dL}{k}(h:(match r with|[c]=>f c|_=>none)=?as):∃c,r=[c]/\f c=?as:=by
 rcases r with _|⟨a,_|_⟩
 ·show ?w
 ·exact ?tM
 ·show ?w
theorem Wi{α:Type}{f:Tree->Tree->?dL}{k}(h:(match r with|?aE=>f a b|_=>none)=?as):∃a b,r=?aE/\f a b=?as:=by
 rcases r with _|⟨a,_|⟨b,_|_⟩⟩
 ·show ?w
 ·show ?w
 ·exact⟨a,b,rfl,h⟩
 ·show ?w
def aeu(two:Bool)(t:Tree):Exp->Prop
 |?an=>t=?an
 |?f x=>t=?j [?f wWord,?f x]
 |.col s x=>(two=false->s=false)/\t=?j [?f (if two=true then if s=true then wTwo else wOne else wCol),?f x]
 |.add x y=>∃a b,t=?j [?f wAdd,a,b]/\?uS=?F/\?no=?bl
 |.sub x y=>∃a b,t=?j [?f wSub,a,b]/\?uS=?F/\?no=?bl
theorem aev{α:Type}{f:Bytes->Bytes->?dL}{g:Bytes->Tree->Tree->?dL}{k}(h:(match l with|[?f w,?f x]=>f w x|[?f w,a,b]=>g w a b|_=>none)=?as):(∃w x,l=[?f w,?f x]/\f w x=?as)\/∃w a b,l=[?f w,a,b]/\g w a b=?as:=by
 rcases l with _|⟨_|w|_,_|⟨b,_|⟨c,_|⟨d,r⟩⟩⟩⟩
 case cons.word.cons.nil=>
  rcases b with _|x|_
  ·show ?w
  ·exact .inl ⟨w,x,rfl,h⟩
  ·show ?w
 case cons.word.cons.cons.nil=>show ?kX<;>exact .inr ⟨w,_,c,rfl,h⟩
 case cons.word.cons.cons.cons=>show ?kX<;>show ?w
 all_goals show ?w
theorem yn{two}(h:afK two t=?gG):aeu two t e:=by
 rw[Vadtta.expOf.eq_def]at h;rcases t with n|w|l
 ·show ?uw;exact rfl
 ·show ?w
 rcases aev h with⟨w,x,rfl,z⟩|⟨w,a,b,rfl,z⟩
 ·clear h;rcases nJ z with⟨hw,h⟩|h
  ·show ?uw;rw[?eb];exact rfl
  rcases two with _|_
  ·show ?oB
   ·simp at hw
   show ?oB
   ·show ?uw;rw[?eb];exact⟨?ar,rfl⟩
   ·show ?w
  ·rw[?bV]at h;show ?oB
   ·show ?uw;rw[?eb];exact⟨nofun,rfl⟩
   show ?oB
   ·show ?uw;rw[?eb];exact⟨nofun,rfl⟩
   ·show ?w
 ·rcases nJ z with⟨hw,h⟩|h
  ·refine ah (ym h) λx y h1 h2 ajq=>?_;rw[<-ajq];rw[?eb];exact ?Gw
  show ?oB
  ·refine ah (ym h) λx y h1 h2 ajr=>?_;rw[<-ajr];rw[?eb];exact ?Gw
  ·show ?w
theorem nK{two}:∀{t},afK two t=?gG->t=e.tree two/\(two=false->∀c,e≠.col true c):=by
 induction e with
 |num n=>intro t h;obtain rfl:=yn h;exact ?zb
 |word n=>intro t h;obtain rfl:=yn h;exact ?zb
 |col s c=>intro t h;obtain⟨q,rfl⟩:=yn h;exact⟨rfl,λz c e=>?M⟩
 |add a b i1 i2=>intro t h;refine ah (yn h) λ_ _ T8 h1 h2=>?_;subst T8;rw[(i1 h1).1,(i2 h2).1];exact ?zb
 |sub a b i1 i2=>intro t h;refine ah (yn h) λ_ _ T9 h1 h2=>?_;subst T9;rw[(i1 h1).1,(i2 h2).1];exact ?zb
def Wj(two:Bool)(t:Tree):Cond->Prop
 |.less x y=>∃a b,t=?j [?f wLess,a,b]/\?uS=?F/\?no=?bl
 |.same x y=>∃a b,t=?j [?f wSame,a,b]/\?uS=?F/\?no=?bl
 |?bm x=>∃a,t=?j [?f wGone,a]/\?uS=?F
 |.and_ l=>∃r,t=?j (?f wAnd::r)/\anH two r=?dS
 |.or_ l=>∃r,t=?j (?f wOr::r)/\anH two r=?dS
 |.not_ c=>∃a,t=?j [?f wNot,a]/\aha two a=?bj
theorem oJ{two}(h:aha two t=?bj):Wj two t c:=by
 rw[Vadtta.condOf.eq_def]at h;rcases t with _|_|_|⟨_|w|_,r⟩
 case list.cons.word=>
  refine fY ?_ ?Os h
  iterate 2
   ·refineλhw h=>bR (Wi h) λa b T_ h=>?_;rw[T_];refine ah (ym h) λx y h1 h2 Ua=>?_;simp only[<-Ua];rw[?eb];exact ?Gw
  ·refineλhw h=>ag (GZ h) λa Ub h=>?_;rw[Ub];refine ag (Ew h) λx h1 ajs=>?_;simp only[<-ajs];rw[?eb];exact⟨a,rfl,h1⟩
  iterate 2
   ·refineλhw h=>ag (Ew h) λx h1 ajt=>?_;rw[<-ajt];rw[?eb];exact⟨r,rfl,h1⟩
  ·refineλhw h=>ag (GZ h) λa aju h=>?_;subst aju;refine ag (Ew h) λx h1 ajv=>?_;rw[<-ajv];rw[?eb];exact⟨a,rfl,h1⟩
 all_goals show ?w
theorem Ko{two}(h:aha two t=?bj):t=?ez:=by
 refine Cond.rec (motive_2:=λl=>∀r,anH two r=?dS->r=?uT) ?_ ?_ ?_ ?_ ?_ ?_ ?_ ?_ c t h
 ·refineλa b t h=>ah ?rH λ_ _ Uc h1 h2=>?_;subst Uc;rw[(nK h1).1,(nK h2).1];rfl
 ·refineλa b t h=>ah ?rH λ_ _ Ud h1 h2=>?_;subst Ud;rw[(nK h1).1,(nK h2).1];rfl
 ·refineλa t h=>ag ?rH λ_ U5 h1=>?_;rw[U5];rw[(nK h1).1];rfl
 ·refineλl ih t h=>ag ?rH λ_ U6 h1=>?_;rw[U6];rw[ih _ h1];rfl
 ·refineλl ih t h=>ag ?rH λ_ ajw h1=>?_;rw[ajw];rw[ih _ h1];rfl
 ·refineλc ih t h=>ag ?rH λ_ ajx h1=>?_;rw[ajx];rw[ih _ h1];rfl
 ·intro r h;rcases r with _|⟨t,r⟩
  ·rfl
  ·refine ah (ym h) λ_ _ _ _ z=>?_;simp at z
 ·intro c l i1 i2 r h;rcases r with _|⟨t,r⟩
  ·cases h
  ·refine ah (ym h) λ_ _ h1 h2 z=>?_;cases z;rw[i1 _ h1,i2 _ h2];rfl
theorem Kq(h:wordOf t=some w):t=?f w:=by
 rcases t with _|_|_
 ·show ?w
 ·rw[afE h]
 ·show ?w
theorem Oh(h:ano t=some s):t=am2 s:=by
 have go:∀{w x:Bytes}{y},(if(w==x)=true then ?bl else none)=some s->w=x/\y=s:=λh=>by
  show ?oB
  ·exact⟨?eb,afE h⟩
  ·show ?w
 rcases t with _|_|_|⟨_|w|_,_|⟨_|c|_,_|_⟩⟩
 case list.cons.word.nil=>obtain⟨rfl,rfl⟩:=go h;rfl
 case list.cons.word.cons.word.nil=>obtain⟨rfl,rfl⟩:=go h;rfl
 all_goals show ?w
theorem ib(h:?ph=?jV):?j l=afN cs:=by simp only[afN,<-ia (λt x=>Kq) h]
section
theorem ajy{α:Type}{r:?aA}{k:α}{f:?aA->?dL}(h:(match r with|[?j a]=>f a|_=>none)=?as):∃a,r=[?j a]/\f a=?as:=by
 rcases r with _|⟨_|_|a,_|_⟩
 case cons.list.nil=>exact ?tM
 all_goals show ?w
theorem aew{α:Type}{r:?aA}{k:α}{f:?aA->?aA->?dL}(h:(match r with|[?j a,?j b]=>f a b|_=>none)=?as):∃a b,r=[?j a,?j b]/\f a b=?as:=by
 rcases r with _|⟨_|_|a,_|⟨_|_|b,_|_⟩⟩
 case cons.list.cons.list.nil=>exact⟨a,b,rfl,h⟩
 all_goals show ?w
theorem Wk{α:Type}{r:?aA}{k:α}{f:?aA->Bytes->?aA->?dL}(h:(match r with|[?j a,?f u,?j b]=>f a u b|_=>none)=?as):∃a u b,r=[?j a,?f u,?j b]/\f a u b=?as:=by
 rcases r with _|⟨_|_|a,_|⟨_|u|_,_|⟨_|_|b,_|_⟩⟩⟩
 case cons.list.cons.word.cons.list.nil=>exact⟨a,u,b,rfl,h⟩
 all_goals show ?w
theorem RE{α:Type}{k}{f:?aA->Tree->Nat->Nat->?dL}(h:(match r with|[?j a,s,?ep,?an]=>f a s m n|_=>none)=?as):∃a s m n,r=[?j a,s,?ep,?an]/\f a s m n=?as:=by
 rcases r with _|⟨_|_|a,_|⟨s,_|⟨m|_|_,_|⟨n|_|_,_|_⟩⟩⟩⟩
 case cons.list.cons.cons.num.cons.num.nil=>exact⟨a,s,m,n,rfl,h⟩
 all_goals show ?w
theorem aex{α:Type}{k}{t:Tree}{f:Bytes->Bytes->?aA->?dL}(h:(match t with|?j (?f w::?f u::r)=>f w u r|_=>none)=?as):∃w u r,t=?j (?f w::?f u::r)/\f w u r=?as:=by
 rcases t with _|_|_|⟨_|w|_,_|⟨_|u|_,r⟩⟩
 case list.cons.word.cons.word=>exact⟨w,u,r,rfl,h⟩
 all_goals show ?w
#where
theorem qe(h:aib t=?as):t=k.tree:=by
 refine mB (aex h) λw u r ajz h=>?_;rw[ajz];refine fY ?_ (fY ?_ (fY ?_ ?Os)) h;iterate 4
  ·refineλhw h=>ag (GZ h) ?Qq;simp only[?eb,e,Ko h1,<-q];exact rfl
 ·refineλhw h=>ag (ajy h) ?Qq;simp only[?eb,e,ib h1,<-q];exact rfl
 ·refineλhw h=>bR (aew h) λa b e h=>?RL;simp only[?eb,e,ib h1,ib h2,<-q];exact rfl
 ·refineλhw h=>mB (Wk h) λa u b e h=>ag ?li λx h1 h=>ag ?li λy h2 h=>fY (λ_ h=>?_) nn h;rw[?eb,e,ib h1,ib h2,<-afE h];exact rfl
 ·refineλhw h=>dw (RE h) λa s m n e h=>?RL;simp only[?eb,e,ib h1,Oh h2,<-q];exact rfl
theorem nM{α:Type}{ft}{gb}{en}(I:?aa->?jP):∀l pre se,(∀Wl a Tn,pre++l=Wl++a::Tn->∀se,I Wl se->∃mP ox,?sq/\?xv/\I (Wl++[a]) ox)->I pre se->∃se',?vM/\I (pre++l) se'
 |[],pre,se,_,h=>⟨se,rfl,?W⟩
 |a::r,pre,se,hs,h=>by refine ah (hs _ a r rfl _ h) λmP ox h1 h2 h3=>ag (nM I r _ _ (λp' b Tn e=>hs _ b Tn (by simp_all[e])) h3) λse' h4 h5=>⟨se',?_,?W⟩;rw[abL];unfold dv;simp[h1,quiet,h2,h4]
theorem uW{gi:GS}{ft}(h:gi ?jT=.ok l):eU gi ft gb se=dv ft gb l se:=by delta eU;rw[h];rfl
theorem ic{α:Type}{w}{xs:?aa}{tr}{g}(hw:?DL)(hF:∀x∈xs,F [eT (tr x)]=.ok (.lst (((g x).map agV).map eT)))(hl:?UZ<=sizeLine):
  cz F [eT (?j (?f w::xs.map tr))]=.ok (.lst (((xs.flatMap g).map agV).map eT)):=by
 simp only[fM];have e0:eT (?j (?f w::xs.map tr))=.tup (eT (?f w)::?wN):=?J
 rw[e0];refine kb rfl (kb (by erw[one];rw[Rz ?i];erw[one];simp[hw]) (?fI));obtain⟨se',h1,y,h2⟩:=nM (ft:=b8 2) (gb:=sY 1 (cF (c1 ?h c0) F)) (λpre se=>∃y,se=[.sh (.tup (eT (?f w)::?wN)),.ow (((pre.flatMap g).map agV).map eT),y]) xs [] [.sh (.tup (eT (?f w)::?wN)),.ow [],.no] (λpre a Tn e se⟨y,hy⟩=>by
  rw[hy];refine⟨_,[.sh (.tup (eT (?f w)::?wN)),.ow (((?Gs g).map agV).map eT),.sh (eT (tr a))],?ay,?_,_,rfl⟩;have hb:(?Gs g).length<=?UZ:=by
   have:xs=(pre++[a])++Tn:=?SL
   rw[this,an2 (xs:=pre++[a]),adW];lia
  simp only[an2,af2,ar_,afM,adW]at hb;show ?Ny
  erw[one];rw[hF a (?SL)];erw[one];try rfl
  rw[if_pos (by simp only[aa_];lia)];simp) ?ad
 refine ?xr
 ·rw[uW (?ay)];exact h1
 ·rw[h2];exact ao (?H)
theorem qf:aO ?eJ l=cz (aO n) l:=rfl
theorem jZ{two}:∀(e:Exp)n d,Ok d ?jB->d<n->e.cols.length<=sizeLine->aO n [eT ?jB]=.ok (.lst ((e.cols.map agV).map eT))
 |e,0,d,h,hn,hl=>?oY
 |?ep,n+1,d,h,hn,hl=>by rw[qf,fM];simp only[akD,ain,GL];exact ?hq
 |?f w,n+1,d,h,hn,hl=>by
  rw[qf];simp only[akD,ain];have hn0:n≠0:=by rintro rfl;simp only[akD]at h;cases h;lia
  obtain⟨m,rfl⟩:∃m,n=m+1:=⟨n-1,?M⟩;exact ic (xs:=[w]) (g:=λ_=>[]) (?c) (λx _=>by rw[qf,fM,oH];exact ?hq) (?bg)
 |.col s c,n+1,d,h,hn,hl=>by rw[qf,fM];simp only[akD,ain,aR,abL,agn];refine kb rfl (iW (by erw[one];rw[Rz ?i];cases two<;>cases s<;>rfl) (?H))
 |.add a b,n+1,d,h,hn,hl=>by
  rw[qf];simp only[akD,ain,adW]at h hl⊢;have hs:∀x∈?aE,Ok ?bQ (?ef):=λx hx=>(h.sub ?Dg).2;have hd:1<=d:=?eY
  have e:=ic (F:=aO n) (w:=wAdd) (tr:=λx=>?ef) (g:=ain) (?c) (λx hx=>by
   have h2:=hs x hx;show ?fY;show ?yW
   ·exact jZ x n ?bQ h2 ?a ?a
   ·exact jZ x n ?bQ h2 ?a ?a) ?aj
  simpa using e
 |.sub a b,n+1,d,h,hn,hl=>by
  rw[qf];simp only[akD,ain,adW]at h hl⊢;have hs:∀x∈?aE,Ok ?bQ (?ef):=λx hx=>(h.sub (t:=?ef) ?Dg).2;have hd:1<=d:=?eY
  have e:=ic (w:=wSub) (tr:=λx=>?ef) (g:=ain) (?c) (λx hx=>by
   have h2:=hs x hx;show ?fY;show ?yW
   ·exact jZ x n ?bQ h2 ?a ?a
   ·exact jZ x n ?bQ h2 ?a ?a) ?aj
  simpa using e
theorem de{two}:∀l,?uT=?HU
 |[]=>?H
 |c::r=>by simp only[akC,de r];rfl
theorem ju:∀l,ags l=l.flatMap agw
 |[]=>?H
 |c::r=>by simp only[ags,ju r];rfl
theorem tX{two}:∀n d(c:Cond),Ok d (?ez)->d<n->?TR->aO n [eT (?ez)]=.ok (.lst ((c.cols.map agV).map eT))
 |0,d,c,h,hn,hl=>?oY
 |n+1,d,c,h,hn,hl=>by
  rw[qf];have aey:∀w(a b:Exp),(?DL)->Ok d (?j [?f w,a.tree two,b.tree two])->(a.cols++b.cols).length<=sizeLine->cz (aO n) [eT (?j [?f w,a.tree two,b.tree two])]=.ok (.lst (((a.cols++b.cols).map agV).map eT)):=λw a b hw h hl=>by
   have hd:1<=d:=?eY
   rw[adW]at hl;have hs:∀x∈?aE,Ok ?bQ (?ef):=λx hx=>(h.sub ?Dg).2;have e:=ic (F:=aO n) (w:=w) (xs:=?aE) (g:=ain) hw (λx hx=>by
    have h2:=hs x hx;show ?fY;show ?yW
    ·exact jZ x n ?bQ h2 ?a ?a
    ·exact jZ x n ?bQ h2 ?a ?a) ?aj
   simpa using e
  have many:∀w l,(?DL)->Ok d (?j (?f w::?uT))->(ags l).length<=sizeLine->cz (aO n) [eT (?j (?f w::?uT))]=.ok (.lst (((ags l).map agV).map eT)):=λw l hw h hl=>by
   have hd:1<=d:=?eY
   rw[de]at h⊢;rw[ju]at hl⊢;exact ic (tr:=aic two) (g:=agw) hw (λx hx=>tX n ?bQ x (h.sub (t:=?ef) (by simp;exact .inr ?IN)).2 ?a (afh (by refine uu (List.append_of_mem hx) λa b ajA=>?_;rw[ajA];simp;lia) hl)) hl
  cases c with
  |less a b=>show ?oC;exact aey _ a b (?c) h hl
  |same a b=>show ?oC;exact aey _ a b (?c) h hl
  |gone a=>
   show ?oC;have hd:1<=d:=?eY
   have e:=ic (F:=aO n) (w:=wGone) (xs:=[a]) (g:=ain) (?c) (λx hx=>by show ?fY;subst hx;exact jZ x n ?bQ (h.sub (t:=?ef) ?i).2 ?a hl) ?oJ
   simpa using e
  |and_ l=>show ?oC;exact many _ l (?c) h hl
  |or_ l=>show ?oC;exact many _ l (?c) h hl
  |not_ c=>
   show ?oC;have hd:1<=d:=?eY
   have e:=ic (F:=aO n) (w:=wNot) (xs:=[c]) (g:=agw) (?c) (λx hx=>by show ?fY;subst hx;exact tX n ?bQ x (h.sub (t:=?ef) ?i).2 ?a hl) ?oJ
   simpa using e
section
theorem fj{ge:GE}{g3:GF}(h:?dd=?ai)(h2:r=?ai):outF (ab ?qp g3 se)=r:=by delta ab aD;rw[h,h2];rfl
theorem Ey{ge:GE}(h:?dd=?bC):aD i ge se=.ok (.nx ?kK):=?Va
theorem aez{ge:GE}(h:?dd=?ai):aD i ge se=?ai:=?Va
theorem Wm{ge:GE}(h:?dd=?bC):eM ge se=?jy:=?Vb
theorem Wn{ge:GE}(h:?dd=?ai):eM ge se=?ai:=?Vb
theorem To{ge:GE}(h:ge ?bA=?bC):ai ge se=?lf:=by delta ai;rw[h];rfl
theorem nN{gt:GB}{g1 g3:GF}{b}(ht:gt ?bA=?dq):?EH=if ?dQ then ab g1 g3 se else g3 se:=by delta ab bC;rw[ht];show ?nN
theorem G8{g1 g2 g3:GF}:ab (ab g1 g2) g3 se=ab g1 (ab g2 g3) se:=by
 delta ab;cases g1 _ with
 |ok f=>cases f<;>rfl
 |ex n=>rfl
 |bad=>rfl
#where
theorem jg(h:?dW=true):∃col,T.cols[?rn]?=?CF/\col.name=c:=by obtain⟨i,hi⟩:=aka.mp h;have h2:=hi;unfold anm at h2;rw[aiO]at h2;refine ag h2 λhl h3 _=>⟨_,?_,?GR⟩;simp[cq,hi]
theorem Tp(hT:aY T){j:Nat}(h1:?lk=?CF)(h2:T.cols[j]?=?F)(e1:col.name=c)(e2:x.name=c):i=j/\col=x:=by
 have a1:(?Ev)[i]?=?bj:=by simp[h1,e1]
 have a2:(?Ev)[j]?=?bj:=by simp[h2,e2]
 have hi:=(aeH.mp a1).1;have e:i=j:=(apX hi hT.nd).mp ?Yp;simp_all
theorem B3(hT:aY T){i:Nat}(h:?lk=?CF)(hc:col.name=c):agt T c=?LJ:=by
 delta agt;rw[acM,akA];show ?cI
 ·refineλajB=>ag ajB λx hx h2=>?_;rw[abk]at h2;obtain⟨j,hj⟩:=agj.mp hx;obtain⟨_,rfl⟩:=Tp hT h hj hc (by simpa using h2.1);cases hk:col.kind<;>simp[hk,qb]at h2⊢
 ·refineλh2=>⟨col,agj.mpr ⟨i,h⟩,?_⟩;cases hk:col.kind<;>simp[hk,qb,hc]at h2⊢
theorem IT(h:?dW=false):agt T c=false:=by delta agt;delta anm at h;rw[aq3,amM]at h;rw[amM];intro x hx;have:=h x hx;simp[this]
theorem vJ(hT:aY T):fA [eT (am2 s),ay T]=if ?Yq then ?lJ else ?dN:=by
 simp only[vB];cases s with
 |none=>
  simp only[am2,aR,abL,agn];rw[tU (by erw[one];rw[mQ ?i ?i];rfl)];rfl
 |some c=>
  rw[show(?bj).all (agt T)=agt T c from rfl];simp only[am2,aR,abL,agn];rw[tU (by erw[one];rw[mQ ?i ?i];rfl)];have hp:=gw (p:=.tup [eT (?f c)]) (ns:=[c]) hT.c6 rfl ?EG;have hh:T.hasCols [c]=?dW:=by simp[ag5]
  rw[hh]at hp;cases hs:?dW with
  |false=>
   rw[hs]at hp;rw[IT hs];show ?mL;rw[Tf (aez (by erw[one];rw[hp];rfl))];rfl
  |true=>
   rw[hs,?bV]at hp;refine ag (jg hs) λcol hc hn=>?_;rw[B3 hT hc hn];show ?mL;have hix:aU (?gd) (?ew)=.ok (eC col):=tT (by rw[ad0,hc];rfl);rw[rO (Ey (p:=?ew) (by erw[hp])),tU (b:=! ?LJ) (by erw[bK,hix,d0])];cases ?LJ<;>rfl
theorem eQ{s:Store}(h:?CB=?eH):T∈s/\T.name=w:=by have h1:=apO h;have h2:=aqG h;exact⟨h1,by simpa using h2⟩
def rW:Claim->?cc
 |?eq _ c=>c.cols
 |.any _ c=>c.cols
 |.pairs _ c=>c.cols
 |?km _ c=>c.cols
 |_=>[]
theorem Wo{gt:GB}{g1 g3:GF}(ht:gt ?bA=?iE)(h:outF (ab g1 g3 se)=r):outF (?EH)=r:=?Wb
theorem G9{gt:GB}{g1 g3:GF}(ht:gt ?bA=?nh)(h:?my):outF (?EH)=r:=?Wb
theorem aeA{gt:GB}{g1 g2:GF}(ht:gt ?bA=?iE)(h:outF (g1 se)=r):outF (bC gt g1 g2 se)=r:=by rw[tU ht];exact h
theorem RF{b:Bool}{ge:GE}(h:?dd=if ?dQ then ?lJ else ?ai):outF (eM ge se)=bif b then ?lJ else ?ai:=by delta eM;rw[h];show ?nN
theorem Wq{a b:Bool}{x y:?k}:(bif a then(bif b then x else y)else y)=if(a&&b)=true then x else y:=?Sj
theorem aeB{a:Bool}{x y:?k}:(bif a then x else y)=if a=true then x else y:=?mr
theorem ie{ge:GE}{g3:GF}(hT:aY T)(hp:?ol)(hl:?gQ)(e:?dd=aF ?vj)(h:?my):?Er=bif ?KE then r else ?dN:=by
 rw[gw hT.c6 hp hl]at e;cases hb:?KE<;>rw[hb]at e
 ·exact mj e rfl
 ·exact yc e h
theorem fZ cs:g6 (?tW)=.ok ((cs.map agV).map eT):=by simp[afN,g6]
theorem RG{two}{g:GF}{c:Cond}(hT:aY T)(hk:Ok d (?j [a,b,?ez]))(hd:d<=41)(hl:?TR):outF (ab (ab (eM (cF (c1 (cF (c1 (c2 aU ?b ?aG) c0) dU) (c1 ?h c0)) aF)) (?Gm)) g [.sh (.tup [x,y,eT (?ez)]),z,?cO,u])=if ?ky then ?lJ else ?dN:=by have h:dU [_]=_:=tX 41 ?bQ c (hk.sub ?cf).2 (by cases hk;lia) hl;rw[G8,<-aeB];exact ie (p:=?fn) hT rfl hl (by erw[one];rw[h];erw[one]) rfl
theorem ig{s:Store}{g3:GF}(h0:s.find tn=none->res=?dN)(h:∀T∈s,s.find tn=?eH->outF (g3 [.sh (.tup (eT (?f w)::eT (?f tn)::r)),?Vc,?cO,.sh (eT (?f w))])=res):outF (ab (aD 2 (cF (c1 (c2 aU ?b ?ac) ?v) aZ)) (ab (aD 3 (c2 aU ?b ?ab)) g3) [.sh (.tup (eT (?f w)::eT (?f tn)::r)),?Vc,.no,.no])=res:=by
 have tc:=jX (s:=s) (w:=tn);cases hf:s.find tn<;>rw[hf]at tc
 ·exact fj ?Ur (h0 hf)
 ·exact evSet ?Ur (evSet (?hh) (h _ (eQ hf).1 hf))
theorem pE(h:Ok d (?j l))(m:afN cs∈l):?Xg:=by have:=(h.sub m).1.len;have:=sz;simp at*;lia
theorem zA{s:Store}{k:Claim}(hs:∀T∈s,aY T)(hk:Ok d k.tree)(hd:d<=41)(hc:?TS):iD [?jK,.lst ?bU]=if ?qE=true then ?lJ else ?dN:=by
 rw[zi];show ?MZ
 have g0:?Ie=none->(if ?qE=true then Rs.ok PV.b_ else ?dN)=?dN:=λh=>by unfold anI;rw[h];rfl
 cases k with
 |key tn cs=>
  show ?fw;rw[gd hf];exact G9 ?ak ((ie ?fJ ?nL (pE hk ?cf) ?ak ?ak).trans aeB)
 |fixes tn cs ds=>
  show ?fw;rw[gd hf];exact G9 ?ak ((ie ?fJ ?nL (pE hk ?cf) ?ak (Wo ?ak (ie ?fJ (fZ ds) (pE hk (.tail _ ?cf)) ?ak ?ak))).trans Wq)
 |refers tn cs u ds=>
  show ?fw;rw[gd hf];refine G9 ?ak ((ie ?fJ ?nL (pE hk ?cf) ?ak (G9 ?ak (Wo ?ak ?_))).trans Wq);have hu:=jX (s:=s) (w:=u);cases hf:s.find u<;>rw[hf]at hu
  ·exact mj (by show cF _ _ (jA [.sh (.tup [_,_,_,eT (?f u),_]),_,_,_])=_;erw[one];rw[hu];rfl) rfl
  ·exact(ie (hs _ (eQ hf).1) (fZ ds) (pE hk (.tail _ (.tail _ ?cf))) (by show cF _ _ (jA [.sh (.tup [_,_,_,eT (?f u),_]),_,_,_])=_;erw[one];rw[hu];erw[one]) ?ak)
 |groups tn cs x lo hi=>
  show ?fw;rw[gd hf];exact G9 ?ak ((ie ?fJ ?nL (pE hk ?cf) ?ak (G9 ?ak (G9 ?ak (aeA ?ak (RF (~~~(vJ ?fJ))))))).trans Wq)
 |_=>
  show ?fw;rw[gd hf];exact Wo ?ak (RG ?fJ hk hd hc)
theorem zB(hs:∀T∈s,aY T)(h:?ba)(hd:?gK)(hc:∀k,aib t=?as->?TS):iF [eT t,.lst ?bU]=match aib t with
  |none=>?nB
  |?as=>if ?qE=true then ?lJ else ?dN:=by
 rw[zj];refine qa (b:=!(aib t).isSome) (by erw[GY h hd]) (?T) ?T
 ·cases e:aib t with
  |none=>rfl
  |some k=>rw[e]at z;show ?nq
 ·cases e:aib t with
  |none=>rw[e]at z;show ?nq
  |some k=>
   have et:=qe e;subst et;have h2:=zA hs h ?a (hc k e);show ?bR;cases hb:?qE with
   |false=>
    rw[hb]at h2;rw[Wn (h2)];rfl
   |true=>
    rw[hb]at h2;rw[Wm (h2)];rfl
abbrev Wr:List (?e)->?k:=Vr
theorem Oi{p:Bytes}(h:GR p):(tS p==aee "(")=(p==[40])/\(tS p==aee ")")=(p==[41])/\aiF (?pR)=true:=by
 have e1:aee "("=tS [40]:=rfl;have e2:aee ")"=tS [41]:=rfl;have inj:∀{a b:Bytes},tS a=tS b->a.map sg=b.map sg:=λ{a b}e=>by have:=congrArg ?FL e;simpa[tS]using this
 refine⟨?_,?_,Oa p⟩
 ·rw[acM,beq_iff_eq,beq_iff_eq,e1];refine⟨λe=>?_,λe=>?lz⟩;have e:=inj e;show ?Yr
  ·rfl
  ·exact absurd e (?c)
  ·cases p with
   |nil=>exact absurd rfl hn
   |cons c r=>
    have uX:sg 40=40:=?c
    have:=(aru e).1;exact absurd (this.trans uX) (N9 c (adY.mp ha c ?i)).1
 ·rw[acM,beq_iff_eq,beq_iff_eq,e2];refine⟨λe=>?_,λe=>?lz⟩;have e:=inj e;show ?Yr
  ·exact absurd e (?c)
  ·rfl
  ·cases p with
   |nil=>exact absurd rfl hn
   |cons c r=>
    have Xf:sg 41=41:=?c
    have:=(aru e).1;exact absurd (this.trans Xf) (N9 c (adY.mp ha c ?i)).2
section
variable{leaf:PV->?k}(hleaf:∀p:Bytes,p≠[]->?yS->?IL->leaf (?pR)=match akF p with
 |?cr=>.ok (eT a)
 |none=>?eC)
include hleaf
theorem v8:∀(f:Nat)(ps:?cc)(d:Nat)(outer:List (?e))(cur:?e),ps.length<f->outer.length+d=40->(∀p∈ps,GR p/\?IL)->(∀a∈?he,a.length+ps.length<=5000)->
  match ?hr with
  |none=>(fh leaf (?qx) (?he)>>=Wr)=?eC
  |?zC=>(rest=[]\/∃r,rest=[41]::r)/\?Qr/\(∀p∈rest,p∈ps)/\fh leaf (?qx) (?he)=fh leaf (rest.map tS) (outer++[cur++?qC])
 |0,ps,d,outer,cur,h,_,_,_=>?M
 |f+1,[],d,outer,cur,_,_,_,_=>by unfold afH;exact⟨?y,?J,?J,?J⟩
 |f+1,?kq,d,outer,cur,h,hd,hp,hb=>by
  show ?aW;have hpo:=(hp p ?aS).1;obtain⟨p1,p2,p3⟩:=Oi hpo;have hrp:∀x∈ps,GR x/\x.length<=6000:=λx hx=>hp x ?hs;rw[ad2]at h;unfold afH;cases Xf:p==[41]with
  |true=>
   rw[?bV];rw[beq_iff_eq]at Xf;exact⟨.inr ⟨ps,by rw[Xf]⟩,?J,λx hx=>hx,?J⟩
  |false=>
   rw[if_neg (?c)];rw[abL];have api:cur.length+(ps.length+1)<=5000:=hb cur ?i;cases uX:p==[40]with
   |true=>
    rw[?bV];have hu:fh leaf (tS p::?qx) (?he)=if 40<(?he).length then ?eC else fh leaf (?qx) (?he++[[]]):=by
     conv=>lhs;unfold fh
     rw[p3,p1,uX];rfl
    rw[hu];cases d with
    |zero=>
     rw[if_pos ?aj];rfl
    |succ d=>
     rw[if_neg ?aj];have ih:=v8 f ps d (?he) [] ?a ?aj hrp (λa ha=>by
      rcases afC.mp ha with ha|ha
      ·have:=hb a ha;rw[ad2]at this;lia
      ·simp at ha;subst ha;simp;lia)
     show ?bR;cases ht:?hr with
     |none=>rw[ht]at ih;exact ih
     |some x=>
      obtain⟨l,rest⟩:=x;rw[ht]at ih;obtain⟨i1,i2,i3,i4⟩:=ih;rw[i4,afP];rcases i1 with rfl|⟨s,rfl⟩
      ·show(fh leaf [] (?he++[?qC])>>=Wr)=?eC;show Wr (?he++[?qC])=?eC;rcases outer with _|⟨_,_|⟨_,_⟩⟩<;>rfl
      ·have ajD:GR [41]:=.inr (?y);obtain⟨s1,s2,s3⟩:=Oi ajD;rw[ad2]at i2;have Js:fh leaf (([41]::s).map tS) (?he++[?qC])=fh leaf (s.map tS) (outer++[cur++[.tup ?bK]]):=by
        rw[abL];conv=>lhs;unfold fh
        rw[s3,s1,s2];have e1:([41]==([40]:Bytes))=false:=?c
        have e2:([41]==([41]:Bytes))=true:=?c
        rw[e1,e2];simp only[arH,if_false,ahn,if_true];rw[if_neg ?i];simp only[arj,aow,asa,afP,ame,afM,anw];rw[if_pos ?a,ao0]
       rw[Js];have ih2:=v8 f s ?eL outer (cur++[.tup ?bK]) ?a hd (λx hx=>hrp x (i3 x ?hs)) (λa ha=>by
        rcases afC.mp ha with ha|ha
        ·have:=hb a (agx _ ha);rw[ad2]at this;lia
        ·simp at ha;subst ha;simp;lia)
       show ?bR;cases IU:afH f ?eL s with
       |none=>rw[IU]at ih2;exact ih2
       |some y=>
        obtain⟨m,aeC⟩:=y;rw[IU]at ih2;obtain⟨j1,j2,j3,j4⟩:=ih2;refine⟨j1,?wO,λx hx=>aaV _ (i3 x (aaV _ (j3 x hx))),?_⟩;rw[j4];simp[akJ]
   |false=>
    rw[if_neg (?c)];have hat:p≠[]/\?yS:=by
     rcases hpo with rfl|rfl|z
     ·exact absurd uX (?c)
     ·exact absurd Xf (?c)
     ·exact z
    have hlf:=hleaf p hat.1 hat.2 (hp p ?aS).2;have hu:fh leaf (tS p::?qx) (?he)=leaf (?pR)>>=λx=>if cur.length<sizeLine then fh leaf (?qx) (outer++[cur++[x]])else .bad:=by
     conv=>lhs;unfold fh
     rw[p3,p1,p2,uX,Xf];simp only[arH,if_false,ahn];simp only[arj,aow,asa,afP,ame,anw,ao0]
    rw[hu,hlf];cases ha:akF p with
    |none=>rfl
    |some a=>
     simp only[ah9,Rs.aK];rw[if_pos ?a];have ih:=v8 f ps d outer (cur++[eT a]) ?a hd hrp (λx hx=>by
      show ?oG
      ·have:=hb x (agx _ hx);rw[ad2]at this;lia
      ·show ?fY;subst hx;simp;lia)
     cases ht:?hr with
     |none=>rw[ht]at ih;exact ih
     |some y=>
      obtain⟨m,aeC⟩:=y;rw[ht]at ih;obtain⟨j1,j2,j3,j4⟩:=ih;refine⟨j1,?wO,λx hx=>aaV _ (j3 x hx),?_⟩;rw[j4];simp[akJ]
#where
theorem rX:∀(f:Nat)(ps:?cc)(d:Nat)(l:?aA)(rest:?cc),ps.length<=5000->?hr=?zC->(∀t∈l,?ba)/\?Qr
 |0,ps,d,l,rest,_,h=>?Hv
 |f+1,[],d,l,rest,_,h=>by simp[afH]at h;show ?gU;simp
 |f+1,?kq,d,l,rest,hl,h=>by
  rw[ad2]at hl;unfold afH at h;show ?ao
  ·show ?aR;show ?gU;simp
  ·show ?ao
   ·cases d with
    |zero=>show ?aR
    |succ d=>
     show ?gr;cases ht:?hr with
     |none=>rw[ht]at h;show ?aR
     |some x=>
      show ?pF;rw[ht]at h;obtain⟨a1,a2⟩:=rX f ps d m r1 ?a ht;cases r1 with
      |nil=>show ?aR
      |cons c s=>
       show ?gr;cases IU:afH f ?eL s with
       |none=>rw[IU]at h;show ?aR
       |some y=>
        obtain⟨m2,r2⟩:=y;rw[IU]at h;show ?aR;show ?gU;rw[ad2]at a2;obtain⟨b1,b2⟩:=rX f s ?eL m2 r2 ?a IU;refine⟨?qb,?wO⟩;show ?sk
        ·exact ?j ?a a1
        ·exact b1 t ht
   ·cases ha:akF p with
    |none=>rw[ha]at h;show ?aR
    |some a=>
     rw[ha]at h;simp only[ah9]at h;cases ht:?hr with
     |none=>rw[ht]at h;show ?aR
     |some x=>
      show ?pF;rw[ht]at h;show ?aR;show ?gU;obtain⟨b1,b2⟩:=rX f ps d m r1 ?a ht;refine⟨?qb,?wO⟩;show ?sk
      ·unfold akF at ha;split at ha
       ·split at ha
        ·cases ha;rename_i hv;exact .num hv
        ·cases ha
       ·split at ha
        ·cases ha;rename_i hw;refine ?f ?_;cases p with
         |nil=>simp
         |cons c r=>
          have:?No:=rfl;rw[this,abk,abk,decide_eq_true_eq]at hw;exact hw.2.2
        ·cases ha
      ·exact b1 t ht
theorem qg(h:alh t=?dS):(∀x∈l,Ok 40 x)/\l.length<=4000/\t.length<=4000:=by
 unfold alh at h;show ?ao
 ·simp_all
 ·rename_i hl;have hl:t.length<=4000:=by simpa[asj]using hl
  have hc:=(GU t).2;show ?ao
  ·rename_i m ht;cases h;obtain⟨a,b⟩:=rX _ _ _ _ _ ?a ht;exact⟨a,by simp at b;lia,hl⟩
  ·show ?w
theorem RH(t:Bytes):∀p∈aoi t,p.length<=t.length:=by
 rw[N7];have:∀(t run:Bytes),∀p∈?CD,p.length<=?Xd:=by
  intro t;induction t with
  |nil=>
   intro run p hp;rw[N6]at hp;unfold flush at hp;simp_all
  |cons c r ih=>
   intro run p hp;have hf:∀p∈?ix,p.length<=run.length:=λp hp=>by unfold flush at hp;simp_all
   rw[jC]at hp;rw[ad2];split at hp
   ·show ?GQ
    ·have:=hf p hp;lia
    ·have:=ih [] p hp;show ?iT;lia
   ·split at hp
    ·show ?GQ
     ·have:=hf p hp;lia
     ·show ?xb
      ·simp;lia
      ·have:=ih [] p hp;show ?iT;lia
    ·have:=ih _ p hp;show ?iT;lia
 intro p hp;have:=this t [] p hp;show ?fD
theorem mm{t:Bytes}(ht:?gi):aH ?iS=match alh t with
  |?dS=>.ok (.lst ?bK)
  |none=>?eC:=by
 have hz:=Xb;show DA _ _ ?iS=_;unfold DA eL;simp only[one,uH];rw[aa_];unfold alh;by_cases hl:4000<t.length
 ·rw[if_pos hl,if_pos (show asj<t.length from hl)]
 ·rw[if_neg hl,if_neg (show¬asj<t.length from hl)];have h1:=tV ht;unfold eL at h1;rw[h1];simp;have hc:=GU t;have hr1:=Kj t;have Q0:=N5 t;rw[if_pos ⟨?JK,?M,?M,by rw[IL,aa_];lia⟩,IL];have h:=v8 (leaf:=λp=>kB [p]) (λp h1 h2 h3=>Er h1 h2 h3) ((aoi t).length+1) (aoi t) 40 [] [] ?a rfl (λp hp=>⟨hc.1 p hp,by have:=RH t p hp;lia⟩) (λa ha=>by simp at ha;subst ha;simp;lia);rw[afP]at h;have hd:Vadtta.DEEP=40:=rfl;rw[hd];cases htf:afH _ 40 (aoi t)with
  |none=>rw[htf]at h;exact h
  |some x=>
   obtain⟨l,rest⟩:=x;rw[htf]at h;obtain⟨i1,i2,i3,i4⟩:=h;rw[i4];rcases i1 with rfl|⟨s,rfl⟩
   ·rfl
   ·kernel_rfl
theorem mM(ht:?gi):bh ?iS=match ali t with
  |?F=>.ok (eT x)
  |none=>?eC:=by
 simp only[vH];have h:=mm ht;unfold ali;cases hr:alh t with
 |none=>
  rw[hr]at h;exact fj ?bM rfl
 |some l=>
  rw[hr]at h;refine evSet (h) ?_;match l with
  |[]=>rfl
  |[x]=>
   rfl
  |?jY=>
   rfl
theorem Ws(n:Nat):aee (toString ?cV)=sB (anJ n):=by
 rw[PySem.Str.ofString_eq_toList];delta sB anJ;have e:(toString ?cV).toList=Nat.toDigits 10 n:=by show(Nat.repr n).toList=_;simp
 rw[e,abV];congr 2;refine agu ?mW;have h:=Nat.isDigit_of_mem_toDigits ?lH ?A hc;simp only[Char.isDigit,abk,decide_eq_true_eq]at h;have h2:c.toNat<=57:=h.2;simp only[ai2];rw[arI];have:c.toNat<256:=?M
 simp only[asb this]
theorem Oj(h:?qd):(anJ n).length<=7:=by delta anJ;rw[aa_,Nat.length_toDigits_le_iff ?i ?i];lia
theorem B4 a b:sB (a++b)=sB a++sB b:=by apply aq1;simp[sB,aoY]
theorem yo:∀l,anG (aee " ") (l.map λt=>?Bp)=sB (?lV)
 |[]=>?H
 |[x]=>?H
 |?jY=>by have ih:=yo (y::r);rw[abL]at ih⊢;show sB _++aee _++anG _ (sB _::r.map _)=_;rw[ih];rw[show afA (?jY)=?Gt from rfl];rw[show aee _=sB [32]from rfl,<-B4,<-B4];simp
theorem Aq:∀l,((l.map λt=>?Bp).map (·.length)).sum+l.length<=?ih+1
 |[]=>?bg
 |[x]=>by rw[show afA _=x.write from ?H];simp
 |?jY=>by have ih:=Aq (y::r);rw[show afA _=?Gt from ?H];rw(config:={}) [abL,abL,aoV,ya,adW,ad2,ad2 (a:=32)];lia
theorem tY:∀{l}{t},t∈l->t.write.length<=?ih
 |[x],t,h=>by show ?aR;subst h;exact ?cs
 |?jY,t,h=>by
  rw[show afA _=?Gt from rfl];simp;rcases ?BV with rfl|h
  ·simp_all
  ·have:=tY h;lia
theorem yp l:(Tree.list l).write=40::(?lV++[41]):=rfl
theorem ajE:hZ ?eJ l=tG (hZ n) l:=rfl
theorem Ol(hp:g6 p=.ok ?bK)(hF:∀t∈l,F ?gH=.ok (.str (?Bp)))(hl:l.length<=100000)(hs:?ih<=10000000):iQ F [p]=.ok (.str (sB (?lV))):=by
 have hz:=Xb;simp only[xV];refine ?D;simp only[Rs.aK,c1];rw[yd ?ch (hp) (λt ht=>⟨_,rfl,hF t ht⟩) ?a];try simp only[one,wN,vg,opt,Rs.aK,yW,qW]
 rw[mh _];show ?bR;have hw:=Aq l;rw[if_pos (by rw[show(aee _).length=1 from ?H,aa_];lia)]
 show Rs.ok (PV.str (aqp _ _))=_;rw[apv,yo]
theorem Ar:∀n d t,?ba->d<n->t.write.length<=10000000->hZ n ?gH=.ok (.str (?Bp))
 |0,d,t,_,h,_=>?M
 |n+1,d,t,ho,hd,hs=>by
  have hz:?GS:=?tk
  rw[ajE,Kc];match t,ho with
  |.num k,ho=>
   have hk:k<=1000000:=by cases ho;show ?cJ
   rw[nN (b:=false) (?H),if_neg (?c)];refine ?D;rw[GL];erw[one];try erw[Qu]
   rw[if_pos (by
    have h1:(k:Int).natAbs=k:=?M
    rw[h1];by_cases h0:k=0
    ·subst h0;decide
    ·have h2:=Nat.log2_self_le h0;refine Nat.lt_of_not_le ?cS;have h3:2^20<=2^k.log2:=aq2 (?c) ?a;lia)]
   show Rs.ok (PV.str (aee (toString (k:Int))))=_;rw[Ws,show(aq4 k).write=anJ k from ?H]
  |?f w,ho=>
   rw[nN (b:=false) (?H),if_neg (?c)];refine ?D;rw[oH];erw[one];rw[show(agV w).write=w from ?H];rfl
  |?j l,ho=>
   have hll:=ho.len;obtain⟨d',rfl⟩:∃d',d=d'+1:=by cases ho;exact ?ad
   rw[yp]at hs⊢;have K1:?ih<=10000000:=by simp at hs;lia
   have hrow:iQ (hZ n) [eT (?j l)]=.ok (.str (sB (?lV))):=Ol (by rw[aR];rfl) (λt ht=>Ar n d' t (ho.sub ht).2 ?a (afh (tY ht) K1)) ?a K1;rw[nN (b:=true) (?H),?bV,G8,rO (Ey (p:=.str (sB (?lV))) (~~~(hrow)))];show ?Bw;rw[NY (To (p:=.str (sB (40::(?lV++[41])))) (by
    erw[one];simp only[Qv,wN];rw[if_pos (by rw[show(aee "(").length=1 from ?tk,show(aee ")").length=1 from ?g,ya];lia)]
    rw[show aee "("=sB [40]from ?g,show aee ")"=sB [41]from ?H,<-B4,<-B4];simp))]
   rfl
mutual
def nd:Tree->Nat
 |.num _=>1
 |?f _=>1
 |?j l=>1+Om l
def Om:?aA->Nat
 |[]=>0
 |x::r=>nd x+Om r
end
theorem G_ n:nd (?an)=1:=rfl
theorem B5 n:nd (?f n)=1:=rfl
theorem eG l:nd (?j l)=1+Om l:=rfl
theorem iS:Om []=0:=rfl
theorem aS x r:Om (x::r)=nd x+Om r:=rfl
mutual
theorem Ez:∀(t:Tree)(d:Nat),?ba->t.write.length+1<=22*nd t
 |.num k,d,h=>by
  have hk:k<=1000000:=by cases h;show ?cJ
  rw[show(aq4 k).write=anJ k from ?QF,G_];have:=Oj hk;lia
 |?f w,d,h=>by
  have hk:?jA:=by cases h;show ?cJ
  rw[show(agV w).write=w from ?QF,B5];lia
 |?j l,d,h=>by rw[yp,eG];have:=nO l d (λt ht=>(h.sub ht).1);simp;lia
theorem nO:∀(l:?aA)(d:Nat),(∀t∈l,?ba)->?ih<=22*Om l
 |[],d,_=>by unfold afA;simp
 |[x],d,h=>by rw[show afA [x]=x.write from ?TT,aS,iS];have:=Ez x d (h x ?i);lia
 |?jY,d,h=>by rw[show afA (?jY)=x.write++32::afA (y::r)from ?TT,aS];have h1:=Ez x d (h x ?i);have h2:=nO (y::r) d (λt ht=>h t (aaV _ ht));rw[adW,ad2];lia
end
theorem Oo w:pP ?iP=w.map λb=>PV.str ⟨#[b.toNat]⟩:=by simp[pP,sB]
theorem lu(ho:∀t∈l,Ok 30 t)(hl:?jq)(hs:?ih<=10000000):bH [.lst ?bK]=if 12000<?ih then .ex (-8)else .ok (.lst ((?lV).map ?ww)):=by
 have hz:?GS:=?H
 simp only[tQ];have h:=Ol (p:=?fn) rfl (λt ht=>Ar 41 30 t (ho t ht) ?a (afh (tY ht) hs)) ?a hs;refine evSet (~~~(h)) (qa (b:=decide (12000<?ih)) (by erw[one];rw[Ob (by rw[ya];lia)];erw[one];rw[ya];congr 1;rw[acM];simp;lia) (?T) λz=>?D)
 ·rw[if_pos (?hX)]
 ·show ?sj;rw[?gv];refine yd ?ch (by erw[one];show Rs.ok _=_;rw[Oo]) (λb hb=>⟨_,?ay,?_⟩) ?a;erw[one];simp[Dt,apG]
theorem nP(ho:∀t∈l,Ok 30 t)(hl:?jq)(hs:?ih<=10000000):bw [.lst ?bK]=if 12000<?ih then .ex (-8)else .ok (.lst (.int (l.length:Nat)::(?lV).map ?ww)):=by
 have hz:?GS:=rfl;simp only[xW];refine ?D;erw[lu ho hl hs];split
 ·rfl
 ·rw[Rs.aK,fw];rw[if_pos ?aj];simp
def eD(T:afr)(r:Row):PV:=.vf ((T.cols.map λc=>(ahX (sB c.name):L2.Key)).zip (r.map ?eZ))
def eE(two:Bool)(T:afr)(a b:Row):PV:=if two then .vf [(ahX (aee "one"),eD T a),(ahX (aee ?gJ),eD T b)]else .vf [(ahX (aee "col"),eD T a)]
def eV:Cell->PV
 |?an=>?hd
 |?f w=>.str ?iP
 |?bm=>.b_
theorem IV:∀{ks:?t}{vs}{i:Nat}{k}{v},ks.Nodup->ks[i]?=?as->vs[i]?=?V->lV ((ks.map λk=>(ahX k:L2.Key)).zip vs) (ahX k)=?V
 |[],_,_,_,_,_,h,_=>nn h
 |_::_,[],_,_,_,_,_,h=>nn h
 |x::ks,y::vs,0,k,v,hn,h1,h2=>by simp at h1 h2;subst h1 h2;simp[lV]
 |x::ks,y::vs,i+1,k,v,hn,h1,h2=>by
  have hne:x≠k:=λe=>by subst e;exact(agA.mp hn).1 (agj.mpr ⟨i,h1⟩)
  have:=IV (agA.mp hn).2 h1 h2;unfold lV at this⊢;rw[abL,apF,aqy (?xz)];show ?eM
theorem EC(hT:aY T):(T.cols.map λc=>sB c.name).Nodup:=by have:=Ej.mpr hT.nd;rwa[abV]at this
theorem Oq(hT:aY T)(hr:?wG)(hc:?dW=true):aU (eD T r) (.str (sB c))=.ok (eT (?kQ).tree):=by
 refine ag (jg hc) ?HV;have h3:=BX hr hc;have:=IV (EC hT) (k:=sB c) (vs:=r.map ?eZ) (v:=eT (?kQ).tree) (by rw[ad0,h1];simp[h2]) (by
  rw[ad0]at h3⊢;cases hx:r[?rn]? with
  |none=>simp_all[hx]
  |some x=>simp_all[h3])
 delta eD aU;dsimp only[keyOf,ah9];rw[abV]at this;rw[show(T.cols.map λc=>(ahX _))=T.cols.map ((λk=>ahX k)∘λc=>sB _)from rfl,this];rfl
theorem mN(hT:aY T):cB ?iR=.ok (.lst (T.rows.map (eD T))):=by
 simp only[vC];refine evSet (~~~(gR hT.c6)) (ao (yd (en:=λr=>eT _) ?A ?Fm (λr hr=>⟨_,?ay,?_⟩) ?QW));erw[one];try simp only[two,vg,opt,afx,aR,dzF,mh]
 rw[if_pos ⟨EC hT,by simp[?BL]⟩];simp;rfl
theorem aeD x:eh [eV x,.ty "int"]=.ok (.bl (match x with
 |.num _=>true
 |_=>false)):=?yc
theorem aeE(h:amQ x=true):A9 ?ag=some ?ag:=by
 have:akx ?ag=true:=?Rp
 simp[A9,dat,this]
theorem ajF x y:bz false (eV x) (eV y)=.ok (.bl (?pC)):=by have h0:A9 .b_=?bk:=rfl;have h1:∀i,A9 (?O)=?bk:=?ar;have h2:∀w,A9 _=?bk:=λw=>aeE (pB w);delta bz;show ?BU<;>simp only[eV,h0,h1,h2,ahm]<;>simp;all_goals first|(rw[acM];simp[kQ];done)|lia
def Pd(w:Bytes)(x y:Cell):Cell:=if w=wAdd then(match x,y with
 |?ep,?an=>.num (m+n)
 |_,_=>?bm)else match x,y with
 |?ep,?an=>if m<n then ?bm else .num (m-n)
 |_,_=>?bm
theorem yq:l5 [eT (?f w),eV x,eV y]=.ok (eV (Pd w x y)):=by
 simp only[Gx];match x,y with
 |?ep,?an=>
  refine kb (?H) (fW (b:=decide (w=wAdd)) (by erw[one];rw[mQ ?i ?i];simp) (?T) ?T)
  ·have z:=?hX;erw[one];simp[eV,fw,Pd,z]
  ·show ?sj;refine fW (b:=decide (m<n)) (by erw[one];simp[eV,NW]) (?nA) λz2=>?D
   ·have z2:=of_decide_eq_true z2;simp[Pd,z,z2,eV]
   ·have z2:=?UY;erw[eV,V5,Pd,?gv,if_neg z2];lia
 |?ep,?f n=>exact ?wx
 |?ep,?bm=>exact ?wx
 |?f m,y=>exact ?wx
 |?bm,y=>exact ?wx
theorem aeF:aee "col"=sB wCol:=rfl
theorem aeG:aee "one"=sB wOne:=rfl
theorem ED:g_ ?eJ l=pV (g_ n) l:=rfl
theorem j0{two}{T}(hT:aY T)(ha:?wH)(hb:?wI)(hab:?yT):∀(e:Exp)n d,Ok d ?jB->d<n->?Vd->g_ n [eT ?jB,?mK]=?Rs
 |e,0,d,h,hn,hl=>?oY
 |?ep,n+1,d,h,hn,hl=>by rw[ED,jV];simp only[akD,arY,GL];exact ?hq
 |?f w,n+1,d,h,hn,hl=>by rw[ED,jV];show ?wQ;exact kb (?ay) (evSet (p:=eT (?f wWord)) (?hh) (iW ?ak (by erw[one];simp[eV])))
 |.col s c,n+1,d,h,hn,hl=>by
  rw[ED,jV];have hc:?dW=true:=by simpa[ag5,ain]using hl
  show ?wQ;have hw:∀w,w=(?vF)->w≠wWord/\(w=wCol\/w=wOne\/w=wTwo):=λw hw=>by subst hw;cases two<;>cases s<;>decide
  generalize hg:(?vF)=w;obtain⟨w1,w2⟩:=hw w hg.symm;have hix:=(show aU (?mK) (.str (sB (?vF)))=.ok (eD T (?Xo))from by
    cases two with
    |false=>
     obtain rfl:=hab rfl;simp[eE,aU,keyOf,lV,aeF]
    |true=>
     simp only[eE,aU,keyOf,ah9,lV,aeG,if_true];cases s with
     |false=>simp
     |true=>rfl)
  rw[hg]at hix;refine kb (?ay) (evSet (p:=eT (?f w)) (?hh) (kb (by erw[one];rw[mQ ?i ?i];simp[w1]) ?_));rw[nN (b:=true) (by erw[one];rw[Rz ?i];simp;exact w2),?bV,G8];have hv:=Oq hT (r:=?Xo) (by cases s<;>show ?cJ) hc;refine evSet (p:=eT (?vU).tree) (by erw[one];simp only[oH];rw[hix];erw[one];exact hv) ?_;have hdp:=mi (?vU);rw[NY (To (p:=eV (?vU)) (by erw[one];rw[Eg (b:=?j []) ?a (?c) ?i];erw[one];cases ?vU<;>simp[ag4,eV]))]
  rfl
 |.add x y,n+1,d,h,hn,hl=>by
  rw[ED,jV];have hd:1<=d:=?PK
  show ?MN
  have hx:=j0 hT ha hb hab x n ?bQ (h.sub (t:=?ef) ?hW).2 ?a hlx.1;have hy:=j0 hT ha hb hab y n ?bQ (h.sub (t:=?qf) ?cf).2 ?a hlx.2;show ?wQ;refine kb (?ay) ?_;refine evSet (p:=eT (?f wAdd)) (?hh) (kb ?ak ?_);rw[nN (b:=false) ?ak,if_neg (?c)];refine ?D;erw[one];rw[hx,hy];erw[one];rw[yq];simp[Pd];rfl
 |.sub x y,n+1,d,h,hn,hl=>by
  rw[ED,jV];have hd:1<=d:=?PK
  show ?MN
  have hx:=j0 hT ha hb hab x n ?bQ (h.sub (t:=?ef) ?hW).2 ?a hlx.1;have hy:=j0 hT ha hb hab y n ?bQ (h.sub (t:=?qf) ?cf).2 ?a hlx.2;show ?wQ;refine kb (?ay) (evSet (p:=eT (?f wSub)) (?hh) (kb ?ak ?_));rw[nN (b:=false) ?ak,if_neg (?c)];refine ?D;erw[one];rw[hx,hy];erw[one];rw[yq];have:¬wSub=wAdd:=?c
  simp[Pd,this];rfl
theorem j5{two}(hT:aY T)(ha:?wH)(hb:?wI)(hab:?yT){e:Exp}(h:Ok d ?jB)(hd:?gK)(hc:?Vd):jN [eT ?jB,?mK]=?Rs:=
 j0 hT ha hb hab e 41 d h ?a hc
theorem zC:jO [eT (?f wLess),eV x,eV y]=.ok (.bl (match x,y with
  |?ep,?an=>decide (m<n)
  |_,_=>false)):=by
 simp only[xK];refine Kl ?_;erw[aeD];show ?BU<;>simp[eV,NW]
theorem zD:jO [eT (?f wSame),eV x,eV y]=.ok (.bl (x !=?bm&&x==y)):=by
 simp only[xK];refine kI (?D);erw[ajF];have e:vi true (eV x)=.ok (.bl (x !=?bm)):=?yc
 erw[e];congr 3
theorem aeI:vi false (eV x)=.ok (.bl (x==?bm)):=?yc
theorem rY:∀l,asx cs a b l=l.all ?Xh
 |[]=>?H
 |c::r=>by simp only[asx,rY r];rfl
theorem pF:∀l,asd cs a b l=l.any ?Xh
 |[]=>?H
 |c::r=>by simp only[asd,pF r];rfl
theorem v9{T:afr}(h:T.hasCols (x++y)=true):T.hasCols x=true/\T.hasCols y=true:=by simpa[ag5,aof]using h
theorem ajG:oF ?eJ l=By (oF n) l:=rfl
theorem v_{two}{T}(hT:aY T)(ha:?wH)(hb:?wI)(hab:?yT):∀n d(c:Cond),Ok d (?ez)->d<n->d<=41->?ky->oF n [eT (?ez),?mK]=?QG
 |0,d,c,h,hn,hd,hl=>?oY
 |n+1,d,c,h,hn,hd,hl=>by
  rw[ajG,Rl];have start:∀w r rest,outF (ab (aD 2 (c2 aU ?b ?ab)) (ab (aD 3 (FY ?b (oS ?ac) oN)) rest) [.sh (eT (?j (?f w::r))),.sh (?mK),.no,.no,.no])=outF (rest [.sh (eT (?j (?f w::r))),.sh (?mK),.sh (eT (?f w)),.sh (?mw),.no]):=λw r rest=>by simp only[aR,abL];refine evSet (p:=eT (?f w)) (?hh) ?_;exact evSet (p:=?mw) (?hh) rfl
  cases c with
  |less x y=>
   show ?wu;have Ad:1<=d:=?eY
   have hx:=j5 hT ha hb hab (h.sub (t:=?ef) ?hW).2 ?a (v9 hl).1;have hy:=j5 hT ha hb hab (h.sub (t:=?qf) ?cf).2 ?a (v9 hl).2;rw[start];show ?gC;show ?gC;show ?gC;refine kI (?D);erw[one];rw[hx,hy];erw[one];exact zC
  |same x y=>
   show ?wu;have Ad:1<=d:=?eY
   have hx:=j5 hT ha hb hab (h.sub (t:=?ef) ?hW).2 ?a (v9 hl).1;have hy:=j5 hT ha hb hab (h.sub (t:=?qf) ?cf).2 ?a (v9 hl).2;rw[start];show ?gC;show ?gC;show ?gC;refine kI (?D);erw[one];rw[hx,hy];erw[one];exact zD
  |gone x=>
   show ?wu;have Ad:1<=d:=?eY
   have hx:=j5 hT ha hb hab (h.sub (t:=?ef) ?hW).2 ?a hl;rw[start];show ?gC;show ?gC;show ?gC;refine Kl ?_;erw[one];rw[hx];erw[one];exact aeI
  |and_ l=>
   simp only[aic,agw,apH,de,ju,rY]at h hl⊢;have Ad:1<=d:=?eY
   have hlen:=h.len;rw[start];refine Kl ?_;exact vI (l:=l) (en:=λc=>eT (?ez)) ?ch ?Rt (λc hc=>⟨_,?ay,by
    erw[one];exact v_ hT ha hb hab n ?bQ c (h.sub (t:=?ez) (by simp;exact .inr ?yU)).2 ?a ?a ?NE⟩) ?QH
  |or_ l=>
   simp only[aic,agw,apH,de,ju,pF]at h hl⊢;have Ad:1<=d:=?eY
   have hlen:=h.len;rw[start];show ?gC;refine Kl ?_;exact anyC (l:=l) (en:=λc=>eT (?ez)) ?ch ?Rt (λc hc=>⟨_,?ay,by
    erw[one];exact v_ hT ha hb hab n ?bQ c (h.sub (t:=?ez) (by simp;exact .inr ?yU)).2 ?a ?a ?NE⟩) ?QH
  |not_ c=>
   show ?wu;have Ad:1<=d:=?eY
   have hx:=v_ hT ha hb hab n ?bQ c (h.sub (t:=?ez) ?hW).2 ?a ?a hl;rw[start];show ?gC;show ?gC;refine Kl ?_;erw[one];rw[hx];erw[one]
theorem IW{two}(hT:aY T)(ha:?wH)(hb:?wI)(hab:?yT){c:Cond}(h:Ok d (?ez))(hd:?gK)(hc:?ky):oG [eT (?ez),?mK]=?QG:=
 v_ hT ha hb hab 41 d c h ?a ?a hc
def nT(b:?aw):Tree:=?j (b.map aq4)
theorem Ot b:eT (nT b)=.tup (b.map λ?bd=>?O):=by simp[nT]
theorem jv{α:Type}d(l:?aa):l.zipIdx=(afs l.length).map λi=>(l.getD i d,i):=by
 apply aly;intro i;simp only[amP,ad0];by_cases h:i<l.length
 ·simp_all
 simp_all
theorem oK{α:Type}f(l:?aa):mD ?iB=l.zipIdx.map λx=>.tup [?pk,f x.1]:=by delta mD;simp only[List.zipIdx_map,abV];rfl
theorem wa{T:afr}(h:i<T.rows.length):T.row i∈T.rows:=by delta ase;simp_all
theorem yr{T:afr}(h:i<T.rows.length):T.rows[i]?=some ?dO:=by delta ase;rw[ah7,aft h];rfl
section
variable{T:afr}(hT:aY T)
include hT
theorem nQ{c:Cond}(h:Ok d ?tf)(hd:?gK)(hc:?ky):dq [eT ?tf,ay T]=.ok (.lst ((((?ip).filter λi=>!(c.holds T.cols ?dO ?dO)).map ?LC).map eT)):=by
 simp only[xM];refine evSet (~~~(mN hT)) (?D);rw[Al (l:=T.rows.zipIdx) (t:=λx=>!(c.holds T.cols x.1 x.1)) ?ch (by erw[one,two,E5,wN,P1,uH,vg,opt,FP,E7,w9,wY,Du,k_,qQ];rw[oK]) (λx hx=>by
  have hm:x.1∈T.rows:=by
   obtain⟨i,hi⟩:=agj.mp hx;rw[amP]at hi;cases hr:T.rows[i]? with
   |none=>rw[hr]at hi;exact nn hi
   |some r=>rw[hr]at hi;cases hi;exact agj.mpr ⟨i,hr⟩
  refine⟨_,?ay,?_,λ_=>?_⟩
  ·erw[one];have e:Aa [aee "col"] [eD T x.1]=.ok (eE false T x.1 x.1):=by
    rfl
   erw[e,IW hT (hT.len hm) (hT.len hm) (?ar) h hd hc]
  ·rfl) ?OU]
 rw[jv []];simp only[alL,abV];rfl
#where
theorem Kr n i:?mz (λj=>?py)=(afs (n-?bf)).map λk=>i+1+k:=by
 induction n with
 |zero=>simp
 |succ n ih=>
  simp only[aqJ,apJ,ih];by_cases h:i<n
  ·have e:n+1-?bf=(n-?bf)+1:=?M
   simp only[e,aqJ];simp[h];lia
  ·have e:n+1-?bf=n-?bf:=?M
   simp[e,h]
theorem RI{i n:Nat}(hn:n<=5000)(hi:i<=5000):FU [.int (?lE+1),?hd]=.ok ((?mz λj=>?py).map ?xs):=by
 try dsimp only[two,E5,FU]
 rw[if_pos ⟨vU ?a,vU ?a⟩,Kr];simp;have:(((n):Int)-((i)+1)).toNat=n-?bf:=?qH
 rw[this];congr 1
theorem rZ(hn:n<=5000):FT [?hd]=.ok ((?gI).map ?xs):=by
 try dsimp only[one,E5,FT]
 rw[if_pos (vU ?a)];congr 1;refine ?zD;simp
theorem EF(h:?dk=.ok l):WW gs env=FT l:=by show(gs _>>=FT)=_;rw[h];rfl
theorem aeJ(h:?dk=.ok l):iR2 gs env=FU l:=by show(gs _>>=FU)=_;rw[h];rfl
def vK(p:Nat×Nat):Tree:=nT [p.1,p.2]
theorem Ha p:eT (vK p)=.tup [.int (p.1:Nat),.int (p.2:Nat)]:=rfl
def zE(n i:Nat):?jo:=(?mz λj=>?py).map λj=>(i,j)
theorem As n:alc n=(?gI).flatMap (zE n):=rfl
theorem yt(hn:n<=50):hJ [?hd]=.ok (.lst ((alc n).map ?mA)):=by
 rw[Gz];refine ?fI;have hgl:∀i,(zE n i).length<=50:=λi=>by simp only[zE,aa_];exact afh ?hx ?Xi
 have K5:∀l:?aw,(l.flatMap (zE n)).length<=50*l.length:=λl=>by
  induction l with
  |nil=>simp
  |cons a r ih=>
   rw[af2,adW,ad2];have:=hgl a;lia
 obtain⟨se',h1,y,h2⟩:=nM (ft:=b8 2) (gb:=sY 1 (dM 4 [3] (iR2 (c1 (c2 fw ?h ?ac) (c1 ?b c0))) ?fp bT (cF (c1 ?h (c1 ?l c0)) fu))) (en:=?xs) (λpre se=>∃y,se=[.sh (?hd),.ow ((pre.flatMap (zE n)).map ?mA),y,.no]) (?gI) [] [.sh (?hd),.ow [],.no,.no] (λpre a Tn e se⟨y,hy⟩=>by
  subst hy;rw[afP]at e;have ha:a<n:=by have:a∈?gI:=(?tn);show ?fD
  have hpl:pre.length<=50:=by have:=?yF;show ?iT;lia
  refine⟨_,[.sh (?hd),.ow ((?Gs (zE n)).map ?mA),.sh (.int (a:Nat)),.no],?ay,?_,_,rfl⟩;show ?Ny
  rw[yd (l:=?mz ?GT) ?zA ((aeJ (by erw[one];simp only[fw,Rs.aK])).trans (RI ?a ?a)) (λj hj=>⟨_,?H,?H⟩) (by have:=sz;have:=afD (?GT) (?gI);rw[alB]at this;lia)];try simp only[one,two,E5,wN,P1,uH,vg,opt,FP,E7,w9,wY,Du,k_,Rs.aK,vj,jI]
  rw[if_pos (by have h5:=K5 pre;have h6:=afD (?GT) (?gI);rw[alB]at h6;simp only[aa_];have:=sz;lia)]
  simp only[aky,akz,an2,af2,ar_,afM,afU,zE,abV];rfl) ?ad
 refine ?xr
 ·rw[uW ((EF rfl).trans (rZ ?a))];exact h1
 ·rw[h2];refine ?D;erw[one];rw[afP,As]
theorem B6(hn:n<=50):js [?hd]=.ok (.lst ((afs (n-1)).map λi=>eT (vK (i,i+1)))):=by
 simp only[BL];refine ao (yd (en:=?xs) ?A ((EF (l:=[?bB]) rfl).trans ?_) (λi hi=>⟨_,rfl,rfl⟩) ?EG);cases n with
 |zero=>rfl
 |succ m=>
  have:(((m+1:Nat):Int)-1)=(m):=?J
  rw[this,rZ ?a];rfl
theorem aeK:Aa [aee "one",aee ?gJ] ?aE=.ok (.vf [(ahX (aee "one"),a),(ahX (aee ?gJ),b)]):=rfl
theorem yu(h:p∈alc n):p.1<n/\p.2<n:=by delta alc at h;show ?aR;refine R4 h λi hi j hj ajI=>?_;clear h;subst ajI;exact⟨hi,hj.1⟩
theorem d_{y:Cell}:x.tree=y.tree<->x=y:=by show ?BU<;>simp[ag4]
theorem jz:∀{a b:?qy},a.map ag4=b.map ag4<->a=b
 |[],[]=>?c
 |[],_::_=>?J
 |_::_,[]=>?J
 |x::a,y::b=>by simp[jz,d_]
def dJ(l:?qy):Tree:=?j (l.map ag4)
theorem lx l:dp (dJ l)<=2:=?qi λt ht=>by refine ag ?hi λx _ ajJ=>?_;subst ajJ;exact mi x
theorem qh:dJ a=dJ b<->a=b:=by simp[dJ,jz]
section
variable{T:afr}(hT:aY T)
include hT
theorem nR{c:Cond}{l:?jo}(h:Ok d ?JL)(hd:?gK)(hc:?ky)(hl:∀p∈l,p.1<T.count/\p.2<T.count)(hs:?jq):eO [eT ?JL,ay T,.lst (l.map ?mA)]=.ok (.lst ((l.filter λp=>!(c.holds T.cols (T.row p.1) (T.row p.2))).map ?mA)):=by
 simp only[xO];refine evSet (~~~(mN hT)) (ao (Al ?ch rfl (λp hp=>⟨_,?ay,?_,λ_=>?H⟩) ?hZ));obtain⟨h1,h2⟩:=hl p hp;have e1:aU _ _=.ok (eD T (T.row p.1)):=tT (by rw[ad0,yr h1];rfl);have e2:aU _ _=.ok (eD T (T.row p.2)):=tT (by rw[ad0,yr h2];rfl);erw[one];rw[Ha];erw[one];rw[e1,e2];erw[one];simp only[aeK];have hso:=IW (two:=true) hT (hT.len (wa h1)) (hT.len (wa h2)) nofun h hd hc
 rw[show eE true T _ _=.vf _ from rfl]at hso;erw[hso]
theorem r9(hi:?qz):aU ?MT (.int ?bd)=.ok (eT (dJ (afG T ns ?dO))):=tT (by simp only[ad0,yr hi];rfl)
theorem yw:(?AM).length<=5000:=by
 show ?hE;have hgl:∀i,(zE T.count i).length<=40:=λi=>by simp only[zE,aa_];exact afh ?hx (by simpa[amE]using uX)
 have K5:∀l:?fR,(l.flatMap (zE T.count)).length<=40*l.length:=λl=>by
  induction l with
  |nil=>simp
  |cons a r ih=>
   grind
 have:=K5 (?ip);simp only[As];rw[alB]at this;have:T.count<=40:=uX;lia
theorem r_(hp:?ol)(hl:?gQ)(hc:?ia):eY [ay T,p]=.ok (.lst (((?AM).filter λx=>?Dw).map ?IO)):=by
 simp only[BM];refine evSet ?Ve (?D);show ?hE;refine Al ?ch ?_ (λx hx=>⟨_,?ay,?_,λ_=>?H⟩) (by have:=sz;have:=yw hT;lia)
 ·erw[show((((T.rows.map _).map eT).length:Nat):Int)=(T.count:Nat)from by simp[amE]];rw[yt (by show T.rows.length<=50;lia)];rfl
 ·obtain⟨h1,h2⟩:=yu hx;have e1:=r9 hT (ns:=ns) h1;have e2:=r9 hT (ns:=ns) h2;have d1:=lx (afG T ns ?Am);have d2:=lx (afG T ns ?An);erw[one];rw[Ha];erw[one];simp only[e1,e2];erw[one];rw[mQ ?a ?a];erw[one];congr 1;rw[acM];simp[ahY,qh]
theorem tZ(hp:?ol)(hl:?gQ)(hc:?ia)(hp2:?Qs)(hl2:?Xj)(hc2:T.hasCols ms=true):
  eZ [ay T,p,p2]=.ok (.lst (((?AM).filter λx=>?Dw&&!ahY T ms ?Am ?An).map ?IO)):=by
 simp only[tJ];refine evSet (~~~(iR hT hp2 hl2 hc2)) (?D);have hta:=r_ hT hp hl hc;rw[Al (t:=λx=>!ahY T ms ?Am ?An) (e:=?IO) ?ch (by erw[hta];rfl) (λx hx=>⟨_,?ay,by
  obtain⟨h1,h2⟩:=yu ?zE;have e1:=r9 hT (ns:=ms) h1;have e2:=r9 hT (ns:=ms) h2;have d1:=lx (afG T ms ?Am);have d2:=lx (afG T ms ?An);erw[one];rw[Ha];erw[one];simp only[e1,e2];erw[one];rw[mQ ?a ?a];erw[one];congr 1;rw[acM];simp[ahY,qh],λ_=>?H⟩) (by have:=sz;have:=yw hT;have:=afD (λx=>?Dw) (?AM);lia),arJ]
 congr 3;refine alC λx _=>?_;rw[asM]
theorem t_(hU:aY U)(hp:?ol)(hl:?gQ)(hc:?ia)(hp2:?Qs)(hl2:?Xj)(hc2:U.hasCols ms=true):
  e_ [ay T,p,ay U,p2]=.ok (.lst ((((?ip).filter λi=>!(ap0 T U ns ms ?dO)).map ?LC).map eT)):=by
 simp only[tK];refine evSet (p:=.lst ((U.rows.map λr=>dJ (afG U ms r)).map eT)) (~~~(iR hU hp2 hl2 hc2)) (evSet ?Ve (?D));rw[Al (l:=T.rows.zipIdx) (en:=λx=>.tup [?pk,eT (dJ (?tJ))]) (t:=λx=>!(ap0 T U ns ms x.1)) ?ch (by erw[one,two,E5,wN,P1,uH,vg,opt,FP,E7,w9,wY,Du,k_,qQ,abV,oK];rfl) (λx hx=>⟨_,?ay,by
  have dc:=lx (?tJ);erw[one];have ei:jK true ?Bx (eT (dJ (?tJ)))=.ok (.bl (true !=decide (Tree.list []∈(?tJ).map ag4))):=by have:=p9 (neg:=true) (t:=?j []) (l:=(?tJ).map ag4) (?c);simpa[dJ]using this
  rw[ei,mf ?a];erw[one];congr 1;rw[acM];simp only[ap0,abk,afI,decide_eq_false_iff_not,aiV];refine and_congr ?_ ?_
  ·rw[<-akW,afw];refine not_congr ?_;rw[?Pf];show ?wp
  ·rw[amM];simp only[adX,not_exists,not_and,beq_iff_eq,qh]
   ,λ_=>?H⟩) ?OU]
 rw[jv [],alL,abV,abV];rfl
#where
def RJ:Cell->CK
 |?an=>some (amL ?iH)
 |?f w=>some (ahX ?iP)
 |?bm=>none
theorem RK:RJ x=RJ y<->x=y:=by show ?BU<;>simp[RJ,kQ];lia
theorem wb:∀{a b:?qy},a.map RJ=b.map RJ<->a=b
 |[],[]=>?J
 |[],_::_=>?J
 |_::_,[]=>?J
 |x::a,y::b=>by simp[wb,RK]
theorem uY:∀l:?qy,mF ((l.map ag4).map eT)=some (l.map RJ)
 |[]=>rfl
 |x::r=>by simp only[abL,mF];rw[uY r];cases x<;>simp[ag4,aa6,RJ]
theorem B7 l:F8 (eT (dJ l))=some (l.map RJ):=by simp only[dJ,aR];exact uY l
section
variable(T:afr)(ns:?cc)
def fk(i:Nat):?fM:=(afG T ns ?dO).map RJ
def qi(g:?aw):?fM×?e:=(?kG,g.map ?cK)
def jl(l:List (?aw))(i:Nat):List (?aw):=match l.findIdx? λg=>?JM λj=>ahY T ns ?dO ?qB with
 |none=>l++[[i]]
 |?as=>l.set k (((l[k]?).getD [])++[i])
theorem EG:?BW=(?ip).foldl ?uA []:=rfl
structure Ks(l:List (?aw)):Prop where
 ne:∀g∈l,g≠[]
 nd:(l.map λg=>?kG).Nodup
variable{T ns}
theorem ly:ahY T ns ?dO ?qB=decide (fk T ns j=?iC):=by delta ahY fk;rw[acM,decide_eq_true_eq,wb,beq_iff_eq];exact eq_comm
theorem ua(h:Ks T ns l)i:(jl T ns l i).map (qi T ns)=g7 (?kO) (?iC) (.int ?bd)/\Ks T ns (jl T ns l i):=by
 have hp:∀g∈l,(?JM λj=>ahY T ns _ ?qB)=decide ((qi T _ g).1=fk T _ i):=λg hg=>by
  cases g with
  |nil=>exact absurd rfl (h.ne _ hg)
  |cons a r=>simp only[qi];exact ly
 unfold jl;cases hf:l.findIdx? _ with
 |none=>
  have CT:∀g∈l,(qi T _ g).1≠fk T _ i:=λg hg e=>by have:=apQ.mp hf g hg;rw[hp g hg,decide_eq_false_iff_not]at this;exact this e
  have Wt:(?kO).any (λx=>decide (x.1=?iC))=false:=by rw[amM];refineλx hx=>ag ?mP λg hg ajK=>?_;subst ajK;simpa using CT g hg
  refine⟨?_,?_,?_⟩
  ·unfold g7;rw[Wt,afU];rfl
  ·intro g hg;rcases afC.mp hg with hg|hg
   ·exact h.ne g hg
   ·simp at hg;rw[hg];simp
  ·rw[afU,ahL];refine⟨h.nd,?J,λa ha b hb=>?_⟩;simp at hb;subst hb;refine ag ?tT λg hg ajL=>?_;subst ajL;exact CT g hg
 |some k=>
  obtain⟨hk,Wu,_⟩:=aiO.mp hf;have Xg:l[k]∈l:=aqr _;rw[hp _ Xg,decide_eq_true_eq]at Wu;have hne:=h.ne _ Xg;have Wt:(?kO).any (λx=>decide (x.1=?iC))=true:=by rw[akA];exact⟨_,adX.mpr ⟨_,Xg,rfl⟩,by simpa using Wu⟩
  have hd:(l[k]++[i]).headD 0=l[k].headD 0:=by
   cases e:l[k]with
   |nil=>show ?aD
   |cons a r=>rfl
  simp only[aft hk,aqo];refine⟨?_,?_,?_⟩
  ·unfold g7;rw[Wt,?bV];apply aly;intro j;rw[ad0,ad0,ad0,ap1];by_cases hj:k=j
   ·subst hj;rw[?bV,?jH,aft hk];simp only[aqK];rw[if_pos Wu];simp only[qi,hd,afU,abL,agn]
   ·rw[if_neg hj];cases e:l[j]? with
    |none=>rfl
    |some g=>
     simp only[aqK];rw[if_neg];intro e2;have a1:(l.map λg=>?kG)[k]?=some (?iC):=by rw[ad0,aft hk];exact congrArg _ Wu
     have a2:(l.map λg=>?kG)[j]?=some (?iC):=by rw[ad0,e];exact congrArg some e2
     exact hj ((apX (?xJ) h.nd).mp ?Yp)
  ·intro g hg;rcases apR hg with hg|rfl
   ·exact h.ne g hg
   ·simp
  ·have:((l.set k (l[k]++[i])).map λg=>?kG)=l.map λg=>?kG:=by
    rw[List.map_set,hd];apply aly;intro j;rw[ap1];by_cases hj:k=j
    ·subst hj;simp[hk]
    ·rw[if_neg hj]
   rw[this];exact h.nd
theorem uZ:∀(rs:List Row)i l,Ks T ns l->(∀k r,rs[k]?=some r->T.row (i+k)=r/\gk (i+k) (?ur)=.ok (eT (dJ (afG T ns r))))->
  pQ gk i ?si (?kO)=.ok (((?Qt ?uA l)).map (qi T ns))/\Ks T ns (?Qt ?uA l)
 |[],i,l,h,_=>⟨rfl,?gf⟩
 |r::rs,i,l,h,hr=>by
  obtain⟨h1,h2⟩:=hr 0 r rfl;simp at h1 h2;obtain⟨s1,s2⟩:=ua h i;have ih:=uZ _ _ _ s2 λk x hx=>by have:=hr ?cz x ?bM;rw[show i+1+k=i+?cz by lia];show ?eM
  simp only[ad2,List.range'_succ,ah0];refine⟨?_,ih.2⟩;simp only[<-ih.1,s1];simp only[abL];conv=>lhs;unfold pQ
  simp only[h2];simp only[Rs.aK];rw[B7];simp only[opt,fk,h1]
#where
theorem gS(hT:aY T)(hc:?ia)(hl:?gQ):bD [?hQ,.tup (ns.map λc=>?ew)]=.ok (.E4 ((?BW).map λg=>.lst (g.map λ?bd=>?O))):=by
 delta bD Bj;simp only[two,uH];rw[if_pos (by simp only[aa_];have:=hT.Ct;have:=sz;lia)];have h:=uZ (gk:=λi row=>(cF (c1 ?L ?v) _) [some (?hQ),?bk,none,some (.int (i)),?Cr]) T.rows 0 [] (Ks.mk (λg hg=>absurd hg ?i) ?i) λk r hr=>by have hk:=(aeH.mp hr).1;rw[aqA];have e:=yr hk;rw[hr]at e;have e:=afE e;refine⟨e.symm,?_⟩;erw[one];exact qd (hT.len (agj.mpr ⟨k,hr⟩)) hc hl
 rw[show(aqq _ [])=[]from rfl]at h;rw[h.1];simp only[Rs.aK,Dx,abV];simp only[EG,List.range_eq_range'];rfl
theorem yx{α:Type}{ft}{gb}{en}{f}{b m}(St:?e->?jP):∀(l:?aa)acc se,?ws->(∀a∈l,?sS)->(∀a∈l,?Mp)->?qk->∃se',?vM/\?wn
 |[],acc,se,_,_,_,h=>⟨se,rfl,?gf⟩
 |a::r,acc,se,hm,hb,hs,h=>by
  have hm2:acc.length+b+b*r.length<=m:=by simp at hm;lia
  refine ah (hs a ?aS _ _ (afh (?vp) hm2) h) λmP ox h1 h2 h3=>?_;have hfa:=hb a ?aS;refine ag (yx _ r _ _ (by rw[adW];lia) (λa ha=>hb a ?LO) ?Ec h3) λse' h4 h5=>⟨se',?_,?W⟩;rw[abL];unfold dv;simp[h1,quiet,h2,h4]
theorem IX{α:Type}{gi:GS}{ft}{gb g2:GF}{en}{f}(St:?e->?jP)(l:?aa)(hg:gi ?jT=.ok ?hj)(hm:?ws)(hb:∀a∈l,?sS)
  (hs:∀a∈l,?Mp) (h0:?qk) (fin:∀se',?wn->?HT):outF (ab ?zq g2 se)=r:=
 ag (yx _ l _ _ hm hb hs h0) λse' h1 h2=>eP ((uW hg).trans h1) (fin _ h2)
theorem wc{α β:Type}t(e:?ob):∀l:?aa,(l.flatMap λa=>if t a=true then [e a]else [])=?Gr
 |[]=>rfl
 |a::r=>by simp only[af2,wc t e r,amf];cases t a<;>simp
theorem nU{α β:Type}(t:α->Option β):∀l:?aa,(l.flatMap λa=>(t a).toList)=l.filterMap t
 |[]=>rfl
 |a::r=>by rw[af2,nU t r,ajH];cases t a<;>simp
theorem Ou{ge:GE}(hi:?iJ=some (?cU))(hg:?dd=?bC)(hl:?xk):lT i ge se=.ok (.nx ?RM):=by delta lT;simp_all[E7]
theorem Tq{ge:GE}(hi:?iJ=some (?cU))(hg:?dd=?bC)(hp:vj p=.ok z)(hl:acc.length+z.length<=sizeLine):sY i ge se=.ok (.nx (se.set i (.ow (acc++z)))):=by delta sY;simp_all[E7]
theorem Hb{gt:GB}{ge:GE}(hi:?iJ=some (?cU))(ht:gt ?bA=?dq)(hg:?dQ->?dd=?bC)(hl:?xk):bC gt (lT i ge) fN se=.ok (.nx (se.set i (.ow (acc++if ?dQ then [p]else [])))):=by
 rw[tU ht];cases b with
 |true=>exact~~~(Ou hi (hg rfl) hl)
 |false=>rw[?iD,?iD,afM,(show se.set i (Slot.ow acc)=se from by
  apply aly;intro j;rw[ap1];by_cases h:i=j
  ·subst h;rw[?bV,if_pos ?JV,hi]
  ·rw[?fK])]
theorem Tr(h:a≠b):(neg:Bool)->bz neg (eT (?f a)) (eT (?f b))=.ok (.bl neg):=λneg=>by rw[mQ (?bg) ?dx];simp[h]
theorem Tt:(neg:Bool)->bz neg (eT (?f a)) (eT (?f a))=.ok (.bl (!neg)):=λneg=>by rw[mQ ?i ?i];simp
def Bd(g:GF)(se:SE)(P:?jP):Prop:=∃s,g se=.ok (.nx s)/\P s
theorem EH{ge:GE}{g:GF}(h:?dd=?bC)(k:Bd g ?kK P):Bd (ab ?qp g) se P:=ag k λs a b=>⟨s,(rO (Ey h)).trans a,b⟩
theorem Ov{gt:GB}(h:gt ?bA=?dq)(k:?dQ->Bd g1 se P)(l:b=false->Bd g2 se P):Bd (bC gt g1 g2) se P:=by
 cases b
 ·exact ag (l rfl) ?PL
 ·exact ag (k rfl) ?PL
theorem Wv{ge:GE}(hi:?iJ=some (?cU))(h:?dd=?bC)(hl:?xk)(k:P ?RM):Bd (lT i ge) se P:=⟨_,Ou hi h hl,k⟩
theorem Pe(k:P se):Bd fN se P:=⟨_,rfl,k⟩
theorem bdF{α:Type}{gi:GS}{ft}{gb:GF}{en}{f}(St:?e->?jP)(l:?aa)(hg:gi ?jT=.ok ?hj)(hm:?ws)(hb:∀a∈l,?sS)
  (hs:∀a∈l,∀acc se,acc.length+b<=m->?qk->∃mP,?sq/\?Te) (h0:?qk) (fin:∀se',?wn->P se'):Bd ?zq se P:=
 ag (yx St l acc se hm hb (λa h acc se x y=>ag (hs a h acc se x y) λs z w=>ag w λs' u v=>⟨s,s',z,u,v⟩) h0) λs a b=>⟨s,(uW hg).trans a,fin s b⟩
theorem i0{α:Type}{gi:GS}{ft}{gb g2:GF}{en}{f}(St:?e->?jP)(l:?aa)(hg:gi ?jT=.ok ?hj)(hm:?ws)(hb:∀a∈l,?sS)
  (hs:∀a∈l,∀acc se,acc.length+b<=m->?qk->∃mP,?sq/\?Te) (h0:?qk) (fin:∀se',?wn->?HT):outF (ab ?zq g2 se)=r:=
 ag (bdF St l hg hm hb hs h0 fin) λ_ a b=>eP a b
theorem B8{g:GE}{F:PV->?k}(h:g e=?bC)(k:F p=r):cU F g e=r:=(?Xf).trans k
theorem i5(h:?hf):?dW=true:=by
 cases e:?dW with
 |true=>rfl
 |false=>rw[IT e]at h;exact ft h
theorem cell_in(hT:aY T)(hc:?dW=true)(hr:?qe):r[?rn]?=some (?kQ):=by
 obtain⟨i,hi⟩:=aka.mp hc;have hlt:i<r.length:=by rw[?BL];exact(an1.mp hi).1
 delta cq afX;rw[hi,show(T.cols.findIdx? _)=?fQ from hi];simp[hlt]
theorem nV(hT:aY T)(h:?hf)(hr:?qe):?kQ=?bm\/∃n,?kQ=?an:=by
 have hc:=i5 h;refine ag (jg hc) ?HV;rw[B3 hT h1 h2]at h;have h3:=hT.has hr h1 (cell_in hT hc hr);unfold ap2 at h3;cases hk:col.kind with
 |of_ ws=>rw[hk]at h;exact nomatch h
 |up n=>
  rw[hk]at h3;cases hx:afX _ r c with
  |gone=>exact ?y
  |num n=>exact .inr ⟨n,rfl⟩
  |word w=>rw[hx]at h3;simp[apj]at h3
def nC:Cell->Nat
 |?an=>n
 |_=>0
theorem EI:∀(l:?aw)a,l.foldl (λ(x y:Nat)=>x+y) a=a+l.sum
 |[],a=>rfl
 |x::l,a=>by simp only[ah0,EI l,aoV];lia
theorem Au:∀(l:?qy),(∀x∈l,x=?bm\/∃n,x=?an)->∃ns,intsOf ((l.filter λx=>!decide (x=?bm)).map ?eZ)=some ns/\ns.sum=((l.map nC).sum:Nat)
 |[],_=>⟨[],rfl,rfl⟩
 |x::l,h=>by
  refine ag (Au l ?Ez) λns h1 h2=>?_;rcases h x ?aS with rfl|⟨n,rfl⟩
  ·refine⟨ns,?_,?_⟩
   ·exact h1
   simp[h2,nC]
  ·refine⟨(n)::ns,?_,?_⟩
   ·show(UR _).bind (λa=>(intsOf _).map _)=_;rw[h1];rfl
   simp[h2,nC]
theorem Av{x:Cell}:x.tree=?j []<->x=?bm:=by cases x<;>simp[ag4]
section
variable{T:afr}(hT:aY T)
include hT
theorem Hc(hs:?Yq)(hg:∀i∈g,?qz)(hl:g.length<=5000):l9 [eT (am2 s),ay T,.lst (g.map λ?bd=>?O)]=.ok (.int (amc T s g:Nat)):=by
 rw[GA];show ?aW;cases s with
 |none=>exact Kl (akT (b:=.ok (.int ((g.map ?cK).length:Nat))) ?ak ?yd)
 |some c=>
  have hu:?hf:=by simpa using hs
  have Tj:=i5 hu;have hp:=gw (p:=.tup [eT (?f c)]) (ns:=[c]) hT.c6 rfl (afh (show 1<=5000 by decide) hz);rw[if_pos (by simp[ag5,Tj])]at hp;refine kI (evSet (p:=?ew) (rT (sD (a:=.tup [eT (?f c)]) ?ak rfl hp) rfl ix0) (evSet (p:=.lst (g.map λi=>eT (afX T.cols ?dO c).tree)) (yd ?A rfl (λi hi=>?gj) ?a) (?D)))
  ·refine rT (rT ?AN rfl (tT (by rw[ad0,ad0,yr (hg i hi)];rfl))) rfl ?_;rw[afx,aR];refine BV ?_;rw[ad0,ad0,cell_in hT Tj (wa (hg i hi))];rfl
  refine ag (Au (g.map λi=>afX T.cols ?dO c) λx hx=>by obtain⟨i,hi,rfl⟩:=adX.mp hx;exact nV hT hu (wa (hg i hi))) λns h1 h2=>sC (Al (l:=g.map λi=>afX T.cols ?dO c) (en:=?eZ) (e:=?eZ) (t:=λx=>!decide (x=?bm)) ?A (congrArg Rs.ok (?yR)) (λx hx=>⟨_,rfl,?_,?ar⟩) ?aj) ?_
  ·have:=mi x;refine(oI (rT rfl rfl (Eg (b:=?j []) ?a (?c) ?i))).trans ?_;simp[Av]
  ·refine(congrArg (opt λns=>Rs.ok (PV.int ns.sum)) h1).trans ?_;show Rs.ok (PV.int ns.sum)=_;rw[h2];simp only[amc];rw[EI,aqA,abV];rfl
theorem yy:(∀g∈?BW,∀i∈g,?qz)/\(∀g∈?BW,g.length<=T.count)/\?xP<=T.count:=by
 have key:∀(l:?fR)a m,(∀i∈l,?qz)->(∀g∈a,(∀i∈g,?qz)/\g.length<=m)->a.length<=m->(∀g∈l.foldl ?uA a,(∀i∈g,?qz)/\g.length<=m+l.length)/\(l.foldl ?uA a).length<=m+l.length:=by
  intro l;induction l with
  |nil=>exactλa m _ h2 h3=>⟨λg hg=>h2 g hg,h3⟩
  |cons i l ih=>
   intro a m h1 h2 h3;have:=ih (jl T ns a i) (m+1) (λj hj=>h1 j (aaV _ hj)) ?_ ?_
   ·simp only[ad2];rw[show m+(l.length+1)=m+1+l.length by lia];show ?eM
   ·intro g hg;unfold jl at hg;split at hg
    ·rcases afC.mp hg with hg|hg
     ·exact ?OF
     ·simp at hg;subst hg;exact⟨λj hj=>by simp at hj;subst hj;exact h1 j ?aS,?J⟩
    ·rename_i k hk;rcases apR hg with hg|rfl
     ·exact ?OF
     ·have Rt:=(aiO.mp hk).1;rw[aft Rt];have:=h2 _ (aqr Rt);refine⟨λj hj=>?_,?mM⟩;rcases afC.mp hj with hj|hj
      ·exact ?nV j hj
      ·simp at hj;subst hj;exact h1 j ?aS
   ·unfold jl;split
    ·simp;lia
    ·simp;lia
 have:=key (afs _) [] 0 (λi hi=>?GB) (λg hg=>by simp at hg) ?i;rw[alB,aqA]at this;exact⟨λg hg=>(?nV g hg).1,λg hg=>(?nV g hg).2,this.2⟩
#where
theorem Hd(h:Ok d (afN cs)):?Xg:=by have:=h.len;have:=sz;simp at*;lia
theorem yz{T:afr}{c:Cond}(hT:aY T)(h1:Ok d ?tf)(hd:?gK)(hg:?ky):gD [eT ?tf,ay T]=.ok (.lst (((if T.rows.any ?Es then []else [[]]).map nT).map eT)):=by
 simp only[xP];have h1:=nQ hT h1 hd hg;have hn:T.rows=(?ip).map T.row:=by have h2:=congrArg (aqq Prod.fst) (jv ([]:Row) T.rows);simp only[abV,List.zipIdx_map_fst]at h2;exact h2
 refine fW (b:=T.rows.any ?Es) ?_ (?T) λz=>?D
 ·erw[h1,cj];congr 1;simp only[aa_];rw[acM,decide_eq_true_eq];conv=>rhs;rw[hn]
  rw[arQ,akA];have hlt:(((?ip).filter λi=>!(c.holds T.cols ?dO ?dO)).length<(?ip).length)<->∃x,x∈?ip/\((?Es)∘T.row) x=true:=by
   show ?cI
   ·refineλhlt=>apP λCT=>?_;have:((?ip).filter λi=>!(c.holds T.cols _ ?dO))=?ip:=aiR.mpr λi hi=>by
     have:¬(c.holds T.cols _ ?dO=true):=λz=>CT ⟨i,hi,z⟩;show ?fD
    rw[this]at hlt;lia
   ·refineλajM=>ag ajM λi hi hh=>List.length_filter_lt_length_iff_exists.mpr ⟨i,hi,?_⟩;simp only[ai2]at hh;simp[hh]
  simp only[<-hlt];simp only[alB,amE];lia
 ·erw[one];rw[z];rfl
 ·erw[one];rw[z];rfl
theorem ub{T:afr}(hT:aY T)(h1:Ok d (afN cs))(hg:T.hasCols cs=true/\x.all (agt T)=true):fb [?Sn,ay T]=.ok (.lst ((((?CG).filter λg=>?Da).map nT).map eT)):=by
 simp only[tL];refine i8 (yy hT (ns:=cs)) ?yB;have uX:T.count<=40:=hT.Ct;show ?aW;have e0:?Sn=.tup [eT (?f wGroups),eT (?f t),?tW,eT (am2 x),.int (lo:Nat),.int (hi:Nat)]:=?H
 rw[e0];generalize ht:PV.tup [eT (?f wGroups),eT (?f t),?tW,eT (am2 x),.int (lo:Nat),.int (hi:Nat)]=tr;refine evSet (p:=.E4 ((?CG).map λg=>.lst (g.map λ?bd=>?O))) ?_ ?_
 ·subst ht;erw[cj];rw[gw hT.c6 (by simp[afN,g6,vj,jI]) (Hd h1),if_pos hg.1];exact~~~(gS hT hg.1 (Hd h1))
 refine ?fI;generalize hgs:PV.E4 ((?CG).map λg=>.lst (g.map λ?bd=>?O))=gs;refine IX (m:=5000) (b:=1) (en:=λg:?aw=>PV.lst (g.map λ?bd=>?O)) (f:=λg=>if(?Da)=true then [eT (nT g)]else []) (λacc se=>∃y z,se=[.sh tr,?cO,.sh gs,?cU,y,z]) (?CG) ?ak ?aj (λg _=>?HW) (λg hm acc se ha⟨y,z,hy⟩=>by
   subst hy;have hgl:=g2 g hm;refine⟨_,_,?H,?_,.sh (.lst (g.map λ?bd=>?O)),.sh (.int (amc T x g:Nat)),rfl⟩;rw[rO (Ey (~~~(Hc hT hg.2 (g1 g hm) ?a)))];show ?Bw;rw[Hb (p:=eT (nT g)) (b:=?Da) rfl (by rw[<-ht];erw[one];congr 1;rw[acM];simp) (λ_=>by erw[Ot];rfl) ?a]
   rfl) ?jw ?_
 rintro se' ⟨y,z,rfl⟩;refine ?D;erw[one];simp only[afP,wc,abV];rfl
theorem mm2{l:?aw}:Rs.ok (PV.lst ((l.map ?LC).map eT))=.ok (.lst (((l.map λi=>[i]).map nT).map eT)):=by rw[abV (f:=λi:Nat=>[i])];rfl
theorem mm3{l:?jo}:Rs.ok (PV.lst (l.map ?mA))=.ok (.lst (((l.map λp=>[p.1,p.2]).map nT).map eT)):=by rw[abV,abV];rfl
theorem yA(hs:∀T∈s,aY T)(hk:Ok d k.tree)(hd:d<=41)(hg:?qE=true):fS [?jK,.lst ?bU]=.ok (.lst (((aog s k).map nT).map eT)):=by
 rw[GC];show ?MZ
 have bd:∀{T:afr},?Ie=?eH->aog s k=_:=λh=>by unfold aog;rw[h]
 have g0:∀{r:?k},?Ie=none->r=?dN:=λh=>by unfold anI at hg;rw[h]at hg;cases hg
 have hrl:∀{T:afr},(((?Ek).length:Nat):Int)=(T.count:Nat):=by simp[amE]
 have h2:∀{a b c},Ok d (?j ?lG)->Ok ?bQ c:=λh=>(h.sub ?cf).2;have h3:∀{T},aY T->T.count<=50:=λh=>afh h.Ct (?c);cases k with
 |each t c=>
  show ?fw;show ?lB;rw[bd hf];exact Kl ((~~~(nQ ?fJ ?vv ?a hg)).trans mm2)
 |any t c=>
  show ?fw;show ?lB;rw[bd hf];exact kI (Kl (~~~(yz ?fJ ?vv ?a hg)))
 |pairs t c=>
  show ?fw;show ?lB;rw[bd hf];have hT:=hs T hT;have e:=yt (h3 hT);rw[<-hrl]at e;exact kI (kI (Kl ((Wf rfl rfl (~~~e) (nR hT ?vv ?a hg (λp hp=>yu hp) (yw hT))).trans mm3)))
 |next t c=>
  show ?fw;show ?lB;rw[bd hf];have hT:=hs T hT;have e:=B6 (h3 hT);rw[<-hrl]at e;refine kI (kI (kI (Kl ((Wf rfl rfl ((~~~e).trans (congrArg (λl=>Rs.ok (PV.lst l)) (abV (f:=λi=>(i,i+1)) (g:=?mA)).symm)) (nR hT ?vv ?a hg (?dc) ?_)).trans ?_))))
  ·refine ag ?LD λi hi ajP=>?_;subst ajP;rw[am3]at hi;exact⟨by show i<_;lia,by show i+1<_;lia⟩
  ·have:=h3 hT;simp;lia
  ·simp only[alL,abV];rfl
 |key t cs=>
  show ?fw;show ?lB;rw[bd hf];exact kI (kI (kI (kI (Kl ((~~~(r_ ?fJ ?nL (Hd ?vv) hg)).trans mm3)))))
 |fixes t cs ds=>
  show ?fw;show ?lB;rw[bd hf];have hg:=ao1.mp hg;exact kI (kI (kI (kI (kI (Kl ((~~~(tZ ?fJ ?nL (pE hk ?cf) hg.1 (fZ ds) (pE hk (.tail _ ?cf)) hg.2)).trans mm3))))))
 |refers t cs u ds=>
  show ?fw;show ?lB;rw[bd hf];have hg:=ao1.mp hg;have e:=jX (s:=s) (w:=u);cases hu:s.find u with
  |none=>rw[hu]at hg;exact nomatch hg.2
  |some U=>
   rw[hu]at e hg;exact kI (kI (kI (kI (kI (kI (Kl ((Xd rfl rfl (~~~e) rfl (t_ ?fJ (hs U (eQ hu).1) ?nL (pE hk ?cf) hg.1 (fZ ds) (pE hk (.tail _ (.tail _ ?cf))) hg.2)).trans (by simp only[hu];exact mm2))))))))
 |groups t cs x lo hi=>
  show ?fw;show ?lB;rw[bd hf];exact kI (kI (kI (kI (kI (kI (kI (ao (~~~(ub (t:=t) ?fJ (hk.sub ?cf).2 (ao1.mp hg))))))))))
def dc{κ:Type}[?sY](g:Nat->κ):Nat->Nat
 |0=>0
 |n+1=>dc g n+if(?gI).any (λi=>decide (g i=g n))=true then 0 else 1
theorem qj{κ:Type}[?sY]{g:Nat->κ}{k}:(?gI).any (λi=>decide (g i=k))=true<->∃i,i<n/\g i=k:=?J
theorem Ow [?sY][DecidableEq μ]{g:Nat->κ}{h:Nat->μ}(hf:∀i j,h i=h j->g i=g j):∀n,dc g n<=dc h n/\(dc g n=dc h n<->∀i j,i<n->j<n->g i=g j->h i=h j)
 |0=>⟨?cs,by simp[dc]⟩
 |n+1=>by
  obtain⟨h1,h2⟩:=Ow hf n;unfold dc;by_cases hh:∃i,i<n/\h i=h n
  ·refine ag hh ?Ky;rw[if_pos (qj.mpr ⟨i,hi,hf _ _ e⟩),if_pos (qj.mpr ?KF)];refine⟨h1,?_⟩;simp only[Nat.add_zero,h2];show ?cI
   ·intro z a b ha hb e2;rcases ahO.mp ha with ha|rfl
    ·show ?xc
     ·exact z a b ha hb e2
     ·rw[<-e];exact z a i ha hi (by simp only[e2,hf _ _ e])
    ·show ?xc
     ·rw[<-e];exact z i b hi hb (by simp only[<-e2,hf _ _ e])
     ·rfl
   ·exactλz a b ha hb=>z a b ?a ?a
  ·rw[if_neg (λz=>hh (qj.mp z))];by_cases hg:∃i,i<n/\g i=g n
   ·rw[if_pos (qj.mpr hg)];refine⟨?M,(ag hg ?Ky)⟩;show ?cI
    ·intro z;lia
    ·exactλz=>absurd ⟨i,hi,z i n ?a ?a e⟩ hh
   ·rw[if_neg (λz=>hg (qj.mp z))];refine⟨?M,?_⟩;show ?cI
    ·intro z a b ha hb e2;have z2:=h2.mp ?a;rcases ahO.mp ha with ha|rfl
     ·show ?xc
      ·exact z2 a b ha hb e2
      ·exact absurd ⟨a,ha,e2⟩ hg
     ·show ?xc
      ·exact absurd ⟨b,hb,e2.symm⟩ hg
      ·rfl
    ·intro z;have:=h2.mpr λa b ha hb=>z a b ?a ?a;lia
theorem Tu:∀n,dc (λi:Nat=>i) n=n
 |0=>rfl
 |n+1=>by unfold dc;simp[Tu n]
section
theorem Kt n:(?wl).length=dc (fk T ns) n/\Ks T ns (?wl)/\∀k,(∃g∈?wl,?kG=k)<->∃i,i<n/\?iC=k:=by
 induction n with
 |zero=>exact⟨rfl,⟨λg hg=>absurd hg ?i,?J⟩,λk=>?J⟩
 |succ n ih=>
  refine i8 ih ?sX;rw[aqJ,aoD];show ?uc;generalize ?wl=l at h1 h2 h3;refine⟨?_,(ua h2 n).2,?_⟩
  ·unfold dc jl;cases hf:l.findIdx? λg=>?JM λj=>ahY T ns (T.row n) ?qB with
   |none=>
    rw[if_neg]
    ·simp[h1]
    ·refineλz=>ag (qj.mp z) λi hi e=>ag ((h3 _).mpr ?KF) λg hg e2=>?_;have:=apQ.mp hf g hg;cases g with
     |nil=>exact h2.ne _ hg rfl
     |cons a r=>simp[ly]at this;exact this (by simpa using e2)
   |some k=>
    rw[if_pos]
    ·simp[h1]
    ·obtain⟨hk,Wu,_⟩:=aiO.mp hf;have Xg:l[k]∈l:=aqr hk;refine qj.mpr ((h3 _).mp ⟨l[k],Xg,?_⟩);cases e:l[k]with
     |nil=>exact absurd e (h2.ne _ Xg)
     |cons a r=>rw[e]at Wu;simpa[ly]using Wu
  ·intro k;have hm:=(ua h2 n).1;have hen:∀L:List (?aw),(∃x∈L.map (qi T ns),x.1=k)<->∃g∈L,?kG=k:=λL=>⟨by refineλajQ=>ag ajQ λx hx e=>ag ?mP λg hg ajR=>?_;subst ajR;exact⟨g,hg,e⟩,λajS=>ag ajS λg hg e=>⟨_,adX.mpr ⟨g,hg,rfl⟩,e⟩⟩;rw[<-hen,hm];unfold g7;have hl:(∃x∈?kO,x.1=k)<->∃i,i<n/\?iC=k:=by simp only[<-h3 k];exact hen l
   by_cases ha:(?kO).any (λx=>decide (x.1=fk T ns n))=true
   ·rw[if_pos ha];have he:(∃x∈(?kO).map (λx=>if x.1=fk T ns n then(x.1,x.2++[PV.int ?iH])else x),x.1=k)<->∃x∈?kO,x.1=k:=by
     show ?cI
     ·refineλaeL=>ag aeL λx hx ajT=>?_;clear aeL;rw[<-ajT];refine ag ?mP λy hy ajU=>?_;rw[<-ajU];refine⟨y,hy,?_⟩;split<;>rfl
     ·refineλaeM=>ag aeM λx hx ajV=>?_;clear aeM;subst ajV;refine⟨_,adX.mpr ?IN,?_⟩;split<;>rfl
    refine Iff.trans (he) (hl.trans ?_);show ?cI
    ·exactλajW=>ag ajW λi hi e=>⟨i,?M,e⟩
    ·refineλajX=>ag ajX ?Ky;rcases ahO.mp hi with hi|rfl
     ·exact ?KF
     ·simp only[akA,decide_eq_true_eq]at ha;exact ag ha λx hx e2=>hl.mp ⟨x,hx,e2.trans e⟩
   ·rw[if_neg ha];show ?cI
    ·refineλaeN=>ag aeN λx hx ajY=>?_;clear aeN;subst ajY;show ?oG
     ·exact ag (hl.mp ?IN) λi hi e=>⟨i,?M,e⟩
     ·show ?fY;rw[hx];exact⟨n,?M,rfl⟩
    ·refineλaeO=>ag aeO λi hi ajZ=>?_;clear aeO;subst ajZ;rcases ahO.mp hi with hi|rfl
     ·exact ag (hl.mpr ⟨i,hi,rfl⟩) λx hx e=>⟨x,agx _ hx,e⟩
     ·exact⟨_,afF _ (List.mem_singleton_self _),rfl⟩
theorem qk:?xP=dc (fk T ns) T.count:=(Kt _).1
theorem EJ:(alc n).all f=true<->∀i j,i<j->j<n->f (i,j)=true:=by
 rw[adY];unfold alc;simp only[aid,adX,afJ,am3,decide_eq_true_eq];show ?cI
 ·exactλh i j hij hj=>h _ ⟨i,?M,j,⟨hj,hij⟩,rfl⟩
 ·refineλh x aeP=>R4 aeP λi hi j aj1 aj2=>?_;clear aeP;obtain⟨hj,hij⟩:=aj1;subst aj2;exact h i j hij hj
theorem Ku{ns:?cc}:akp T ns=decide (?xP=T.count):=by
 rw[acM,decide_eq_true_eq,qk];have h:=(Ow (g:=fk T ns) (λi j e=>by have e:i=j:=e;rw[e]) T.count).2;rw[Tu]at h;simp only[h];unfold akp;rw[EJ];simp only[ly,afI,decide_eq_false_iff_not];show ?cI
 ·intro z i j hi hj e;rcases arZ i j with hl|rfl|hl
  ·exact absurd e.symm (z i j hl hj)
  ·rfl
  ·exact absurd e (z j i hl hi)
 ·intro z i j hl hj e;have:=z j i hj ?a e;simp_all
theorem sf:fk T (ns++[d]) i=fk T (ns++[d]) j<->?iC=fk T ns j/\ahY T [d] ?dO ?qB=true:=by unfold fk ahY afG;rw[wb,wb,afU,afU,beq_iff_eq];simp_all
#where
theorem Tv:aM [.E4 l]=?kD:=rfl
def o7(T:afr)(ns:?cc):Tree:=nT (ns.map ?nQ)
theorem si T ns:?pG=.tup (ns.map λc=>?ew):=by simp only[o7,Ot,abV];rfl
section
variable{T:afr}(hT:aY T)
include hT
theorem EK(hc:?ia)(hl:?gQ):jQ [?pG,?hQ]=.ok (.bl (akp T ns)):=by simp only[NR];refine ?D;erw[si,gS hT hc hl,Rs.aK,Tv,Ku];congr 2;show ?Ru;simp only[amE,aa_];lia
theorem nW(hc:?ia)(hd:(T.colNo d).isSome=true)(hl:ns.length<sizeLine):cu [?pG,?kL,?hQ]=.ok (.bl (am4 T ns d)):=by
 simp only[xQ];refine ?D;erw[one];have e:fw (?pG) (.tup [.int (cq T d)])=.ok (.tup ((ns++[d]).map λc=>.int (?rn))):=by
  rw[si];unfold fw;by_cases hn:ns=[]
  ·rw[hn];simp
  ·simp only[List.map_eq_nil_iff,hn,if_false];rw[if_pos ⟨?J,?mM⟩];simp
 rw[e];erw[one];rw[si,gS hT hc ?a,gS hT (by unfold ag5 at hc⊢;simp only[aof,hc];simpa using hd) ?aj];simp only[Rs.aK,Tv];erw[one];rw[(show am4 T ns d=decide (?xP=(ahw T (ns++[d])).length)from by
    rw[acM,decide_eq_true_eq,qk,qk];rw[(Ow (λi j e=>(sf.mp e).1) _).2];unfold am4;rw[EJ];have hs:∀i j,ahY T [d] ?dO _=ahY T _ ?qB _:=λi j=>by unfold ahY;rw[acM,beq_iff_eq,beq_iff_eq];exact eq_comm
    simp only[ly (ns:=ns),agD,afI,decide_eq_false_iff_not];show ?cI
    ·intro z i j hi hj e;rcases arZ i j with hl|rfl|hl
     ·exact sf.mpr ⟨e,(z i j hl hj).resolve_left λz=>z e.symm⟩
     ·rfl
     ·exact sf.mpr ⟨e,by rw[hs];exact(z j i hl hi).resolve_left λz=>z e⟩
    ·intro z i j hl hj;by_cases e:fk T ns j=?iC
     ·exact .inr (sf.mp (z i j ?a hj e.symm)).2
     ·exact .inl e)]
 congr 2;simp;lia
#where
theorem u4{l m:?aA}(hp:g6 p=.ok ?bK)(hw:w=.tup (m.map eT)\/w=.lst (m.map eT))(hd:∀t∈l,?iF)(hl:?gS):bM [p,w]=.ok (.bl (l.all λt=>decide (t∈m))):=by
 simp only[Eb];refine ao (vI ?A (hp) (λt ht=>⟨_,?ay,?_⟩) hl);erw[one];rcases hw with rfl|rfl
 ·rw[p9 (hd t ht),aoF]
 ·rw[mf (hd t ht),aoF]
theorem B9(ha:?TP)(hb:(T.colNo b).isSome=true):cq T a=cq T b<->a=b:=by
 show ?cI
 ·refineλe=>ag (jg ha) λx h1 h2=>ag (jg hb) λy h3 h4=>?_;simp_all[e]
 ·intro e;rw[e]
theorem ij{ks:List (?cc)}(hk:∀k∈ks,?Pg)(hb:T.hasCols b=true)(hl:?WQ):bc [.lst (ks.map ?eS),eT (o7 T b)]=.ok (.bl (ks.any λk=>k.all b.contains)):=by
 simp only[tM];refine ao (anyC ?A rfl (λk E2=>⟨_,?ay,?_⟩) hl);erw[one];rw[u4 (l:=(k.map ?nQ).map aq4) (m:=(b.map ?nQ).map aq4) (by simp[o7,nT,g6]) (.inl (by simp[o7,nT])) (λt ht=>by refine ag ?hi λn _ aj3=>?_;subst aj3;simp) (by simpa using((hk k E2).2))]
 congr 2;rw[abV,aox];rw[acM,adY,adY];refine forall_congr' λc=>forall_congr' λhc=>?_;simp;show ?cI
 ·refineλaj4=>ag aj4 λx hx e=>?_;simp_all[(B9 (adY.mp hb x hx) (adY.mp ((hk k E2).1) c hc)).mp e]
 ·exactλh=>⟨c,h,rfl⟩
theorem Kv(hn:n<=6):dZ [.lst ((?gI).map ?cK),.int 3]=.ok (.lst ((ahQ 3 (?gI)).map λc=>.tup (c.map ?cK))):=by show ?FM<;>first|lia|rfl
theorem Kw(hn:n<=6)(hf:f<n):dZ [.lst ((?mz ?FN).map ?cK),.int 2]=.ok (.lst ((ahQ 2 (?mz ?FN)).map λc=>.tup (c.map ?cK))):=by show ?FM<;>rcases f with _|_|_|_|_|_|f<;>first|lia|rfl
theorem EL(hn:n<=6):(ahQ 3 (?gI)).length<=42:=by show ?FM<;>first|lia|decide
theorem Aw(hn:n<=6)(hf:f<n):(ahQ 2 (?mz ?FN)).length<=42:=by
 have go:∀n:Fin 7,∀f:Fin 6,f.val<n.val->(ahQ 2 ((afs n.val).filter λi=>decide (i≠f.val))).length<=42:=?c
 exact go ⟨n,?M⟩ ⟨f,?M⟩ hf
theorem ql(f:?ob):∀k l,ahe k ?iB=(ahe k l).map (aqq f)
 |0,l=>by cases l<;>rfl
 |k+1,[]=>rfl
 |k+1,x::r=>by simp only[abL,ahe];rw[ql f k r,ql f _ r,afU,abV,abV];rfl
theorem lA(f:?ob)n l:ahQ n ?iB=(ahQ n l).map (aqq f):=by unfold ahQ;simp only[am5];congr 1;funext k;exact ql f k l
theorem j6:∀{k}{l s:?aa},s∈ahe k l->s.length=k/\∀x∈s,x∈l
 |0,l,s,h=>by simp_all[ahe]
 |k+1,[],s,h=>by simp[ahe]at h
 |k+1,a::r,s,h=>by
  simp only[ahe,afC,adX]at h;rcases h with⟨z,hz,rfl⟩|h
  ·obtain⟨h1,h2⟩:=j6 hz;simp_all[h1]
  ·obtain⟨h1,h2⟩:=j6 h;exact⟨h1,λx hx=>?HX⟩
theorem j7(h:?LE):s.length<=n/\∀x∈s,x∈l:=by refine ag (aid.mp h) λk hk h=>?_;obtain⟨h1,h2⟩:=j6 h;rw[am3]at hk;exact⟨?M,h2⟩
def nX(p:?cc->Bool)(kept:List (?cc))(s:?cc):List (?cc):=if(!(kept.any ?kz)&&p s)=true then kept++[s]else kept
theorem ik{p:?cc->Bool}:∀(l kept:List (?cc)),am6 kept (?Bq)=?FO
 |[],kept=>rfl
 |s::r,kept=>by
  simp only[ah0,<-ik r,amf];unfold nX;cases hp:p s with
  |false=>simp
  |true=>
   rw[?bV];cases ha:kept.any _ with
   |true=>rw[if_neg (?c),am6,ha,?bV]
   |false=>rw[if_pos (?H),am6,ha,?iD]
def Tw(T:afr)(k:?cc):Prop:=T.hasCols k=true/\k.length<=6
theorem lB{P:?cc->Prop}:∀(l kept:List (?cc)),(∀s∈l,p s=true->P s)->(∀k∈kept,P k)->(∀k∈?FO,P k)/\(?FO).length<=kept.length+l.length
 |[],kept,_,h=>⟨h,?cs⟩
 |s::r,kept,h1,h2=>by
  simp only[ah0];have h3:(∀k∈?LF,P k)/\(?LF).length<=kept.length+1:=by
   unfold nX;split
   ·rename_i hz;rw[abk]at hz;exact⟨λk hk=>by
     rcases afC.mp hk with hk|hk
     ·exact h2 k hk
     ·simp at hk;rw[hk];exact h1 _ ?aS hz.2,?J⟩
   ·exact⟨h2,?J⟩
  obtain⟨h4,h5⟩:=lB r _ (λs hs=>h1 s (aaV _ hs)) h3.1;exact⟨h4,?mM⟩
theorem yB{ft}(St:?e->?jP){l:List (?cc)}(hl:l.length<=42)(hin:∀s∈l,Tw T s)
  (hs:∀kept,(∀k∈kept,Tw T k)->kept.length<=42->∀s∈l,∀se,St (kept.map ?eS) se->∃mP ox,ft (?tX) se=.ok mP/\?xv/\St ((?LF).map ?eS) ox) (h0:St [] se):
  ∃se',dv ft gb (l.map ?eS) se=?IV/\St ((am6 [] (?Bq)).map ?eS) se':=by
 rw[ik];have h:=nM (λpre se=>St ((pre.foldl (nX p) []).map _) se) l [] _ (λpre s Tn e se hI=>by
  simp at e;have hm:s∈l:=?tn
  obtain⟨h1,h2⟩:=lB pre [] (λk hk _=>hin k (by rw[e];simp[hk])) ?i;have hpl:pre.length<=l.length:=by have:=?yF;show ?iT;simp_all
  refine ah (hs _ h1 (by simp at h2;lia) s hm _ hI) λmP ox a b c=>⟨mP,ox,a,b,?_⟩;rw[aoD];exact c) h0
 simpa using h
section
variable{T:afr}(hT:aY T)
include hT
theorem yC(h:?lk=?CF):cq T col.name=i/\?QI:=by
 have hs:?QI:=by unfold anm;rw[aq3,akA];exact⟨col,agj.mpr ⟨i,h⟩,?J⟩
 exact ag (jg hs) λx h1 h2=>⟨(Tp hT h1 h h2 rfl).1,hs⟩
theorem il:(?au).map ?nQ=?jj:=by
 apply aly;intro i;unfold aa4;simp;cases h:?lk with
 |none=>simp_all
 |some col=>
  have hi:=?tC;simp only[apq hi];simp[(yC hT h).1]
theorem j8(h:c∈?au):?dW=true:=by refine ag (adX.mp h) λcol hc aeQ=>?_;subst aeQ;obtain⟨i,hi⟩:=agj.mp hc;exact(yC hT hi).2
theorem uc(hl:∀c∈l,c∈?au)(hn:n<=6)(h:?LE):Tw T s:=by obtain⟨h1,h2⟩:=j7 h;exact⟨(adY.mpr λc hc=>j8 hT (hl c (h2 c hc))),?M⟩
theorem sj:fc ?iR=.ok (.lst (?pT ?eS)):=by
 rw[BN];refine ?fI;show ?fh;show ?aW;have Sg:(ahQ 3 ?aK).length<=42:=by have:=EL h6;rwa[<-il hT,lA,aa_]at this
 obtain⟨se',h1,y,h2⟩:=yB (ft:=b8 2) (gb:=bC (bA (bN (bV (cF (c1 ?x (c1 ?h c0)) (bc)))) (bV (cF (c1 ?h (c1 (cU (fl ?R) ?b) c0)) (jQ)))) (lT 1 ?h) fN)
  (λacc se=>∃y,se=[?cO,?cU,y]) Sg (λs hs=>uc hT (?lx) ?a hs) (λkept hk hkl s hs se⟨y,e⟩=>by
   rw[e];have ho:=uc hT (?lx) ?a hs;have hh:=ij ?NH ho.1 ?a;refine⟨_,_,?ay,?_,.sh (?tX),rfl⟩;rw[Hb (b:=!(kept.any ?kz)&&akp T s) rfl (by erw[one];rw[hh];erw[one];rw[cj];erw[one];rw[EK hT ho.1 ?Xk];erw[one]) (λ_=>?H) ?aj]
   unfold nX;cases !(kept.any ?kz)&&akp T s<;>simp) ?ad
 refine ?xr
 ·rw[uW ?_]
  ·exact h1
  ·erw[one];rw[bK];erw[one];have e1:lrF [.int ((T.cols.map (eC)).length:Nat)]=.ok (.lst ((?jj).map ?cK)):=by
    try erw[lrF,aa_]
    rw[if_pos (vU ?a)];simp only[Dk,alz];congr 2;refine ?zD;congr 1;lia
   rw[e1];erw[one];rw[Kv h6,<-il hT,lA];try erw[Rs.aK,g6,vj,jI,abV]
   congr 1;refine ?zD;simp only[ai2,si,abV];rfl
 ·rw[h2];exact ao rfl
theorem qm(hd:d∈?au):dH [ay T,?kL]=.ok (.lst ((?rk).map ?eS)):=by
 rw[pZ];show ?fh;show ?aW;have RL:=j8 hT hd;show ?NI;have hf:(?jj).filter (?wt)=((?au).filter ?ll).map ?nQ:=by rw[<-il hT,alL];congr 1;refine alC ?mW;rw[acM];show ?PA;rw[B9 (j8 hT hc) RL]
 have hin:∀c∈(?au).filter (?ll),c∈?au:=λc hc=>(?jL).1;have Sg:(ahQ 2 ((?au).filter ?ll)).length<=42:=by have:=Aw h6 hlt;rwa[hf,lA,aa_]at this
 refine evSet (p:=.lst (((?jj).filter ?wt).map ?cK)) ?_ ?_
 ·refine Al (l:=?jj) (en:=?cK) ?zA ((EF (l:=[.int (T.cols.length:Nat)]) (by erw[one];rw[bK];erw[one];simp)).trans (rZ ?a)) (λi hi=>⟨_,?ay,?_,λ_=>?hh⟩) ?aj;erw[one];congr 1;rw[acM];simp;lia
 refine ?fI;generalize ho:PV.lst (((?jj).filter ?wt).map ?cK)=others;obtain⟨se',h1,y,h2⟩:=yB (T:=T) (p:=λs=>am4 T s d) (ft:=b8 4) (gb:=bC (bA (bN (bV (cF (c1 ?l (c1 ?L c0)) (bc)))) (bV (cF (c1 ?L (c1 ?x (c1 (cU (fl ?R) ?b) c0))) (cu)))) (lT 3 ?L) fN)
  (λacc se=>∃y,se=[?cO,.sh (?kL),.sh others,?cU,y,.no]) (l:=ahQ 2 ((?au).filter ?ll)) (se:=[?cO,.sh (?kL),.sh others,.ow [],.no,.no]) Sg (λs hs=>uc hT hin ?a hs) (λkept hk hkl s hs se⟨y,e⟩=>by
   subst e;have ho:=uc hT hin ?a hs;have hh:=ij ?NH ho.1 (ks:=kept) ?a;refine⟨_,_,?ay,?_,.sh (?tX),rfl⟩;rw[Hb (acc:=kept.map ?eS) (p:=?tX) (b:=!(kept.any ?kz)&&am4 T s d) rfl (by erw[one];rw[hh];erw[one];rw[cj];erw[one];rw[nW hT ho.1 RL ?Xk];erw[one]) (λ_=>?H) ?aj]
   unfold nX;cases !(kept.any ?kz)&&am4 T s d<;>simp) ?ad
 refine ?xr
 ·rw[uW (l:=(ahQ 2 ((?au).filter ?ll)).map ?eS) ?_]
  ·exact h1
  ·subst ho;erw[one];rw[Kw h6 hlt,hf,lA];try erw[Rs.aK,g6,vj,jI,abV]
   congr 1;refine ?zD;simp only[ai2,si,abV];rfl
 ·subst h2;exact ao rfl
theorem oM:(∀k∈?kl,Tw T k)/\(?kl).length<=42:=by
 have Sg:(ahQ 3 ?aK).length<=42:=by have:=EL hT.c6;rwa[<-il hT,lA,aa_]at this
 unfold aiS;rw[ik];obtain⟨h1,h2⟩:=lB (ahQ Vadttb.KEY _) [] (λs hs _=>uc hT (?lx) ?dx hs) ?i;exact ?Ph
theorem yD(hd:d∈?au):(∀k∈?rk,?So)/\(?rk).length<=42:=by
 have RL:=j8 hT hd;show ?NI;have hf:(?jj).filter (?wt)=((?au).filter ?ll).map ?nQ:=by simp only[<-il hT,alL];congr 1;refine alC ?mW;rw[acM];show ?PA;rw[B9 (j8 hT hc) RL]
 have hin:∀c∈(?au).filter (?ll),c∈?au:=λc hc=>(?jL).1;have Sg:(ahQ 2 ((?au).filter ?ll)).length<=42:=by have:=Aw hT.c6 hlt;rwa[hf,lA,aa_]at this
 unfold al8;rw[ik];obtain⟨h1,h2⟩:=lB (P:=λk=>?So) _ [] (λs hs _=>⟨uc hT hin ?dx hs,λz=>by have:=(afJ.mp ((j7 hs).2 d z)).2;show ?iT,(j7 hs).1⟩) ?i
 exact ?Ph
#where
theorem aj5:KZ (?cx) (some 1) none=.ok (.lst (l.drop 1)):=by
 cases l with
 |nil=>rfl
 |cons x r=>
  have e:HT.k8 (x::r).length 0 (some (((1))))=1:=rfl;simp_all[KZ,HT.CS,JD]
def eK(T:afr)(k:Claim):PV:=.tup [?jK,.int (akf T k:Nat)]
theorem Ww:jR ?aE=.ok (.tup [eT (?f wGone),.tup ?aE]):=rfl
theorem qo:fU ?aE=.ok (.tup [eT (?f wNot),.tup [eT (?f wLess),a,b]]):=rfl
theorem mn{α β:Type}{f:α->Option β}{p}:∀{l:?aa},(∀a∈l,p a=false->f a=none)->(?Bq).filterMap f=l.filterMap f
 |[],_=>rfl
 |a::r,h=>by
  have ih:=mn ?EE;rw[amf,ajH];cases hp:p a with
  |true=>rw[?bV,ajH,ih]
  |false=>rw[?iD,h a ?aS hp,ih]
theorem EM{c:Bytes}(h:∀x∈l,x=c):(c::l).eraseDups=[c]:=by
 rw[an3];have:l.filter (λb=>!b==c)=[]:=aoG.mpr λx hx=>by rw[h x hx];simp
 rw[this];rfl
theorem Ax:∀(l:?aw)n,y0 ?iH (l.map λ?bd=>?lE)=(l.foldl min n:Nat)
 |[],n=>rfl
 |a::l,n=>by have:=Ax l (min n a);unfold y0 at this⊢;simp;lia
theorem Ay:∀(l:?aw)n,yZ ?iH (l.map λ?bd=>?lE)=(l.foldl max n:Nat)
 |[],n=>rfl
 |a::l,n=>by have:=Ay l (max n a);unfold yZ at this⊢;simp;lia
theorem Tx(h:?rD):JI [.lst (l.map ?cK)]=.ok (.int (akq l:Nat)):=by
 cases l with
 |nil=>exact ?Kh
 |cons n r=>
  try simp only[one,uH,opt,wY,JI]
  rw[p_ _];simp;rw[Ax];simp[akq]
theorem Tz(h:?rD):JH [.lst (l.map ?cK)]=.ok (.int (akR l:Nat)):=by
 cases l with
 |nil=>exact ?Kh
 |cons n r=>
  try simp only[one,uH,opt,wY,JH]
  rw[p_ _];simp;rw[Ay];simp[akR]
theorem RM{l:?aw}:bz neg (.lst (l.map λ?iH=>PV.int n)) ?bu=?sa:=by have:=eq_nil (neg:=neg) (l:=l.map aq4) (λt ht=>by refine ag ?hi λ_ _ aj6=>?_;subst aj6;simp);rw[abV,anS]at this;exact~~~(this)
theorem Wx r:dp (afx r)<=2:=lx r
section
variable{T:afr}(hT:aY T)
include hT
theorem lC:mD (T.cols.map (eC))=T.cols.map λc=>.tup [.int ?dt,eC c]:=by
 rw[oK];apply aly;intro i;rw[ad0,ad0,amP];cases h:?lk with
 |none=>rfl
 |some c=>simp[(yC hT h).1]
theorem f_(h:?mX):(T.colNo c.name).isSome=true/\T.cols[?im]?=?bj/\agt T c.name=?gn:=by obtain⟨i,hi⟩:=agj.mp h;obtain⟨h1,h2⟩:=yC hT hi;exact⟨h2,by rw[h1];exact hi,B3 hT hi rfl⟩
theorem Kx(h:?mX)(hk:?gn=false)(hr:?qe):?Xl=?bm\/∃w,?Xl=?f w:=by
 refine i8 (f_ hT h) λh1 h2 _=>?_;have h3:=?Qu;unfold ap2 at h3;cases Rt:c.kind with
 |up n=>rw[Rt]at hk;exact nomatch hk
 |of_ ws=>
  rw[Rt]at h3;cases hx:afX _ r _ with
  |gone=>exact ?y
  |word n=>exact .inr ⟨n,rfl⟩
  |num w=>rw[hx]at h3;simp[apj]at h3
theorem mq(hc:?dW=true):c_ [ay T,?ew]=.ok (.lst ((?el).map ?eZ)):=by
 simp only[GH];refine ?D;show ?aW;show ?hE;rw[yd (en:=λr=>eT _) ?ch ?Fm (λr hr=>⟨_,?ay,by
  erw[one];simp only[afx,aR];refine BV ?_;simp only[ad0,cell_in hT hc hr];rfl⟩) ?a]
 unfold abN;rw[abV];rfl
theorem gU(hc:?dW=true):bJ [ay T,?ew]=.ok (.lst (((?el).filter ?ed).map ?eZ)):=by simp only[BP];refine ?D;show ?aW;show ?hE;refine Al ?A (by erw[mq hT hc];rfl) (λx hx=>⟨_,?ay,?_,?ar⟩) (by unfold abN;simp;lia);have:=mi x;erw[one];rw[Eg (b:=?j []) ?a ?lH ?i];erw[one];congr 1;rw[acM];simp[ag6,Av]
theorem oO(hu:?hf):((?el).filter ?ed).map (?eZ)=(af0 (?el)).map λ?iH=>PV.int n:=by
 have h:∀x∈?el,x=?bm\/∃n,x=?an:=λx hx=>by refine ag ?mP λr hr aj7=>?_;subst aj7;exact nV hT hu hr
 revert h;generalize ?el=l;intro h;induction l with
 |nil=>rfl
 |cons x r ih=>
  have ih:=ih ?Ez;rcases h x ?aS with rfl|⟨n,rfl⟩
  ·exact~~~(ih)
  ·rw[List.filter_cons_of_pos rfl,abL,ih];rfl
omit hT in
theorem He{x:Cell}:(![x].contains ?bm)=!ag6 x:=?yc
omit hT in
theorem nY{c:Bytes}:apK T [c]=((?el).filter ?ed).length:=by
 have h:∀rs:List Row,rs.countP (λr=>!(afG T [c] r).contains ?bm)=((rs.map λr=>?kQ).filter ?ed).length:=λrs=>by rw[apk,alL,aa_];exact congrArg amN (alC λr _=>He)
 exact h T.rows
theorem jh:bP ?iR=.ok (.lst ((?gN).map λc=>.int ?dt)):=by simp only[vD];refine ?D;show ?aW;show ?fh;refine Al ?A (by erw[bK,one,two,E5,wN,P1,uH,vg,opt,FP,E7,w9,wY,Du,k_,Rs.aK,qQ];rw[lC hT]) (λc hc=>⟨_,?ay,?_,?ar⟩) ?a;erw[d0]
theorem RN{l:?qy}:jK neg ?Bx (.lst (l.map ?eZ))=.ok (.bl (neg !=decide (anR∈l))):=by have:=mf (neg:=neg) (t:=?j []) (l:=l.map ag4) ?dx;rw[abV]at this;refine akT this ?_;congr 3;rw[acM,decide_eq_true_eq,decide_eq_true_eq,?Pp];show ?wp
theorem vL:fD ?iR=.ok (.lst ((?Tf).map ?dn)):=by
 rw[vE];refine ?fI;show ?aW;show ?fh;refine i0 (m:=5000) (b:=1) (f:=λc=>((amX T c).map ?dn).toList) (λacc se=>∃y z,se=[?cO,?cU,y,z]) T.cols ?Dl ?aj (λc _=>by cases amX T c<;>simp) ?md ?jw ?_
 ·obtain⟨y,z,rfl⟩:=hy;have e1:bz true (?hQ) ?bu=.ok (.bl (true !=(T.rows.map afx).isEmpty)):=eq_nil λt ht=>by
   refine ag ?hi λr _ Vy=>?_;subst Vy;have:=Wx r;lia
  have ef:amX T c=if(c.may&&(true !=(T.rows.map afx).isEmpty&&true !=decide (anR∈?bb)))=true then some (?eq T.name (.not_ (?bm ?Ae)))else none:=by
   unfold amX;rw[Bool.and_assoc,show(?bb).all (?ed)=!decide (anR∈?bb)from by rw[acM];simp only[afI,decide_eq_false_iff_not,adY,ag6,beq_eq_false_iff_ne];exact⟨λz hx=>z _ hx rfl,λz x hx e=>z (e▸hx)⟩]
   simp
  refine⟨_,rfl,Ov (bAe (oI (B8 rfl An)) (bAe (oI (rT ?AN rfl e1)) (oI (rT rfl (sD rfl rfl (mq hT (?hF).1)) (RN hT))))) (?T) ?T⟩
  ·rw[ef,?ek];exact Wv (p:=eK T _) rfl (akT (b:=.ok (.tup [eT (asH T.name (.not_ (?bm ?Ae))).tree,.int ((?Ek).length:Nat)])) ?ak (by rw[aa_,aa_];rfl)) ?a ?jw
  ·rw[ef,z];exact Pe ⟨_,_,congrArg (λl=>[_,Slot.ow l,_,_]) (afM _).symm⟩
 rintro se' ⟨y,z,rfl⟩;refine ?D;erw[afP,nU,anp]
theorem yE:gF ?iR=.ok (.lst ((?Tg).map ?dn)):=by
 rw[xS];refine ?fI;show ?aW;show ?fh;have K5:=afD (λc:Column=>?gn) T.cols;refine i0 (m:=5000) (b:=1) (en:=λc:Column=>PV.int ?dt) (f:=λc=>((amT T c).map ?dn).toList) (acc:=[]) (λacc se=>∃y z u v w,se=[?cO,?cU,y,z,u,v,w]) (?gN) ?SM ?aj (λc _=>by cases amT T c<;>simp) ?md ?ss ?_
 ·obtain⟨y,z,u,v,w,rfl⟩:=hy;obtain⟨hc,hu⟩:=?jL;obtain⟨h1,h2,h3⟩:=?hF;rw[hu]at h3;have ht:=gU hT h1;rw[oO hT h3]at ht;have hlen:(af0 (?bb)).length=apK T [c.name]:=by
   have:=congrArg amN (oO hT h3);rw[nY];simpa using this.symm
  have er:amT T c=match af0 (?bb)with|[]=>none|l=>some (?OA):=rfl
  generalize af0 (?bb)=l at ht hlen er;refine⟨_,rfl,EH (sD rfl rfl ht) (Ov (oI (rT rfl rfl RM)) (?T) ?qg)⟩
  ·cases l with
   |nil=>show ?nq
   |cons n r=>
    have e3:akf T (?eq T.name (am7 c.name (akq (n::r)) (akR (n::r))))=((n::r).map λ?iH=>PV.int n).length:=by rw[aa_,hlen];simp only[akf,am7,agw,ags,aho,ain];congr 1;exact EM ?i
    rw[er];exact EH ?NF (EH rfl (EH (Wf rfl (sD rfl (sC rfl (Tx nofun)) qo) (sD (sC rfl (Tz nofun)) rfl qo) rfl) (Wv (p:=eK T _) rfl (by rw[eK,e3];kernel_rfl) ?a ?ss)))
  ·cases l with
   |nil=>rw[er];exact⟨_,_,_,_,_,?Us⟩
   |cons n r=>show ?nq
 rintro se' ⟨y,z,u,v,w,rfl⟩;refine ?D;erw[one];rw[afP,nU,<-anp,mn λc hc hk=>by
  unfold amT;have:af0 (?bb)=[]:=by unfold af0 abN;rw[ami,apS];intro r hr;simp only[ai2];rcases Kx hT hc hk hr with e|⟨w,e⟩<;>rw[e]
  rw[this]]
#where
theorem zF:iJ ?lG=.ok (.tup [eT (?f wOr),.tup [eT (?f wGone),.tup [eT (?f wCol),a]],.tup [eT (?f wGone),.tup [eT (?f wCol),b]],c]):=rfl
theorem kJ:eA [.str (sB c),.str (sB d)]=.ok (eT ((amg c d).tree false)):=?H
def o8(x:Nat×Nat):PV:=.tup [.int (x.1:Nat),?pk]
section
variable{T:afr}(hT:aY T)
theorem lD:agm T d c=(?cP).map λx=>(x.2,x.1):=by delta agm;rw[anp];congr 1;funext r;cases afX _ r c<;>cases afX _ r d<;>rfl
theorem Az(h:?cP≠[]):af0 (?el)≠[]:=by
 obtain⟨x,hx⟩:=List.exists_mem_of_ne_nil _ h;refine ag (ahi.mp hx) λr hr e=>?_;intro z;delta af0 abN at z;rw[ami,apS]at z;have:=z r hr;show ?iT;cases hc:afX _ r c with
 |num n=>rw[hc]at this;show ?aD
 |word n=>rw[hc]at e;show ?er
 |gone=>rw[hc]at e;show ?er
include hT
theorem yF(hc:?hf)(hd:?pH)(hn:?cP≠[]):jS [ay T,?ew,?kL,.lst ((?cP).map o8)]=.ok (.bl (?CS)):=by
 simp only[GI];show ?aW;show ?hE;have hl:(?cP).length<=40:=afh ?lr uX;show ?PB
 refine fW (b:=! ?qA) ?_ (?T) λz=>?D
 ·simp only[bV];rw[anyC (f:=λx=>! ?Hb) ?ch rfl (λx hx=>⟨_,?ay,by
   erw[o8];congr 2;rw[acM];simp⟩) ?a]
  erw[one];congr 1;unfold ahq;rw[acM];simp
 ·have z:?qA=false:=?eR
  rw[z];rfl
 ·have z:?qA=true:=?eR
  erw[z,gU hT (i5 hc),gU hT (i5 hd),oO hT hc,oO hT hd,Tz (Az hn),Tx (Az hn2)];congr 2;rw[acM];simp
def B_(T:afr)(c d:Bytes):Option Cond:=
 if ?qA&&?uU then some (apm c d)
 else if ?CS then some (amg c d)
 else if ?uU&&decide (akq (af0 (?el))<akR (af0 (abN T d)))then some (amg d c)
 else none
def cV:Option Cond->PV
 |?as=>eT (?Kz)
 |none=>.b_
#where
theorem EN{T:afr}{c:Column}(hk:c.kind=.of_ ws):aj0 T c=if((ws.filter (alj (?bb)).contains).isEmpty||(ws.filter (alj (?bb)).contains).length==ws.length)=true then none else some (?eq T.name (akX c.name (ws.filter (alj (?bb)).contains))):=by unfold aj0;rw[hk]
theorem Ky{l:?cc}:bz neg (.lst (l.map λw=>eT (?f w))) ?bu=?sa:=by have:=eq_nil (neg:=neg) (l:=l.map agV) (λt ht=>by refine ag ?hi λ_ _ Vz=>?_;subst Vz;simp);rw[abV,anS]at this;exact~~~(this)
theorem RO:jK false (eT (?f w)) (.lst ((l.filter ?ed).map ?eZ))=.ok (.bl ((alj l).contains w)):=by
 have:=mf (neg:=false) (t:=?f w) (l:=(l.filter ?ed).map ag4) (?bg);rw[abV]at this;refine akT this ?_;congr 2;show ?Ys;delta alj;simp;show ?cI
 ·refineλaj8=>ag aj8 λx aeR e=>?_;obtain⟨hx,_⟩:=aeR;cases x with
  |word v=>simp[ag4]at e;rw[<-e];exact ?IS
  |num n=>simp[ag4]at e
  |gone=>simp[ag4]at e
 ·refineλaeS=>ag aeS λx hx e=>?_;cases x with
  |word v=>simp at e;rw[<-e];exact⟨_,⟨hx,rfl⟩,rfl⟩
  |num n=>show ?er
  |gone=>show ?aD
theorem ud:∀ws:?cc,∀x∈ags (ws.map λw=>asf (aho c) (?f w)),x=c
 |[],x,h=>by simp[ags]at h
 |w::r,x,h=>by
  simp only[abL,ags,agw,aho,ain,afM,afC,afO]at h;rcases h with h|h
  ·exact h
  ·exact ud r x h
section
variable{T:afr}(hT:aY T)
include hT
theorem zG:iI ?iR=.ok (.lst ((?Th).map ?dn)):=by
 rw[zm];refine ?fI;show ?aW;show ?fh;refine i0 (m:=5000) (b:=1) (en:=λc:Column=>PV.tup [.int ?dt,eC c]) (f:=λc=>((aj0 T c).map ?dn).toList) (acc:=[]) (λacc se=>∃y z u v w x,se=[?cO,?cU,y,z,u,v,w,x,.no]) T.cols ?Dl ?aj (λc _=>by cases aj0 T c<;>simp) ?md ?Vf ?_
 ·obtain⟨y,z,u,v,w,x,rfl⟩:=hy;refine⟨_,rfl,EH (~~~(gU hT (?hF).1)) (Ov (bNe (oI (sC rfl d0))) (?cS) λh=>Pe ?_)⟩
  ·cases hk:c.kind with
   |up n=>rw[hk]at h;exact ft h
   |of_ ws=>
    have hwl:ws.length<=10:=by have:=(hT.co c hc).wl;rw[hk]at this;show ?eM
    have hw:=qc (c:=c) (by rw[hk];rfl);rw[hk]at hw;have hf:=EN (T:=T) hk;rw[hf];have hul:=afD (alj (?bb)).contains ws;refine EH (Al (l:=ws) (t:=(alj (?bb)).contains) (en:=λw=>eT (?f w)) (e:=λw=>eT (?f w)) ?A (Xe (sC rfl hw) ?Wc) (λw hw=>⟨_,rfl,oI (~~~RO),?ar⟩) ?a) ?_;generalize ws.filter (alj (?bb)).contains=used at hul⊢;refine Ov (bAe (oI (rT rfl rfl Ky)) (oI (rT rfl (sC (sC rfl hw) rfl) rfl))) (?T) ?qg
    ·simp[K4]at z;rw[if_neg (by simp[z.1];lia)];refine EH (yd (l:=used) (en:=λw=>eT (?f w)) (e:=λw=>eT ((asf ?Ae (?f w)).tree false)) ?A rfl (λw hw=>?gj) ?a) (EH (p:=eT ((?HY).tree false)) ?_ (Wv rfl (p:=eK T (?eq T.name (?HY))) ?_ ?a ?Vf))
     ·kernel_rfl
     ·refine rT (sD rfl (sD rfl rfl Ww) rfl) rfl (akT (b:=if(used.map λw=>eT ((asf ?Ae (?f w)).tree false))≠[]/\_ then _ else _) rfl ((if_pos ⟨by simp[z.1],?mM⟩).trans ?_));simp[akX,aic,de,akC,aho,akD];exact ?jv
     ·erw[one];rw[gQ];erw[one];rw[eK,(show akf T (?eq T.name (?HY))=((?bb).filter ?ed).length by rw[<-nY];simp only[akf,akX,agw,ags];exact congrArg _ (EM (ud used)))];simp[ak3]
    ·simp[K4]at z;rw[if_pos (by rw[agD,beq_iff_eq];exact Classical.or_iff_not_imp_left.mpr λh=>anr hul (z (?gf)))];exact⟨_,_,_,_,_,_,?Us⟩
  ·cases hk:c.kind with
   |up n=>exact⟨_,_,_,_,_,_,by unfold aj0;rw[hk,aqL,apL,afM];rfl⟩
   |of_ ws=>rw[hk]at h;exact nomatch h
 rintro se' ⟨y,z,u,v,w,x,rfl⟩;refine ?D;erw[one];rw[afP,nU,anp]
#where
theorem yG:∀l:?aa,ahe 1 l=l.map λx=>[x]
 |[]=>rfl
 |x::r=>by show(ahe 0 r).map _++ahe 1 r=_;rw[yG r];cases r<;>rfl
theorem mr{α β:Type}{f g:α->?vt}:∀{l:?aa},(∀a∈l,f a=g a)->?KI=l.flatMap g
 |[],_=>rfl
 |a::r,h=>by rw[af2,af2,h a ?aS,mr ?EE]
theorem qp{β:Type}T(g:Bytes->Bytes->?vt)(hm:∀c d,m [c,d]=some (c,d)):∀l:?pQ,l.Pairwise ?Qc->
  ((ahe 2 (l.map ?pI)).filterMap m).flatMap (λx=>g x.1 x.2)=l.flatMap λc=>(l.filter λd=>decide (?im<?iq)).flatMap ?Fn
 |[],_=>rfl
 |x::r,h=>by
  rw[List.pairwise_cons]at h;have ih:=qp T g hm r h.2;have e1:(x::r).filter (λd=>decide (cq T x.name<?iq))=r:=by rw[aoq ?i,aiR];exactλa ha=>decide_eq_true (h.1 a ha)
  have e2:r.flatMap (λc=>((x::r).filter λd=>decide (?im<?iq)).flatMap ?Fn)=r.flatMap λc=>(r.filter λd=>decide (?im<?iq)).flatMap ?Fn:=by refine mr ?mW;rw[aoq];have:=h.1 c hc;lia
  simp only[af2,e1,e2];show(((ahe 1 _).map _++ahe 2 _).filterMap _).flatMap _=_;simp only[List.filterMap_append,an2];congr 1;have e3:((ahe 1 (r.map ?pI)).map λl=>x.name::l).filterMap m=r.map λc=>(x.name,c.name):=by
   rw[yG,abV,abV,ami];have:(m∘((λl=>x.name::l)∘λx=>[x])∘λc:Column=>c.name)=λc=>some (x.name,c.name):=by funext c;exact hm _ _
   rw[this,List.filterMap_eq_map']
  simp only[e3,ash]
section
variable{T:afr}(hT:aY T)
include hT
theorem u5:T.cols.Pairwise ?Qc:=by have h:=il hT;have h2:=List.pairwise_lt_range (n:=T.cols.length);rw[<-h]at h2;unfold aa4 at h2;rw[abV,akI]at h2;exact h2
theorem AA:(?au).filter (am9 T)=(?gN).map ?pI:=by unfold aa4;rw[alL];congr 1;exact alC λc hc=>(?hF).2.2
theorem IY(hc:?hf)(hd:?pH):(T.rows.filter λr=>!(?ju).contains ?bm).map (λr=>eT (dJ (?ju)))=(?cP).map o8:=by
 have h:∀rs:?fR,(∀r∈rs,?qe)->(rs.filter λr=>!(?ju).contains ?bm).map (λr=>eT (dJ (?ju)))=(rs.filterMap λr=>match ?kQ,afX T.cols r d with
   |?ep,?an=>some (m,n)
   |_,_=>none).map o8:=by
  intro rs;induction rs with
  |nil=>intro _;rfl
  |cons r rs ih=>
   intro hr;have ih:=ih λx hx=>hr x ?hs;rw[amf,ajH];rcases nV hT hc (hr r ?aS)with e1|⟨m,e1⟩<;>rcases nV hT hd (hr r ?aS)with e2|⟨n,e2⟩
   ·rw[?Ti,e1,e2];exact ih
   ·rw[?Ti,e1];exact ih
   ·rw[if_neg (by simp[afG,e2]),e1,e2];exact ih
   ·rw[if_pos (by simp[afG,e1,e2]),e1,e2];rw[abL];congr 1;simp[afG,e1,e2,dJ,ag4,o8]
 exact h _ ?lx
theorem yH(hc:?hf)(hd:?pH):apK T [c,d]=(?cP).length:=by have:=congrArg amN (IY hT hc hd);simp only[aa_]at this;rw[<-this];exact~~~(apk)
theorem ue:aiW T c d=if(?cP).isEmpty=true then []else((?qY).map λk=>asH T.name k).toList:=by
 unfold aiW B_;split
 ·rfl
 ·split
  ·rfl
  ·split
   ·rfl
   ·split<;>rfl
theorem IZ{l:?jo}:bz neg (.lst (l.map o8)) ?bu=?sa:=by
 have e:l.map o8=(l.map λx=>nT [x.1,x.2]).map eT:=?yR
 rw[e,eq_nil λt ht=>by
  refine ag ?hi λx _ Ln=>?_;subst Ln;have:dp (nT [x.1,x.2])<=1:=?qi λt ht=>by simp at ht;rcases ht with rfl|rfl<;>simp
  lia,anS]
abbrev aeT:GF:=ab (aD 5 (dM 11 [9] (iA (cU (fl ?R) ?b)) (bu 9) bT (cF (c1 (look 9) (c1 (cF (c1 ?l (c1 ?L c0)) fu) c0)) (cR)))) (ab (aD 6 (dM 11 [10] (iA ?aJ) (bu 10) (bV (c2 ?fG ?ig ?BJ)) ?BJ)) (ab (aD 7 (cI (bV (c2 ?G ?bo ?hp)) ?qV (cF (c1 ?b (c1 ?l (c1 ?L (c1 ?bo c0)))) (jT)))) (bC (bV (cU ?BH ?fL)) (lT 2 (cF (c1 (cF (c1 ?kJ (c1 (cU (fl ?q) ?b) (c1 ?fL c0))) fu) (c1 (cF (c1 ?bo c0) aM) c0)) fu)) fN)))
theorem Hf(hc:?hf)(hd:?pH)(hn:?cP≠[]):jT [ay T,?ew,?kL,.lst ((?cP).map o8)]=.ok (cV (?qY)):=by
 rw[GJ];show ?aW;show ?hE;have hl:(?cP).length<=40:=afh ?lr uX;show ?PB
 refine ag (jg (i5 hc)) λx YN hx2=>ag (jg (i5 hd)) λy hy1 hy2=>?_;have ex:aU (?gd) (?ew)=.ok (eC x):=tT (by rw[ad0,YN];rfl);have ey:aU (?gd) (?kL)=.ok (eC y):=tT (by rw[ad0,hy1];rfl);refine evSet (B8 (rT ?Ao rfl ex) (nE.trans (by rw[hx2]))) (evSet (B8 (rT ?Ao rfl ey) (nE.trans (by rw[hy2]))) ?_);have aeU:(?cP).all (?Vg)=(?qA&&?uU):=by unfold ahq;rw[lD (c:=c) (d:=d),aox,acM,abk];simp only[adY,decide_eq_true_eq,ai2];exact⟨λh=>⟨?RN,?RN⟩,λh x hx=>by have:=h.1 x hx;have:=h.2 x hx;lia⟩
 unfold B_;refine fW (b:=?qA&&?uU) (oI ((vI (l:=?cP) (en:=o8) (f:=?Vg) ?A rfl (λx hx=>?gj) ?a).trans (by rw[aeU]))) (?T) ?T
 ·exact akT (b:=.ok (.bl (decide ((x.1:Int)=x.2)))) ?ak (by simp[Int.ofNat_inj])
 ·rw[z];erw[one];rw[zF];simp[cV,apm,aic,akC,aho,akD]
 rw[z];refine fW (b:=?CS) (oI (Xd rfl rfl rfl rfl (yF hT hc hd hn))) (?T) ?T
 ·rw[z];erw[one];rw[kJ];rfl
 rw[z];refine fW (b:=?uU&&decide (akq (af0 (?el))<akR (af0 (abN T d)))) (oI (Xd rfl rfl rfl ?_ (yF hT hd hc hn2))) (?T) ?T
 ·rw[lD (c:=c) (d:=d),abV];exact yd (l:=?cP) (en:=o8) ?A rfl (λx hx=>⟨_,rfl,sD (aep rfl) (aeo rfl) rfl⟩) ?a
 ·rw[z];erw[one];rw[kJ];rfl
 ·rw[z];refine ?D;erw[one];rfl
theorem EO(hc:?hf)(hd:?pH)(hcd:c≠d)(ho:?qY=?as):akf T (?eq T.name k)=(?cP).length:=by
 have RL:d≠c:=λe=>hcd e.symm;have h1:[c,d,c,d].eraseDups=[c,d]:=by simp[an3,hcd,RL]
 have h2:[c,d,d,c].eraseDups=[c,d]:=by simp[an3,RL]
 have h3:[d,c,c,d].eraseDups=[d,c]:=by simp[an3,hcd]
 have h4:apK T [d,c]=(?cP).length:=by rw[yH hT hd hc,lD,aa_]
 unfold B_ at ho;split at ho
 ·cases ho;simp only[akf,apm,agw,ags,aho,ain,ame,afP,h1];exact yH hT hc hd
 ·split at ho
  ·cases ho;simp only[akf,amg,agw,ags,aho,ain,ame,afP,h2];exact yH hT hc hd
  ·split at ho
   ·cases ho;simp only[akf,amg,agw,ags,aho,ain,ame,afP,h3];exact h4
   ·exact nn ho
theorem Kz(hc:?hf)(hd:?pH)(hcd:c≠d)(ha:acc.length<5000):Bd aeT [?cO,.sh pl,?cU,.sh (?ew),.sh (?kL),x5,x6,x7,.no,.no,.no] λs=>∃y4 y5 y6 y7,s=[?cO,.sh pl,.ow (acc++(aiW T c d).map ?dn),.sh (?ew),y4,y5,y6,y7,.no,.no,.no]:=by
 show ?aW;show ?hE;refine EH (p:=.lst (T.rows.map λr=>eT (dJ (?ju)))) (yd (l:=T.rows) (en:=λr=>?ur) ?A (Xe ?AN ?Wc) (λr hr=>?gj) ?a) (EH (p:=.lst ((?cP).map o8)) ?_ (EH (p:=if(?cP).isEmpty=true then .b_ else cV (?qY)) ?_ ?_))
 ·exact sD rfl rfl (qd (ns:=[c,d]) (?BL) (by simp[ag5,i5 hc,i5 hd]) ?aj)
 ·rw[<-IY hT hc hd];refine Al (l:=T.rows) (en:=λr=>eT (dJ (?ju))) ?A rfl ?_ ?a;refineλr hr=>⟨_,rfl,?_,?ar⟩;have ei:jK true ?Bx (eT (dJ (?ju)))=.ok (.bl (true !=decide (Tree.list []∈(?ju).map ag4))):=by
   have:=p9 (neg:=true) (t:=?j []) (l:=(?ju).map ag4) (?c);simpa[dJ]using this
  refine(oI (~~~ei)).trans ?_;congr 1;rw[acM,ap9];simp only[afI,decide_eq_false_iff_not];rw[<-akW,afw];refine not_congr ?_;rw[?Pf];show ?wp
 ·refine cIe ?SN (?T) ?T
  ·rw[if_pos (?eR)]
  ·rw[if_neg (?eR)];exact Xd rfl rfl rfl rfl (Hf hT hc hd λh=>by rw[h]at z;show ?nq)
 ·rw[ue hT];cases(?cP).isEmpty with
  |true=>exact ?Mm
  |false=>
   rw[?iD,?iD];cases ho:?qY with
   |none=>exact ?Mm
   |some k=>
    have hb:vi true (cV (?as))=.ok ?lm:=by
     show vi true (eT (?Kz))=_;cases ?Kz with
     |num n=>rfl
     |word n=>rfl
     |list n=>rw[aR];rfl
    exact Ov (b:=true) (oI (B8 rfl hb)) (λ_=>Wv (p:=eK T (?eq T.name k)) rfl (akT (b:=.ok (.tup [eT (asH T.name k).tree,.int (((?cP).map o8).length:Nat)])) ?ak (by rw[aa_,eK,EO hT hc hd hcd ho])) ?a ?GU) nofun
theorem so:eF ?iR=.ok (.lst ((?PC).map ?dn)):=by
 rw[rM];show ?aW;show ?fh;have K5:=afD (λc:Column=>?gn) T.cols;generalize hpl:PV.lst ((?gN).map λc=>.int ?dt)=pl;refine evSet (p:=pl) (sC rfl (by rw[jh hT,hpl])) (?fI);have Ms:?Rv:=λc d=>by
  rw[ue hT];split
  ·simp
  ·cases ?qY<;>simp
 have hil:∀(c:Column)(l:?pQ),(l.flatMap λd=>?SO ?dn).length<=l.length:=λc l=>by
  induction l with
  |nil=>simp
  |cons d r ih=>
   rw[af2,adW,aa_,ad2];have:=Ms c.name d.name;lia
 have hnc:∀c∈T.cols.filter (λc=>?gn),agt T c.name=true:=λc hc=>by obtain⟨h1,h2⟩:=?jL;rw[(f_ hT h1).2.2];exact h2
 refine i0 (m:=5000) (b:=6) (en:=λc:Column=>PV.int ?dt) (f:=λc=>((?gN).filter λd=>decide (?im<?iq)).flatMap λd=>?SO ?dn) (acc:=[]) (λacc se=>∃x3 x4 x5 x6 x7,se=[?cO,.sh pl,?cU,x3,x4,x5,x6,x7,.no,.no,.no]) (?gN) ?ak ?aj (λc _=>by refine afh (hil c _) ?_;have:=afD (λd:Column=>decide (?im<?iq)) (?gN);lia) ?md ?ss ?_
 ·obtain⟨x3,x4,x5,x6,x7,rfl⟩:=hy;refine⟨_,rfl,bdF (m:=5000) (b:=1) (acc:=acc) (en:=λc:Column=>PV.int ?dt) (λacc se=>∃x4 x5 x6 x7,se=[?cO,.sh pl,?cU,.sh (.int ?dt),x4,x5,x6,x7,.no,.no,.no]) ((?gN).filter λd=>decide (?im<?iq)) ?_ ?_ (λd _=>by rw[aa_];exact Ms _ _) ?SP ?GU λse'⟨a,b,u,v,h⟩=>⟨_,_,_,_,_,h⟩⟩
  ·subst hpl;refine Xe (Al (l:=?gN) (en:=λc:Column=>PV.int ?dt) (t:=λd=>decide (?im<?iq)) (e:=λc=>PV.int ?dt) ?A rfl ?_ ?a) rfl;exactλd hd=>⟨_,rfl,akT (b:=.ok (decide ((?im:Int)<?iq))) ?ak ?i,?ar⟩
  ·have:=afD (λd:Column=>decide (?im<?iq)) (?gN);lia
  ·obtain⟨x4,x5,x6,x7,rfl⟩:=hy;obtain⟨Ad,hd2⟩:=afJ.mp hd;exact⟨_,rfl,Kz hT (hnc c hc) (hnc d Ad) (λe=>by rw[e]at hd2;simp at hd2) ?a⟩
 rintro se' ⟨x3,x4,x5,x6,x7,rfl⟩;refine ?D;erw[one];rw[afP];unfold aoH;rw[AA hT,qp T (λc d=>aiW T c d) ?cb _ ?Yt];simp only[am5]
#where
theorem aeV:bz neg (.bl a) (?bP)=.ok (.bl (neg !=(a==b))):=by cases neg<;>cases a<;>cases b<;>rfl
section
variable{T:afr}(hT:aY T)
include hT
theorem Ox(hc:?hf):(((?el).zip ((?el).drop 1)).filter ?QJ).map (?Do)=(alD T c).map o8:=by
 have h:∀x∈?el,x=?bm\/∃n,x=?an:=λx hx=>by refine ag ?mP λr hr aeW=>?_;subst aeW;exact nV hT hc hr
 have h2:∀x∈(?el).zip ((?el).drop 1),(x.1=?bm\/∃n,x.1=?an)/\(x.2=?bm\/∃n,x.2=?an):=λx hx=>by have:=aoc hx;exact⟨h _ ?nV,h _ (aqZ this.2)⟩
 unfold alD;show ?bR;generalize(?el).zip _=l at h2;induction l with
 |nil=>rfl
 |cons x r ih=>
  have ih:=ih λy hy=>h2 y (aaV _ hy);obtain⟨ha,hb⟩:=h2 x ?aS;obtain⟨a,b⟩:=x;simp only at ha hb;rw[amf];rcases ha with rfl|⟨m,rfl⟩<;>rcases hb with rfl|⟨n,rfl⟩
  ·exact ih
  ·exact ih
  ·exact ih
  ·rw[if_pos (?H),abL,ih];rfl
theorem vM:fF ?iR=.ok (.lst (((?au).filterMap (amd T)).map ?dn)):=by
 rw[vF];refine ?fI;show ?aW;show ?fh;show ?hE;have K5:=afD (λc:Column=>?gn) T.cols;refine i0 (m:=5000) (b:=1) (en:=λc:Column=>PV.int ?dt) (f:=λc=>((?KA).map ?dn).toList) (acc:=[]) (λacc se=>∃x2 x3 x4 x5 x6,se=[?cO,?cU,x2,x3,x4,x5,x6,.no]) (?gN) ?SM ?aj (λc _=>by cases ?KA<;>simp) ?md ?ss ?_
 ·obtain⟨x2,x3,x4,x5,x6,rfl⟩:=hy;obtain⟨hc,hu⟩:=?jL;obtain⟨h1,h2,h3⟩:=?hF;rw[hu]at h3;have hcl:(?bb).length<=40:=by rw[abN,aa_];exact uX
  have hzl:((?bb).zip ((?bb).drop 1)).length<=40:=by rw[apg];exact afh (Nat.min_le_left _ _) hcl
  have hnl:(?tK).length<=40:=afh ?lr hzl;have er:?KA=if(true !=(?tK).isEmpty&&(?tK).all (λx=>?Hb))=true then some (?km T.name (aoI c.name))else none:=by unfold amd am9;rw[h3,amV,ap9]
  refine⟨_,rfl,EH (sD rfl rfl (mq hT h1)) (EH (p:=.lst ((?tK).map o8)) ?_ (Ov (bAe ?SN (oI (vI (en:=o8) (f:=λx=>?Hb) ?A rfl (λx hx=>?gj) ?a))) (?T) ?qg))⟩
  ·rw[<-Ox hT h3];refine Al (l:=(?bb).zip ((?bb).drop 1)) (t:=?QJ) (en:=?Do) (e:=?Do) ?A ?_ ?_ ?a
   ·erw[one];rw[aj5];try erw[Rs.aK,JK,jI,F4]
    rw[<-asK,asS,abV];rfl
   ·refineλx hx=>⟨_,rfl,?_,?ar⟩;refine(oI (~~~(p9 (neg:=true) (t:=?j []) (l:=[x.1.tree,x.2.tree]) (?c)))).trans ?_;congr 1;rw[acM];rw[?Pp];simp only[afI,decide_eq_false_iff_not,aed,af3,or_false,d_];simp
  ·exact akT (b:=.ok (.bl (decide ((x.1:Int)<=x.2)))) ?ak ?i
  ·rw[er,?ek];exact EH ?NF (EH (sD rfl rfl qo) (Wv (p:=eK T _) rfl (akT (b:=.ok (.tup [eT (Claim.next T.name (aoI c.name)).tree,.int (((?tK).map o8).length:Nat)])) ?ak ?yd) ?a ?ss))
  ·rw[er,z];exact⟨_,_,_,_,_,congrArg (λl=>[_,Slot.ow l,_,_,_,_,_,_]) (afM _).symm⟩
 rintro se' ⟨x2,x3,x4,x5,x6,rfl⟩;refine ?D;erw[one];rw[afP,nU,<-anp];unfold aa4;rw[ami];rw[mn λc hc hk=>by unfold amd am9;rw[(?hF).2.2,hk];rfl]
 rfl
theorem yI(h:Tw T ns):hX [ay T,?pG]=.ok (eT (afN ns)):=by
 simp only[GK];refine ?D;show ?aW;erw[gR hT.c6];rw[o7,Ot,El (f:=λi=>(?aK[i]?.map λw=>PV.str ?iP).getD .b_) (λi hi=>by refine ag (adX.mp hi) λc hc aeX=>?_;subst aeX;refine ag ?Ut λcol h1 h2=>tT ?_;unfold aa4;simp[h1]) (by have:=h.2;simp;lia)]
 simp only[afN,aR,abV];congr 2;refine agu λc hc=>ag ?Ut ?HV;unfold aa4;simp only[ai2,ad0,h1,aqK,aqo,h2,oH]
theorem Ca:jt [ay T,.lst (?pT ?eS)]=.ok (.lst ((?pT (ant T)).map ?dn)):=by simp only[BQ];refine ?D;show ?aW;obtain⟨k1,k2⟩:=oM hT;simp;refine yd ?A rfl (λk hk=>⟨_,?ay,?_⟩) ?a;erw[gQ,yI hT (?vw),cj];simp[eK,ant,ak3,akf,amE]
theorem uf(h:Tw T ns):ff [ay T,?pG]=.ok (.int (asJ T ns:Nat)):=by
 simp only[tO];show ?aW;show ?hE;refine i8 (yy hT (ns:=ns)) ?yB;have apl:T.count=T.rows.length:=rfl;refine evSet (by erw[cj];rw[si,gS hT h.1 (by have:=h.2;lia)]) (?D);simp only[cF,c1,c0];rw[Al (t:=λg=>decide (2<=g.length)) (e:=λg=>.int ((g.length:Nat):Int)) ?ch rfl (λg hg=>⟨_,?ay,by
  erw[one];congr 1;rw[acM];simp;lia,λ_=>?Hu⟩) ?a]
 try simp only[one,uH,opt,Rs.aK,sumF]
 rw[p_ _];show ?bR;congr 2;unfold asJ;generalize(ahw T _).filter _=l;induction l with
 |nil=>rfl
 |cons a r ih=>rw[abL,abL,aoV,aoV,ih];lia
theorem yJ:gH [ay T,.lst (?pT ?eS)]=.ok (.lst (((aoJ T).map (alN T)).map ?dn)):=by
 rw[xT];show ?aW;show ?fh;obtain⟨k1,k2⟩:=oM hT;have hh:=λ{s}=>ij (b:=s) λk hk=>(⟨(?vw).1,by have:=(?vw).2;lia⟩:?Pg);generalize PV.lst (?pT ?eS)=ks at hh⊢;refine ?fI;refine i0 (m:=5000) (b:=42) (en:=λc:Column=>PV.tup [.int ?dt,eC c]) (f:=λc=>(al8 T c.name).flatMap λs=>if(!((?kl).any ?kz))=true then [eK T (alN T (s,c.name))]else []) (acc:=[]) (λacc se=>∃x3 x4 x5 x6,se=[?cO,.sh ks,?cU,x3,x4,x5,x6]) T.cols ?Dl ?aj (λc hc=>by rw[wc,aa_];exact afh ?hx (yD hT (adX.mpr ?yU)).2) ?md ?GU ?_
 ·obtain⟨x3,x4,x5,x6,rfl⟩:=hy;have Tj:c.name∈?au:=adX.mpr ?yU;obtain⟨l1,l2⟩:=yD hT Tj;refine⟨_,rfl,bdF (m:=5000) (b:=1) (acc:=acc) (en:=λs=>?tX) (λacc se=>∃x5 x6,se=[?cO,.sh ks,?cU,.sh (.int ?dt),.sh ?rG,x5,x6]) (al8 T c.name) (Xe (sD rfl rfl (qm hT Tj)) rfl) ?a (λs _=>?HW) (λs hs acc se ha hy=>?_) ?jw λse'⟨a,b,h⟩=>⟨_,_,a,b,h⟩⟩;obtain⟨x5,x6,rfl⟩:=hy;have ho:=(l1 s hs).1;refine⟨_,rfl,Ov (bNe (oI (sD rfl rfl (hh ho.1 ?a)))) (λz=>EH (p:=eT (alN T (s,c.name)).tree) (Xd rfl ?LG (sD rfl rfl (yI hT ho)) rfl ?_) (Wv (p:=eK T _) rfl (sD rfl (sD rfl rfl (uf hT ho)) rfl) ?a ?_)) ?qg⟩
  ·simp[alN,ak3,afN];rfl
  ·rw[?ek];exact ?jw
  ·rw[z,?iD,afM];exact ?jw
 rintro se' ⟨x3,x4,x5,x6,rfl⟩;refine ?D;erw[one];unfold aoJ aa4;simp only[afP,am5,ash,abV,wc];rfl
#where
def RQ(T U:afr)(c:Column):List Claim:=(U.cols.filter λd=>?mh).filterMap λd=>
 let l:=(?bb).filter ?ed
 if ?Br&&l.all ?wy then some ?vI else none
theorem AB{α β γ:Type}{p r b:α->Bool}{k:?ob}{e:β->γ}(h:∀a,b a=(p a&&r a)):∀l:?aa,l.flatMap (λa=>if b a=true then [e (k a)]else [])=((?Bq).filterMap λa=>if r a=true then some (k a)else none).map e
 |[]=>rfl
 |a::l=>by
  rw[af2,AB h l,amf,h a];cases hp:p a with
  |false=>simp
  |true=>
   rw[?bV,ajH];cases hr:r a with
   |false=>simp
   |true=>simp
theorem we{α β:Type}{f:α->?vt}:∀{l:?aa},(∀a∈l,?sS)->(?KI).length<=?LM
 |[],_=>?bg
 |a::r,h=>by have:=we λx hx=>h x (aaV a hx);have:=h a ?aS;rw[af2,adW,ad2];lia
section
variable{T U:afr}(hT:aY T)(hU:aY U)
include hT hU
theorem zH(hc:?mX)(hd:d∈U.cols):iK [.lst (((?bb).filter ?ed).map ?eZ),eC c,ay U,?EI]=.ok (.bl ((?mh)&&((?bb).filter ?ed).all ?wy)):=by
 simp only[zo];show ?aW;show ?hE;refine i8 (f_ hU hd) λd1 d2 d3=>?_;have hix:aU (.lst (U.cols.map (eC))) (?EI)=.ok (eC d):=tT (by simp only[ad0,d2];rfl);have hak:aj9 c d=(?gn==qb d.kind):=by unfold aj9;cases c.kind<;>cases d.kind<;>rfl
 have hpl:PV.tup [?EI]=eT (o7 U [d.name]):=?H
 refine fW (b:=!(?mh)) ?_ (?T) ?T
 ·erw[d0,bK,hix,aeV,cj];rw[hpl,EK hU (by simp[ag5,d1]) ?aj];erw[one];rw[hak];cases ?gn<;>cases qb d.kind<;>cases akp U [d.name]<;>rfl
 ·have z:(?mh)=false:=afI _▸z;rw[z];rfl
 ·have z:(?mh)=true:=?eR
  rw[z];refine evSet (~~~(mq hU d1)) (ao (vI ?ch rfl (λx hx=>⟨_,?ay,?_⟩) ?_))
  ·have:=mi x;have h:=mf (neg:=false) (t:=x.tree) (l:=(abN U d.name).map ag4) ?a;rw[abV]at h;erw[one];refine akT h ?_;congr 2;show ?Ys;show ?wp
  ·refine afh ?hx ?_;unfold abN;simp;lia
theorem zI(hc:?mX):iL [ay T,.int ?dt,ay U]=.ok (.lst ((?BY).map ?dn)):=by
 rw[zp];show ?aW;show ?hE;have h6:=hU.c6;refine i8 (?hF) λc1' c2' c3=>?_;have hix:aU (?gd) (.int ?dt)=.ok ?rG:=tT (by rw[ad0,c2'];rfl);refine evSet (p:=eC c) (~~~(hix)) (evSet (~~~(gU hT c1')) (?fI));have hri:=λd hd=>zH hT hU (c:=c) (d:=d) hc hd;have aeY:∀d:Column,akf T ?vI=((?bb).filter ?ed).length:=λd=>nY;have aeZ:bz true (.lst (((?bb).filter ?ed).map ?eZ)) ?bu=.ok (.bl (!((?bb).filter ?ed).isEmpty)):=by
  have:=eq_nil (neg:=true) (l:=((?bb).filter ?ed).map ag4) (λt ht=>by refine ag ?hi λx _ ae0=>?_;subst ae0;have:=mi x;lia)
  rw[abV,anS,ap9]at this;show ?eM
 unfold RQ;show ?bR;generalize(?bb).filter (?ed)=l at hri aeY aeZ;refine i0 (m:=5000) (b:=1) (f:=λd=>if(?Br&&((?mh)&&l.all ?wy))=true then [eK T ?vI]else []) (acc:=[]) (λacc se=>∃x6 x7 x8,se=[?cO,.sh (.int ?dt),.sh (ay U),.sh ?rG,.sh (.lst (l.map ?eZ)),?cU,x6,x7,x8]) U.cols (iEe (Fb bK rfl) (congrArg Rs.ok (lC hU))) ?aj (λd _=>?HW) ?SP ?sU ?_
 ·obtain⟨x6,x7,x8,rfl⟩:=hy;refine⟨_,rfl,Ov (bAe (oI (rT rfl rfl aeZ)) (oI (Xd rfl rfl rfl rfl (hri d hd)))) (λz=>EH (p:=eT (Claim.refers T.name [c.name] U.name [d.name]).tree) ?ak (Wv (p:=eK T ?vI) rfl (akT (b:=.ok (.tup [_,.int ((l.map ?eZ).length:Nat)])) rfl (by rw[eK,aeY d,aa_])) ?a ?_)) ?qg⟩
  ·rw[?ek];exact ?sU
  ·rw[z,?iD,afM];exact ?sU
 rintro se' ⟨x6,x7,x8,rfl⟩;refine ?D;erw[one];rw[afP,AB (p:=λd=>?mh) (r:=λd=>?Br&&l.all ?wy) (e:=eK T)];intro d;cases ?Br<;>simp
#where
theorem I_:(?BY).length<=U.cols.length:=afh ?lr ?hx
theorem kK:anT s T c=s.flatMap λU=>?Dd:=by
 delta anT;induction s with
 |nil=>rfl
 |cons U r ih=>
  rw[af2,<-ih,amf];cases ?yh with
  |true=>rfl
  |false=>simp
section
variable{T:afr}(hT:aY T){s:Store}(hs:∀U∈s,aY U)(h3:?LH)
include hT hs h3
theorem yK:(?Tf).length<=6/\(?Tg).length<=6/\(?Th).length<=6/\(?PC).length<=36/\((?au).filterMap (amd T)).length<=6:=by
 show ?fh;refine⟨afh ?lr h6,afh ?lr h6,afh ?lr h6,?_,afh ?lr (by delta aa4;simpa using h6)⟩;have Ms:?Rv:=λc d=>by
  rw[ue hT];split
  ·simp
  simp
 delta aoH;rw[AA hT,qp T _ ?cb _ ?Yt];have K5:=afD (λc:Column=>?gn) T.cols;refine afh (we (b:=6) λc _=>(afh (we (b:=1) λd _=>Ms _ _) ?_)) ?a;grind
theorem ug:(aoJ T).length<=252:=by
 show ?fh;have key:∀l:?fR,(∀d∈l,d∈?au)->(l.flatMap λd=>((?rk).filter λs=>!((?kl).any ?kz)).map λs=>(s,d)).length<=42*l.length:=λl=>by
  induction l with
  |nil=>intro _;simp
  |cons d r ih=>
   intro h;have:=ih λx hx=>h x ?hs;have:=(yD hT (h d ?aS)).2;grind
 refine afh (key _ ?lx) ?_;delta aa4;rw[aa_];lia
theorem yL:(?Tj).length<=108:=by
 show ?fh;have k2:∀c(l:?fR),(∀U∈l,aY U)->(l.flatMap λU=>?Dd).length<=6*l.length:=λc l=>by
  induction l with
  |nil=>intro _;simp
  |cons U r ih=>
   intro h;have:=ih λx hx=>h x ?hs;have h7:=(h U ?aS).c6;have:(?Dd).length<=6:=by
    split
    ·exact afh I_ h7
    ·simp
   grind
 have k1:∀l:?fR,(l.flatMap (anT s T)).length<=18*l.length:=λl=>by
  induction l with
  |nil=>simp
  |cons c r ih=>
   rw[af2,adW,ad2,kK];have:=k2 c s hs;lia
 grind
theorem lE:(?cp).length<=462:=by refine ?Qd;have f:=(oM hT).2;have g:=ug hT hs h3;have h:=yL hT hs h3;delta afQ ap_;simp only[adW,aa_];lia
theorem vN:fJ [ay T,.lst ?bU]=.ok (.lst ((?Tj).map ?dn)):=by
 rw[vG];show ?aW;show ?fh;have l6:∀{c},∀U∈s,(if(?yh)=true then(?BY).map ?dn else []).length<=6:=λ{c}U hU=>by
  split
  ·rw[aa_];exact afh I_ (?vx).c6
  ·simp
 refine ?fI;refine i0 (m:=5000) (b:=18) (en:=λc:Column=>PV.int ?dt) (f:=λc=>s.flatMap λU=>if(?yh)=true then(?BY).map ?dn else []) (acc:=[]) (λacc se=>∃x3 x4,se=[?cO,.sh (.lst ?bU),?cU,x3,x4]) T.cols ((EF (Fb (sC ?Ao rfl) rfl)).trans (by rw[aa_];refine(rZ ?a).trans ?_;rw[<-il hT];unfold aa4;rw[abV,abV];rfl)) ?aj (λc hc=>afh (we l6) ?a) ?md ?jw ?_
 ·obtain⟨x3,x4,rfl⟩:=hy;refine⟨_,rfl,bdF (m:=5000) (b:=6) (acc:=acc) (en:=ay) (λacc se=>∃x4,se=[?cO,.sh (.lst ?bU),?cU,.sh (.int ?dt),x4]) s rfl ?a l6 (λU hU acc se ha hy=>?_) ?ad λse'⟨a,h⟩=>⟨_,_,h⟩⟩;obtain⟨x4,rfl⟩:=hy;have l7:=l6 (c:=c) U hU;refine⟨_,rfl,Ov (b:=?yh) (oI ((rT ?LG ?LG (NZ ?od ?od)).trans ?_)) (?T) ?qg⟩
  ·congr 2;rw[acM];simp[kQ]
  ·rw[?ek]at l7⊢;exact⟨_,Tq rfl (Wf rfl rfl rfl (zI hT (?vx) hc)) rfl ?a,_,rfl⟩
  ·rw[z,?iD,afM];exact ?ad
 rintro se' ⟨x3,x4,rfl⟩;refine ?D;erw[one];rw[afP,am5];congr 2;refine mr λc _=>?_;rw[kK,am5];refine mr λU _=>?_;split<;>simp
theorem nZ:dr [ay T,.lst ?bU]=.ok (.lst ((?cp).map ?dn)):=by
 simp only[xU];refine ?Qd;have f:=(oM hT).2;have g:=ug hT hs h3;have h:=yL hT hs h3;show ?aW;have add:∀{x y},x.length+y.length<=5000->fw (.lst x) (.lst y)=.ok (.lst (x++y)):=λ{x y}h=>by unfold fw;show ?bR;rw[if_pos ?a]
 refine evSet (sC rfl (sj hT)) (evSet (rT (rT (sC rfl (vL hT)) (sC rfl (yE hT)) ?qZ) (sC rfl (zG hT)) ?qZ) (evSet (rT (rT rfl (sC rfl (so hT)) ?qZ) (sC rfl (vM hT)) ?qZ) (evSet (rT (rT rfl (sD rfl rfl (Ca hT)) ?qZ) (sD rfl rfl (yJ hT)) ?qZ) (ao (rT rfl (sD rfl rfl (vN hT hs h3)) ((add ?_).trans ?_))))));case refine_8=>
  unfold afQ ap_
  simp only[afU,akJ]
 all_goals
  simp only[adW,aa_]
  lia
theorem kS:aW [ay T,.lst ?bU]=.ok (.lst ((?cp).map λk=>?jK)):=by simp only[zt];refine ?D;show ?aW;have:=lE hT hs h3;refine yd ?A (by erw[nZ hT hs h3];rfl) (λk hk=>⟨_,?ay,?_⟩) ?a;erw[eK]
#where
open Vadttb (Dep Names widen rounds closure)
def lf:Dep->Names
 |.key k=>k
 |.fix f=>f.1
def rt(all:Names):Dep->Names
 |.key _=>all
 |.fix f=>[f.2]
def ER(all:Names)(ds:?ra)(S:Names):Prop:=∀d∈ds,(∀c∈lf d,?hN)->∀c∈?jQ,?hN
section
variable{all:Names}{ds:?ra}
theorem oP:c∈widen all ds S<->?nM/\(?hN\/∃x∈ds,(∀a∈lf x,a∈S)/\c∈rt all x):=by
 unfold widen;rw[afJ];refine and_congr_right λhc=>?_;rw[agD,afw,akA];refine or_congr_right (exists_congr λx=>and_congr_right λ_=>?_);cases x with
 |key k=>
  rw[adY];exact⟨λh=>⟨λa ha=>afw.mp ?CA,hc⟩,λh a ha=>?Yu⟩
 |fix f=>
  simp only[rt];rw[abk,adY,beq_iff_eq,afO];exact⟨λh=>⟨λa ha=>afw.mp (h.2 a ha),h.1.symm⟩,λh=>⟨h.2.symm,λa ha=>?Yu⟩⟩
theorem AD(hc:ER all ds S'):∀n S,(∀c∈S,c∈S')->∀c∈?GV,c∈S'
 |0,S,h=>h
 |n+1,S,h=>AD hc n _ λc hm=>by
  obtain⟨_,h1|⟨x,hx,h2,h3⟩⟩:=oP.mp hm
  ·exact h c h1
  ·exact hc x hx (λa ha=>h a (h2 a ha)) c h3
theorem AE:∀n S,(∀c∈S,?nM)->∀c∈S,c∈?GV
 |0,S,_,c,h=>h
 |n+1,S,ha,c,h=>AE n _ (λc hc=>(oP.mp hc).1) c (oP.mpr ⟨ha c h,?fm⟩)
theorem ES(h:∀x∈all,p x=true->p' x=true):(?ex).length<=(?mD).length/\((?ex).length=(?mD).length->?ex=?mD):=by
 have e:?ex=(?mD).filter p:=by rw[arJ];refine alC ?jF;simp_all
 have hs:(?ex).Sublist (?mD):=by rw[e];exact amZ
 exact⟨hs.length_le,λhl=>hs.eq_of_length hl⟩
theorem u6(h:widen all ds S=S):∀n,?GV=S
 |0=>rfl
 |n+1=>by show rounds _ _ n _=S;rw[h];exact u6 h n
theorem AF:∀n p,∃p',rounds all ds n (?ex)=?mD
 |0,p=>⟨p,rfl⟩
 |n+1,p=>AF n _
theorem yM:∀n p,widen all ds (rounds all ds n (?ex))=rounds all ds n (?ex)\/(?ex).length+n<=(rounds all ds n (?ex)).length
 |0,p=>.inr ?A
 |n+1,p=>by
  by_cases hw:widen all ds (?ex)=?ex
  ·rw[u6 hw];exact .inl hw
  ·have hg:(?ex).length<(widen all ds (?ex)).length:=by
    obtain⟨h1,h2⟩:=ES (p':=λd=>(?ex).contains d||ds.any _) (λx hx hp=>by rw[agD,afw];exact .inl (afJ.mpr ⟨hx,hp⟩))
    rcases Nat.lt_or_eq_of_le h1 with h|h
    ·exact h
    ·exact absurd (h2 h).symm hw
   rcases yM n _ with h|h
   ·exact ?fm
   ·refine .inr ?_;have h:(widen _ _ _).length+n<=(rounds _ _ ?eJ _).length:=h;lia
theorem Cb(hc:∀c∈cs,?nM)(hr:∀d∈ds,∀c∈?jQ,?nM):(∀c∈cs,c∈?GW)/\ER all ds (?GW)/\∀S,(∀c∈cs,?hN)->ER all ds S->∀c∈?GW,?hN:=by
 unfold closure;refine⟨λc h=>AE _ _ (λc hc=>(?jL).1) c (afJ.mpr ⟨hc c h,afw.mpr h⟩),?_,λS h1 h2=>AD h2 _ _ λc hc=>h1 c (afw.mp (?jL).2)⟩;have hw:widen all ds (?NR)=?NR:=by
  rcases yM _ _ with h|h
  ·exact h
  ·obtain⟨p',e⟩:=AF _ _;rw[e]at h⊢;have h1:(?mD).length=all.length:=anr ?hx ?a;have h2:all.filter _=all:=amZ.eq_of_length h1;rw[h2];unfold widen;rw[aiR];intro a ha;rw[agD,afw];exact .inl ha
 intro d hd hl c hm;rw[<-hw];exact oP.mpr ⟨hr d hd c hm,.inr ⟨d,hd,hl,hm⟩⟩
def gV(all:Names)(f:Names)(d:Dep):Names:=if ?SQ then f++(?jQ).filter (λc=>!f.contains c)else f
structure RR(all f:Names):Prop where
 nd:f.Nodup
 sub:∀c∈f,?nM
theorem ET(h:RR all f)(hn:(?jQ).Nodup)(hr:∀c∈?jQ,?nM):RR all (gV all f d):=by
 unfold gV;split
 ·refine⟨?_,?mW⟩
  ·rw[ahL];exact⟨h.nd,hn.sublist amZ,λa ha b hb e=>?W⟩
  ·rcases afC.mp hc with hc|hc
   ·exact h.sub c hc
   ·exact hr c (?jL).1
 ·exact h
theorem AG:∀ds f,(∀d∈ds,(?jQ).Nodup/\∀c∈?jQ,?nM)->RR all f->RR all (?st)/\(∃z,?st=f++z)/\(∀S,(∀c∈f,?hN)->ER all ds S->∀c∈?st,?hN)/\((?st).length=f.length->?st=f/\ER all ds f)
 |[],f,_,h=>⟨h,⟨[],?J⟩,λS hS _=>hS,λ_=>⟨rfl,λd hd=>absurd hd ?i⟩⟩
 |d::ds,f,hd,h=>by
  obtain⟨Ad,hd2⟩:=hd d ?aS;refine aG (show∃z,gV all f d=f++z/\(∀c∈z,c∈?jQ/\c∉f)/\((?SQ)->∀c∈?jQ,c∈gV all f d)from by
     unfold gV;split
     ·refine⟨_,rfl,λc hc=>by simpa using ?jL,λ_ c hc=>?_⟩;by_cases hf:c∈f
      ·exact agx _ hf
      ·exact afF _ (afJ.mpr ⟨hc,by simpa using hf⟩)
     ·exact⟨[],?J,?J,λz=>absurd z ?bM⟩) λz e hz hin=>Cu (AG _ _ (λx hx=>hd x ?hs) (ET h Ad hd2)) λa ae1 c k=>?_
  obtain⟨y,b⟩:=ae1;simp;refine⟨a,⟨_,by rw[b,e,akJ]⟩,λS hS hcl=>c S (?jF) λx hx=>hcl x ?hs,λhl=>?_⟩
  ·unfold gV at hx;split at hx
   ·rename_i hlf;show ?oG
    ·exact hS x hx
    ·exact hcl d ?aS (λa ha=>hS a (by have:=adY.mp hlf a ha;exact afw.mp this)) x ?zE
   ·exact hS x hx
  ·rw[b,e]at hl;simp only[adW]at hl;have hz0:z=[]:=ale ?a;simp only[hz0,afM]at e;rw[e]at k b hin;obtain⟨k1,k2⟩:=k (by simp only[b,adW];lia);refine⟨by rw[e];exact k1,?jF⟩;show ?Gu
   ·exactλhl2 c hc=>hin (adY.mpr λa ha=>afw.mpr (hl2 a ha)) c hc
   ·exact k2 x hx
#where
def kL(T:afr)(d:Dep):PV:=eT ?gZ
structure DOk(T:afr)(d:Dep):Prop where
 lk:∀c∈lf d,c∈?au
 l6:(lf d).length<=6
 rk:∀c∈rt ?aK d,c∈?au
theorem RS T f:kL T (.fix f)=.tup [eT (?f wFixes),?pe,eT (afN f.1),eT (afN [f.2])]:=rfl
theorem Oy T d:aU (kL T d) (.int 2)=.ok (eT (afN (lf d))):=by
 cases d with
 |key k=>rfl
 |fix f=>rfl
def Pq:Dep->Bytes
 |.key _=>wKey
 |.fix _=>wFixes
theorem Oz T d:aU (kL T d) ?ns=.ok (eT (?f (Pq d))):=by
 cases d with
 |key k=>rfl
 |fix f=>rfl
abbrev nL(l:Names):?e:=(l.map agV).map eT
theorem yN(hp:g6 p=.ok (nL a))(hw:w=.tup (nL b)\/w=.lst (nL b))(hl:?Gf):bM [p,w]=.ok (.bl (a.all b.contains)):=by rw[u4 hp hw (λt ht=>by refine ag ?hi λ_ _ ae2=>?_;subst ae2;simp) ?oJ];congr 2;rw[aox,acM,adY,adY];refine ?OG;simp
theorem ae3{gt:GB}{gb:GF}(ht:gt ?bA=?iE)(hb:gb se=.ok (.nx ox)):jJ gt gb ?eJ se=jJ gt gb n ox:=by
 conv=>lhs;unfold jJ
 simp[ht,hb]
theorem ae4{gt:GB}{gb:GF}(ht:gt ?bA=?nh):jJ gt gb ?eJ se=?jy:=by
 conv=>lhs;unfold jJ
 rw[ht];rfl
abbrev OA:GF:=(ab (DH 4 (cF (c1 ?l c0) aM)) (eU (iA ?x) (b8 5) (bC (bV (cF (c1 (c2 aU ?aJ ?aG) (c1 ?l c0)) (bM))) (DI 3 (dM 7 [6] (iA (cF (c1 ?aJ (c1 ?h c0)) (cE))) ?lS (bV (c2 ?fG ?bo ?l)) ?bo)) fN)))
section
variable{T:afr}(hT:aY T){ds:?ra}(hd:∀d∈ds,DOk T d)
include hT hd
theorem ae5(hf:RR ?aK f):∃y5,OA [?ki,?fu,?fv,?Bs,x4,x5,.no]=.ok (.nx [?ki,?fu,?fv,.ow (nL (ds.foldl (gV ?aK) f)),?or,y5,.no]):=by
 show ?aW;have h6:(?au).length<=6:=?PM
 have hnd:(?au).Nodup:=hT.nd;have hrt:∀d∈ds,(rt ?aK d).Nodup/\∀c∈rt ?aK d,c∈?au:=?Nl;have hlen:∀{f},RR ?aK f->f.length<=6:=λ{f}h=>afh (h.nd.length_le_of_subset λc hc=>h.sub c hc) h6;unfold OA;rw[rO (se':=[?ki,?fu,?fv,?Bs,?or,x5,.no]) (by unfold DH;erw[one];simp[flat])]
 obtain⟨se',h1,⟨y5,h2⟩,_⟩:=nM (ft:=b8 5) (gb:=(bC (bV (cF (c1 (c2 aU ?aJ ?aG) (c1 ?l c0)) (bM))) (DI 3 (dM 7 [6] (iA (cF (c1 ?aJ (c1 ?h c0)) (cE))) ?lS (bV (c2 ?fG ?bo ?l)) ?bo)) fN))
  (en:=kL T) (λpre se=>(∃y5,se=[?ki,?fu,?fv,.ow (nL (pre.foldl (gV ?aK) f)),?or,y5,.no])/\RR ?aK (pre.foldl (gV ?aK) f)) ds [] [?ki,?fu,?fv,?Bs,?or,x5,.no] (λpre d Tn e se⟨⟨y5,hy⟩,bq⟩=>by
   subst hy;rw[afP]at e;have hm:d∈ds:=?tn
   have hdd:=hd d hm;obtain⟨hr1,Q0⟩:=hrt d hm;have Q1:=ET bq hr1 Q0;have hl1:=hlen bq;rw[aoD];show ?uc;generalize pre.foldl (gV ?aK) f=g at bq Q1 hl1;refine ag (show∃p,cE [kL T d,?sx]=?bC/\g6 p=.ok (nL (rt ?aK d))from by
      cases d with
      |key k=>
       refine⟨?fn,?_,rfl⟩;kernel_rfl
      |fix f=>
       refine⟨eT (afN [f.2]),?_,fZ _⟩;kernel_rfl) λp hp1 hp2=>⟨_,[?ki,?fu,?fv,.ow (nL (gV ?aK g d)),?or,?tL,.no],?ay,?_,?ad,Q1⟩
   rw[tU (b:=(lf d).all g.contains) (by erw[one];rw[Oy];erw[one];rw[yN (fZ _) (?dz) (by have:=hdd.l6;lia)];erw[one])];unfold gV;split
   ·have hrl:(rt ?aK d).length<=6:=afh (hr1.length_le_of_subset λc hc=>Q0 c hc) h6;have e1:dM 7 [6] (iA (cF (c1 ?aJ (c1 ?h c0)) (cE))) ?lS (bV (c2 ?fG ?bo ?l)) ?bo (full [?ki,?fu,?fv,.ow (nL g),?or,?tL,.no])=.ok (.lst (nL ((rt ?aK d).filter ?Gv))):=by
     rw[Al (l:=rt ?aK d) (en:=λc=>eT (?f c)) (t:=?Gv) (e:=λc=>eT (?f c)) ?ch (by erw[one];rw[hp1];erw[one];rw[hp2,nL,abV];rfl) (λc hc=>⟨_,?ay,by
      erw[one];rw[mf ?i];erw[one];congr 1;rw[acM];simp,λ_=>?H⟩) ?a,nL,abV]
     rfl
    unfold DI;simp only[akB,aia];rw[e1];try erw[Rs.aK,vj,jI]
    have K5:=afD (?Gv) (rt ?aK d);rw[if_pos ⟨by simp only[nL,aa_];lia,by rw[adY];intro p hp;simp only[nL,abV,adX]at hp;refine ag hp λc _ ae6=>?_;clear hp;subst ae6;simp[flat]⟩];simp[nL]
   ·rfl) ⟨?ad,hf⟩
 refine⟨y5,?_⟩;rw[uW (l:=ds.map ?fl) rfl,h1,h2];rfl
theorem OB{f0:Names}:∀m n f(sz:Int)x5,RR ?aK f->(?au).length<=f.length+m->m+2<=n->sz<(f.length:Nat)->(∀c∈f0,c∈f)->(∀S,(∀c∈f0,?hN)->ER ?aK ds S->∀c∈f,?hN)->
  ∃fx x4 x5',jJ (bV (c2 Cq ?L (cF (c1 ?l c0) aM))) (OA) n [?ki,?fu,?fv,?Bs,.sh (.int sz),x5,.no]=.ok (.nx [?ki,?fu,?fv,.ow (nL fx),x4,x5',.no])/\RR ?aK fx/\(∀c∈f0,c∈fx)/\(∀S,(∀c∈f0,?hN)->ER ?aK ds S->∀c∈fx,?hN)/\ER ?aK ds fx
 |m,0,_,_,_,_,_,h,_,_,_=>?M
 |m,1,_,_,_,_,_,h,_,_,_=>?M
 |m,n+2,f,sz,x5,hf,hm,hn,hs,hi,hj=>by
  have hnd:(?au).Nodup:=hT.nd;have hrt:∀d∈ds,(rt _ d).Nodup/\∀c∈rt _ d,c∈?au:=?Nl;obtain⟨y5,hb⟩:=ae5 hT hd hf;refine Cu (AG _ f hrt hf) λp1 ae7 p3 p4=>?_;obtain⟨z,p2⟩:=ae7;rw[ae3 (by erw[one];simp;exact hs) hb];by_cases hl:(ds.foldl (gV ?aK) f).length=f.length
  ·obtain⟨e,hcl⟩:=p4 hl;rw[e];rw[ae4 (?Hu)];exact⟨f,_,_,rfl,hf,hi,hj,hcl⟩
  ·have hlt:f.length<(ds.foldl (gV ?aK) f).length:=by simp only[p2,adW]at hl⊢;lia
   have hle:(ds.foldl _ f).length<=(?au).length:=p1.nd.length_le_of_subset λc hc=>p1.sub c hc;exact OB (m-1) _ _ _ _ p1 ?a ?a ?a (λc hc=>by rw[p2];exact agx _ (hi c hc)) (λS h1 h2=>p3 S (hj S h1 h2) h2)
theorem Hg{cs:Names}(hc:∀c∈cs,c∈?au)(hn:cs.Nodup):∃fx,md [?tW,?wR,?sx]=.ok (.lst (nL fx))/\∀c,c∈fx<->c∈closure ?aK ds cs:=by
 have h6:(?au).length<=6:=?PM
 refine cJ (OB hT hd (gv:=?tW) 6 100 _ (-1) .no ⟨hn,hc⟩ ?a ?dx ?a (?lx) (λS h _=>h)) λfx x4 x5 h1 h2 h3 h4 h5=>⟨fx,?_,?_⟩
 ·simp only[GG];refine eP (se':=[.sh _,.sh _,.sh _,.ow _,.no,.no,.no]) (by
   unfold M7;erw[one];simp[afN]) (evSet rfl (eP h1 (?D)))
  erw[one]
 ·exact i8 (Cb hc (λd hdd=>(hd d hdd).rk)) λc1 c2 c3=>λc=>⟨λh=>h4 _ c1 c2 c h,λh=>c3 _ h3 h5 c h⟩
#where
structure OC(T:afr)(d:Dep):Prop extends DOk T d where
 nd:(lf d).Nodup
theorem OE l:dp (afN l)<=1:=(?qi λt ht=>by
refine ag ?hi λw _ akb=>?_
subst akb
simp)
theorem OF T d:dp ?gZ<=2:=by
 cases d with
 |key k=>
  have:=OE k;refine ?qi ?qb;simp only[aed,af3,or_false]at ht;rcases ht with rfl|rfl|rfl
  ·simp
  ·simp
  ·show ?eM
 |fix f=>
  have h1:=OE f.1;have h2:=OE [f.2];refine ?qi ?qb;simp at ht;rcases ht with rfl|rfl|rfl|rfl
  ·simp
  ·simp
  ·exact h1
  ·exact h2
theorem OG:afN a=afN b<->a=b:=by unfold afN;rw[Tree.list.injEq];exact arF λx y e=>?jm
theorem RT:(afV T a).tree=(afV T b).tree<->a=b:=by
 cases a with
 |key k=>
  cases b with
  |key l=>simp[afV,ant,ak3,OG]
  |fix f=>simp[afV,ant,alN,ak3]
 |fix f=>
  cases b with
  |key l=>simp[afV,ant,alN,ak3]
  |fix g=>
   obtain⟨f1,f2⟩:=f;obtain⟨g1,g2⟩:=g;simp[afV,alN,ak3,OG]
section
variable{T:afr}(hT:aY T)
theorem sr{ds:?ra}(hl:?HZ):cS [kL T d,?wR]=.ok (.lst ((ds.filter ?ut).map ?fl)):=by simp only[BO];refine ?D;show ?aW;refine Al ?A rfl (λx hx=>⟨_,?ay,?_,?ar⟩) ?a;have h1:=OF T x;have h2:=OF T d;erw[one];unfold kL;rw[mQ ?a ?a];erw[one];congr 1;rw[acM];simp[RT]
include hT
theorem AH(hd:OC T d)(zT:∀x∈ds,OC T x)(hl:?HZ):gq [kL T d,?wR,?sx]=.ok (.bl (am_ ?aK ds d)):=by
 rw[Kb];show ?aW;refine ag (Hg hT (λx hx=>(zT x hx).toDOk) hd.lk hd.nd) λfx h1 h2=>evSet (by erw[one];rw[Oy];exact~~~(h1)) ?_;have hall:∀l:Names,l.all fx.contains=l.all (closure ?aK ds (lf d)).contains:=λl=>by rw[acM,adY,adY];refine ?OG;rw[afw,afw];exact h2 c
 cases d with
 |fix f=>
  refine iW (by erw[one];rw[Oz];erw[one];simp only[Pq];rw[Tt];rfl) ?_;rw[RS];erw[one];rw[yN (fZ _) (?dz) ?aj,hall];simp[am_,lf]
 |key k=>
  refine kb (by erw[one];rw[Oz];erw[one];simp only[Pq];rw[Tr (?c)];rfl) (?D);rw[anyC (f:=λx=>match x with
   |.key l=>l.all fx.contains
   |.fix _=>false) ?ch rfl (λx hx=>⟨_,?ay,by
    erw[one];rw[Oz];erw[one];cases x with
    |key l=>
     simp only[Pq];rw[Tt];erw[one];rw[Oy];erw[one];rw[yN (fZ _) (?dz) (by have:=(zT _ hx).l6;lia)];erw[one];rfl
    |fix f=>
     simp only[Pq];rw[Tr (?c)];rfl⟩) ?a]
  congr 2;unfold am_;show ?bR;congr 1;funext x;cases x with
  |key l=>exact hall l
  |fix f=>rfl
theorem RU(zT:∀x∈ds,OC T x)(hn:ds.Nodup)(hl:?HZ):rB [?wR,?sx]=.ok (.lst ((apw ?aK ds).map ?fl)):=by
 rw[Rm];refine evSet rfl ?_;have key:∀r kept x3 x4,(?fz).Nodup->(∀x∈?fz,OC T x)->(?fz).length<=5000->∃x3' x4',dv ?rE (ab (aD 4 (cF (c1 ?l (c1 ?h c0)) (cS))) (bC (bV (cF (c1 ?l (c1 ?L ?v)) (gq))) (aD 2 ?L) fN)) (r.map ?fl) [?fu,?fv,.sh (.lst ((?fz).map ?fl)),x3,x4]=.ok (.nx [?fu,?fv,.sh (.lst ((ana ?aK kept r++kept).map ?fl)),x3',x4']):=by
  intro r;induction r with
  |nil=>exactλkept x3 x4 _ _ _=>⟨x3,x4,rfl⟩
  |cons d r ih=>
   intro kept x3 x4 h1 h2 h3;have he:(d::r).reverse++kept=?so:=?J
   rw[he]at h1 h2 h3⊢;have hsub:(?fz).Sublist (?so):=List.Sublist.append (List.Sublist.refl _) (List.sublist_cons_self ..);have akc:(?so).filter (?ut)=?fz:=by
    rw[ahL]at h1;refine i8 h1 λn1 n2 n3=>?_;rw[agA]at n2;rw[apJ,aoq ?i,aiR.mpr ?Ba,aiR.mpr ?Ba]
    ·have:y≠d:=λe=>n2.1 (e▸hy);show ?fD
    ·have:=n3 y hy d ?aS;show ?fD
   have hd:=h2 d ?i;have hlen:(?fz).length<=5000:=afh hsub.length_le h3;have hf:=AH hT hd ?Qv hlen;have step:(ab (aD 4 (cF (c1 ?l (c1 ?h c0)) (cS))) (bC (bV (cF (c1 ?l (c1 ?L ?v)) (gq))) (aD 2 ?L) fN)) [?fu,?fv,.sh (.lst ((?so).map ?fl)),?tL,x4]=.ok (.nx [?fu,?fv,.sh (.lst ((if am_ ?aK (?fz) d=true then ?fz else ?so).map ?fl)),?tL,.sh (.lst ((?fz).map ?fl))]):=by
    rw[rO (Ey (by erw[one];rw[sr h3,akc]))];show ?Bw;rw[tU (b:=am_ ?aK (?fz) d) (by erw[one];rw[hf];erw[one])];split
    ·rfl
    ·rfl
   rw[abL];have hlo:∀{L}{se ox}{p}{gb},gb (se.set 3 (?iU))=.ok (.nx ox)->dv ?rE gb (p::L) se=dv ?rE gb L ox:=λ{L se ox p gb}h=>by
    conv=>lhs;unfold dv
    simp only[b8,quiet,Rs.aK];rw[h];rfl
   rw[hlo step];unfold ana;cases hb:am_ ?aK (?fz) d with
   |true=>
    show ?mL;exact ih kept _ _ (h1.sublist hsub) ?Qv hlen
   |false=>
    show ?sI;refine uu (ih (d::kept) (?tL) (.sh (.lst ((?fz).map ?fl))) h1 h2 h3) λa b h=>⟨a,b,?_⟩;rw[h];simp
 refine uu (key ds.reverse [] .no .no ?Xi (by simpa using zT) ?oJ) λx3 x4 h=>?_;rw[ao0,afM,afM]at h;refine eP ((uW (by erw[one];erw[Rs.aK,Vv,List.map_reverse])).trans h) (?D);erw[one];rfl
#where
section
variable{T:afr}(hT:aY T){s:Store}
def KA:Claim->Bool
 |.key _ _=>true
 |.fixes _ _ _=>true
 |_=>false
def hdC:Claim->Bytes
 |?eq _ _=>wEach
 |.any _ _=>wAny
 |.pairs _ _=>wPairs
 |?km _ _=>wNext
 |.key _ _=>wKey
 |.fixes _ _ _=>wFixes
 |.refers _ _ _ _=>wRefers
 |.groups _ _ _ _ _=>wGroups
theorem yO k:aU (?jK) ?ns=.ok (eT (?f (hdC k))):=by cases k<;>simp only[ak3]<;>exact ix0
theorem Cc:(?cp).filter KA=?jE (afV T):=by
 have h0:∀α(l:?aa)f,(∀a k,f a=?as->KA k=false)->(l.filterMap f).filter KA=[]:=λα l f h=>by rw[aoG];refineλk hk=>ag (ahi.mp hk) λa _ e=>?_;rw[h a k e];decide
 have h1:∀α(l:?aa)f,(∀a,∀k∈f a,KA k=false)->(?KI).filter KA=[]:=λα l f h=>by rw[aoG];refineλk hk=>ag ?LI λa _ e=>?_;rw[h a k e];decide
 unfold afQ ap_ afY;simp only[apJ,afU,abV];rw[h0 _ _ _ (λa k e=>by unfold amX at e;show ?aQ<;>cases e;rfl),
  h0 _ _ _ (λa k e=>by unfold amT at e;show ?aQ<;>cases e;rfl),
  h0 _ _ _ (λa k e=>by
   unfold aj0 at e;show ?aQ
   ·cases e
   ·simp only at e;show ?aQ<;>cases e;rfl),
  h1 _ _ _ (λa k e=>by
   unfold aiW at e;show ?aQ
   ·cases e
   ·show ?aQ
    ·simp at e;rw[e];rfl
    ·show ?aQ
     ·simp at e;rw[e];rfl
     ·show ?aQ
      ·simp at e;rw[e];rfl
      ·show ?qF),
  h0 _ _ _ (λa k e=>by unfold amd at e;show ?aQ<;>cases e;rfl),
  h1 _ _ _ (λa k e=>by
   rw[kK]at e;refine ag (aid.mp e) λU _ e=>?_;show ?aQ
   ·refine ag (ahi.mp e) λd _ e=>?_;simp only at e;show ?aQ<;>cases e;rfl
   ·show ?qF)]
 rw[aiR.mpr (λk hk=>by refine ag ?AO λa _ ae9=>?_;rw[<-ae9];rfl),aiR.mpr (λk hk=>by refine ag ?AO λa _ ae_=>?_;rw[<-ae_];rfl)];simp;rfl
theorem uh{l:List Claim}(hl:?jq):bp [.lst (l.map λk=>?jK)]=.ok (.lst ((l.filter KA).map λk=>?jK)):=by simp only[tN];refine ?D;show ?aW;refine Al ?A ?ko (λk hk=>⟨_,?ay,?_,?ar⟩) ?a;erw[yO];rw[Wb (?bg)];erw[one];congr 1;cases k<;>simp[hdC,KA]<;>decide
include hT
theorem lF(hs:∀U∈s,aY U)(h3:?LH):bp [.lst ((?cp).map λk=>?jK)]=.ok (.lst (?jE ?fl)):=by rw[uh (by have:=lE hT hs h3;lia),Cc,abV];rfl
theorem jw:∀l kept,kept.Nodup->(am6 kept l).Nodup
 |[],kept,h=>h
 |x::r,kept,h=>by
  unfold am6;split
  ·exact jw r _ h
  ·rename_i hn;refine jw r _ ?_;rw[ahL];refine⟨h,?J,λa ha b hb e=>hn ?_⟩;simp at hb;subst hb e;rw[akA];exact⟨a,ha,adY.mpr λc hc=>afw.mpr hc⟩
omit hT in
theorem ui{α:Type}:∀{k:Nat}{l s:?aa},l.Nodup->s∈ahe k l->s.Nodup
 |0,l,s,_,h=>by cases l<;>simp[ahe]at h<;>subst h<;>simp
 |k+1,[],s,_,h=>by simp[ahe]at h
 |k+1,a::r,s,hn,h=>by
  rw[agA]at hn;simp only[ahe,afC,adX]at h;rcases h with⟨z,hz,rfl⟩|h
  ·rw[agA];exact⟨λhm=>hn.1 ((j6 hz).2 a hm),ui hn.2 hz⟩
  ·exact ui hn.2 h
omit hT in
theorem Ja{α:Type}{n:Nat}{l s:?aa}(hn:l.Nodup)(h:?LE):s.Nodup:=by unfold ahQ at h;refine ag (aid.mp h) λk _ h=>?_;exact ui hn h
theorem wg:(∀d∈?fr,OC T d)/\(?fr).Nodup:=by
 have hnd:(?au).Nodup:=hT.nd;have hk:∀k∈?kl,(∀c∈k,c∈?au)/\?wZ:=λk hk=>by unfold aiS at hk;rw[ik]at hk;exact(lB (P:=λk=>(∀c∈k,c∈?au)/\?wZ) _ [] (λs hs _=>⟨(j7 hs).2,afh (j7 hs).1 (?c),Ja hnd hs⟩) ?i).1 k hk
 have hlf:∀d,∀k∈?rk,(∀c∈k,c∈?au)/\?wZ:=λd k hk=>by unfold al8 at hk;rw[ik]at hk;exact(lB (P:=λk=>(∀c∈k,c∈?au)/\?wZ) _ [] (λs hs _=>⟨λc hc=>(afJ.mp ((j7 hs).2 c hc)).1,afh (j7 hs).1 (?c),Ja (hnd.sublist amZ) hs⟩) ?i).1 k hk
 show ?cI
 ·intro d hd;rcases afC.mp hd with hd|hd
  ·refine ag (adX.mp hd) λk E2 afa=>?_;subst afa;exact i8 (hk k E2) λa b c=>⟨⟨a,b,λc hc=>hc⟩,c⟩
  ·refine ag (adX.mp hd) λf hf Lq=>?_;subst Lq;refine ag (aid.mp hf) λe he hf=>ag (adX.mp hf) λs hs afb=>?_;rw[<-afb];exact i8 (hlf e s (afJ.mp hs).1) λa b c=>⟨⟨a,b,λc hc=>by simp[rt]at hc;rw[hc];exact he⟩,c⟩
 ·unfold afY;rw[ahL];refine⟨?_,?_,?GF⟩
  ·rw[arG,akI];exact(jw hT _ [] ?i).imp λh e=>h (?jm)
  ·rw[arG,akI];unfold aoJ;have:∀l:?fR,l.Nodup->(l.flatMap λd=>((?rk).filter λs=>!((?kl).any ?kz)).map λs=>(s,d)).Pairwise λa b=>Dep.fix a≠Dep.fix b:=λl hl=>by
    induction l with
    |nil=>simp
    |cons d r ih=>
     rw[agA]at hl;rw[af2,List.pairwise_append];refine⟨?_,ih hl.2,?GF⟩
     ·rw[akI];exact((jw hT _ [] ?i).sublist amZ).imp λh e=>h (?jm)
     ·refine ag ?tT λs _ Lr=>?_;subst Lr;refine ag (aid.mp hb) λd2 hd2 hb=>ag (adX.mp hb) λs2 _ afc=>?_;subst afc;simp at e;exact hl.1 (e.2▸hd2)
   exact this _ hnd
  ·refine ag ?tT λk _ afd=>?_;subst afd;refine ag (adX.mp hb) λf _ afe=>?_;subst afe;simp at e
#where
open Vadttb (Dep Names)
structure G(d n:Nat)(t:Tree):Prop where
 ok:?ba
 nd:nd t<=n
structure Gs(d n:Nat)(l:?aA):Prop where
 ok:∀t∈l,?ba
 nd:Om l<=n
theorem cw(h:?jA)(hn:1<=n):G d n (?f w):=⟨?f h,hn⟩
theorem g_num(h:k<=1000000)(hn:1<=n):G d n (.num k):=⟨.num h,hn⟩
theorem fo:Gs d n []:=⟨?J,?bg⟩
theorem aB(h:G d a x)(h2:Gs d b r)(e:a+b<=n):Gs d n (x::r):=⟨λt ht=>by
 show ?sk
 ·exact h.ok
 ·exact h2.ok t ht,by simp only[aS];have:=h.nd;have:=h2.nd;lia⟩
theorem OH:∀l,l.length<=Om l
 |[]=>?bg
 |x::r=>by
  simp only[aS,ad2];have:=OH r;have:1<=nd x:=by cases x<;>first|(rw[G_];lia)|(rw[B5];lia)|(rw[eG];simp)
  lia
theorem gW(h:Gs d n l)(hn:n<=5000)(e:1+n<=m):G ?eL m (?j l):=⟨?j (by have:=OH l;have:=h.nd;lia) h.ok,by simp only[eG];have:=h.nd;lia⟩
theorem Cd{α:Type}{d b}{f}:∀{l:?aa},(∀a∈l,G d b ?dF)->Gs d (?LM) ?iB
 |[],_=>fo
 |a::r,h=>aB (h a ?aS) (Cd λx hx=>h x ?hs) (by simp only[ad2,Nat.mul_succ];lia)
theorem Gs.mono(h:Gs d n l)(e:n<=m):Gs d m l:=⟨h.ok,afh h.nd e⟩
theorem i6{two s}(h:?KB)(hn:3<=n):G ?eL n ((Exp.col s c).tree two):=by
 have hw:(?vF).length<=20:=by cases two<;>cases s<;>decide
 exact gW (n:=2) (aB (cw hw ?a) (aB (b:=0) (cw h ?a) fo ?a) ?a) ?a ?bM
theorem n0{two}(h:G d a ?jB)(ha:a<=100)(hn:a+2<=n):G ?eL n ((Cond.gone e).tree two):=gW (n:=a+1) (aB (cw ?dx ?a) (aB (b:=0) h fo ?a) ?a) ?a ?a
theorem AI{two}(h:G d a ?jB)(ha:a<=100)(hn:a+2<=n):G ?eL n ((Cond.not_ e).tree two):=gW (n:=a+1) (aB (cw ?dx ?a) (aB (b:=0) h fo ?a) ?a) ?a ?a
theorem Ce{two}(h:G d a (?ef))(h2:G d b (?qf))(ha:a+b<=100)(hn:a+b+2<=n):G ?eL n ((Cond.less x y).tree two):=gW (n:=a+b+1) (aB (cw ?dx ?a) (aB h (aB (b:=0) h2 fo ?a) ?a) ?a) ?a ?a
theorem g_same{two}(h:G d a (?ef))(h2:G d b (?qf))(ha:a+b<=100)(hn:a+b+2<=n):G ?eL n ((asf x y).tree two):=gW (n:=a+b+1) (aB (cw ?dx ?a) (aB h (aB (b:=0) h2 fo ?a) ?a) ?a) ?a ?a
theorem RV{two}(h:Gs d a (?HU))(ha:a<=1000)(hn:a+2<=n):G ?eL n ((as7 l).tree two):=by rw[show(as7 l).tree _=?j _ from rfl,de];exact gW (n:=a+1) (aB (cw ?dx ?a) h ?a) ?a ?a
theorem aff{two}(h:Gs d a (?HU))(ha:a<=1000)(hn:a+2<=n):G ?eL n ((Cond.and_ l).tree two):=by rw[show(Cond.and_ l).tree _=?j _ from rfl,de];exact gW (n:=a+1) (aB (cw ?dx ?a) h ?a) ?a ?a
theorem OI(h:∀w∈l,?jA)(hl:l.length<=10)(hn:11<=n):G ?eL n (afN l):=
 gW (n:=10) ((Cd λw hw=>cw (h w hw) ?a).mono (?W)) ?a ?bM
def OJ(T:afr):Prop:=∀c∈T.cols,∀n,c.kind=.up n->?qd
inductive TB(s:Store)(T:afr):Claim->Prop
 |each {c:Cond}:G 10 95 ?tf->?ky->TB s T (?eq T.name c)
 |next {c:Cond}:G 10 95 ?JL->?ky->TB s T (?km T.name c)
 |key {k:Names}:k∈?kl->TB s T (.key T.name k)
 |fixes {f:Vadttb.Fix}:f∈aoJ T->TB s T (.fixes T.name f.1 [f.2])
 |refers {U:afr} {c d:Bytes}:U∈s->T.hasCols [c]=true->U.hasCols [d]=true->?KB->d.length<=20->TB s T (.refers T.name [c] U.name [d])
theorem KC(h:?rD):akq l∈l:=by
 have key:∀(r:?aw)a,r.foldl min a=a\/r.foldl _ a∈r:=λr=>by
  induction r with
  |nil=>exactλa=>?y
  |cons x r ih=>
   intro a;simp only[ah0];rcases ih _ with h|h
   ·rw[h];show ?Xm
    ·left;simp_all
    ·right;simp_all
   ·right;exact aaV _ h
 cases l with
 |nil=>show ?aD
 |cons x r=>
  delta akq;simp_all
theorem OK(h:?rD):akR l∈l:=by
 have key:∀(r:?aw)a,r.foldl max a=a\/r.foldl _ a∈r:=λr=>by
  induction r with
  |nil=>exactλa=>?y
  |cons x r ih=>
   intro a;simp only[ah0];rcases ih _ with h|h
   ·rw[h];show ?Xm
    ·right;simp_all
    ·left;simp_all
   ·right;exact aaV _ h
 cases l with
 |nil=>show ?aD
 |cons x r=>
  delta akR;simp_all
section
variable{T:afr}(hT:aY T)(hN:OJ T){s:Store}(hs:∀U∈s,aY U)
include hT
theorem i7(hc:?mX):c.name.length<=20:=(hT.co c hc).nm
theorem Cf(hc:?mX):T.hasCols [c.name]=true:=by simp[ag5,(?hF).1]
include hN
theorem OL(hc:?mX)(hn:n∈af0 (?bb)):?qd:=by
 delta af0 abN at hn;rw[ami]at hn;refine ag (ahi.mp hn) λr hr e=>?_;simp at e;refine i8 (?hF) λh1 h2 _=>?_;have h3:=?Qu;cases hx:afX _ r _ with
 |num m=>
  rw[hx]at e h3;delta ap2 at h3;cases hk:c.kind with
  |of_ ws=>rw[hk]at h3;simp[apj]at h3
  |up k=>
   rw[hk]at h3;simp[apj]at h3;have:=hN c hc k hk;lia
 |word w=>simp_all
 |gone=>simp_all
include hs
theorem AJ(hk:k∈?cp):TB s T k:=by
 unfold afQ ap_ at hk;simp only[afC]at hk;have hcc:∀{l},(∀c∈l,?dW=true)->T.hasCols l=true:=λh=>adY.mpr h;rcases hk with(hk|hk|hk|hk|hk)|hk|hk|hk
 ·refine ?wj;unfold amX at e;show ?aQ
  ·cases e;have hl:=?rb;refine ?eq ⟨(AI (d:=3) (a:=5) (n:=7) (n0 (d:=2) (a:=3) (i6 hl ?a) ?a ?a) ?a ?a).ok.mono ?a,(AI (d:=3) (a:=5) (n:=95) (n0 (d:=2) (a:=3) (i6 hl ?a) ?a ?a) ?a ?a).nd⟩ ?_;simp only[agw,aho,ain];exact Cf hT hc
  ·cases e
 ·refine ?wj;have hl:=?rb;have hne:∀l,af0 (?bb)=l->amT T c=?as->?rD/\k=?OA:=λl hl2 e=>by
   unfold amT at e;rw[hl2]at e;cases l with
   |nil=>cases e
   |cons a r=>cases e;exact⟨?J,rfl⟩
  obtain⟨h1,rfl⟩:=hne _ rfl e;have hlo:=OL hT hN hc (KC h1);have hhi:=OL hT hN hc (OK h1);generalize akq (af0 (?bb))=lo at hlo;generalize akR (af0 (?bb))=hi at hhi;refine ?eq ?_ ?_
  ·unfold am7 aho;refine RV (d:=9) (a:=30) ?_ ?a ?a;show ?pS;refine aB (a:=5) (b:=25) (n0 (d:=8) (a:=3) (i6 hl ?a) ?a ?a) (aB (a:=25) (b:=0) (aff (d:=8) (a:=20) ?_ ?a ?a) fo ?a) ?a;show ?pS;refine aB (a:=8) (b:=8) (AI (d:=7) (a:=6) (Ce (d:=6) (a:=3) (b:=1) (i6 hl ?a) (by unfold akD;exact g_num hlo ?a) ?a ?a) ?a ?a) (aB (a:=8) (b:=0) (AI (d:=7) (a:=6) (Ce (d:=6) (a:=1) (b:=3) (by unfold akD;exact g_num hhi ?a) (i6 hl ?a) ?a ?a) ?a ?a) fo ?a) ?a
  ·refine hcc ?jF;simp only[am7,agw,ags,aho,ain,afP,afM,afC,afO,ame,aed,af3,or_false]at hx;have:x=c.name:=by rcases hx with h|h|h<;>exact h
   rw[this];exact(?hF).1
 ·refine ?wj;have hl:=?rb;have hco:=hT.co c hc;unfold aj0 at e;show ?aQ
  ·cases e
  ·rename_i ws hkd;simp only at e;have hwl:ws.length<=10:=by have:=hco.wl;rw[hkd]at this;show ?eM
   have hws:∀w∈ws,?jA:=by have:=hco.ws;rw[hkd]at this;show ?eM
   generalize hu:ws.filter (alj (?bb)).contains=used at e;have hul:used.length<=10:=by rw[<-hu];exact afh ?hx hwl
   have huw:∀w∈used,?jA:=λw hw=>by rw[<-hu]at hw;exact hws w (afJ.mp hw).1
   show ?aQ
   ·cases e
   ·cases e;refine ?eq ?_ ?_
    ·unfold akX aho;refine RV (d:=9) (a:=85) ?_ ?a ?a;rw[abL,abV];refine aB (a:=5) (b:=80) (n0 (d:=8) (a:=3) (i6 hl ?a) ?a ?a) ((Cd (b:=8) λw hw=>?_).mono ?a) ?a;refine g_same (d:=8) (a:=3) (b:=3) (i6 hl ?a) ?_ ?a ?a;unfold akD;exact gW (n:=2) (aB (a:=1) (b:=1) (cw (?c) ?a) (aB (a:=1) (b:=0) (cw (huw w hw) ?a) fo ?a) ?a) ?a ?a
    ·refine hcc ?jF;have:x=c.name:=by
      simp only[akX,agw,ags,afC]at hx;rcases hx with hx|hx
      ·simpa[aho,ain]using hx
      ·exact ud used x hx
     rw[this];exact(?hF).1
 ·refine ag ?LI λXl hab e=>?_;obtain⟨a,b⟩:=Xl;simp only at e;have hin:a∈(?au).filter (am9 T)/\b∈(?au).filter (am9 T):=by
   unfold aoH at hab;refine ag (ahi.mp hab) λl hl e=>?_;have hm:=(j6 hl).2;show ?aQ
   ·cases e;exact⟨hm _ ?i,hm _ ?i⟩
   ·cases e
  have hnm:∀x∈(?au).filter (am9 T),?KC/\(T.colNo x).isSome=true:=λx hx=>by have hx:=?zE;refine⟨?_,j8 hT hx⟩;unfold aa4 at hx;refine ag ?mP λc hc oe5=>?_;subst oe5;exact ?rb
  obtain⟨la,ca⟩:=hnm a hin.1;obtain⟨lb,cb⟩:=hnm b hin.2;have gor:∀{x y}{z},?KC->y.length<=20->G 9 20 (z.tree false)->G 10 95 ((as7 [?bm (aho x),?bm (aho y),z]).tree false):=λ{x y z}hx hy hz=>by refine RV (d:=9) (a:=30) ?_ ?a ?a;show ?pS;exact aB (a:=5) (b:=25) (n0 (d:=8) (a:=3) (i6 hx ?a) ?a ?a) (aB (a:=5) (b:=20) (n0 (d:=8) (a:=3) (i6 hy ?a) ?a ?a) (aB (a:=20) (b:=0) hz fo ?a) ?a) ?a
  have gno:∀{x y},?KC->y.length<=20->G 9 20 ((Cond.not_ (.less (aho x) (aho y))).tree false):=λhx hy=>AI (d:=8) (a:=8) (Ce (d:=7) (a:=3) (b:=3) (i6 hx ?a) (i6 hy ?a) ?a ?a) ?a ?a;unfold aiW at e;show ?aQ
  ·cases e
  ·show ?aQ
   ·simp at e;subst e;exact ?eq (gor la lb (g_same (d:=8) (a:=3) (b:=3) (i6 la ?a) (i6 lb ?a) ?a ?a)) (hcc λx hx=>by simp[apm,agw,ags,aho,ain]at hx;rcases hx with rfl|rfl|rfl|rfl<;>show ?cJ)
   ·show ?aQ
    ·simp at e;subst e;exact ?eq (gor la lb (gno lb la)) ?My
    ·show ?aQ
     ·simp at e;subst e;exact ?eq (gor lb la (gno la lb)) ?My
     ·cases e
 ·refine ?wj;unfold aa4 at hc;refine ag (adX.mp hc) λcol Cg oe6=>?_;subst oe6;have hl:=i7 hT Cg;unfold amd at e;show ?aQ
  ·cases e;refine ?km ?_ (hcc ?jF)
   ·unfold aoI;refine RV (d:=9) (a:=30) ?_ ?a ?a;show ?pS;exact aB (a:=5) (b:=25) (n0 (d:=8) (a:=3) (i6 hl ?a) ?a ?a) (aB (a:=5) (b:=20) (n0 (d:=8) (a:=3) (i6 hl ?a) ?a ?a) (aB (a:=20) (b:=0) (AI (d:=8) (a:=8) (Ce (d:=7) (a:=3) (b:=3) (i6 hl ?a) (i6 hl ?a) ?a ?a) ?a ?a) fo ?a) ?a) ?a
   ·simp[aoI,agw,ags,ain]at hx;have:x=col.name:=by show ?yW<;>rfl
    rw[this];exact(f_ hT Cg).1
  ·cases e
 ·refine ag ?AO λk2 h1 oe7=>?_;subst oe7;exact .key h1
 ·refine ag ?AO λk2 h1 oe8=>?_;subst oe8;exact .fixes h1
 ·refine ag ?LI λc hc e=>?_;rw[kK]at e;refine ag (aid.mp e) λU hU e=>?_;show ?aQ
  ·unfold RQ at e;refine ag (ahi.mp e) λd hd e=>?_;have hd:=(afJ.mp hd).1;simp only at e;show ?aQ
   ·cases e;exact .refers hU (Cf hT hc) (Cf (?vx) hd) (?rb) (i7 (?vx) hd)
   ·cases e
  ·cases e
theorem AK(h:c∈?au):?KB:=by refine ag (adX.mp h) λcol hc oe9=>?_;subst oe9;exact ?rb
theorem KD(h:TB s T k):G 12 100 k.tree:=by
 have hn:=hT.nm;show ?yg;have hkey:∀d∈?fr,(∀w∈lf d,?jA)/\(lf d).length<=10:=λd hd=>⟨λw hw=>AK hT hN hs ((d1 d hd).lk w hw),by have:=(d1 d hd).l6;lia⟩;cases h with
 |each h1 h2=>exact gW (d:=11) (n:=97) (aB (a:=1) (b:=96) (cw (?c) ?a) (aB (a:=1) (b:=95) (cw hn ?a) (aB (b:=0) ⟨h1.ok.mono ?a,h1.nd⟩ fo ?a) ?a) ?a) ?a ?a
 |next h1 h2=>exact gW (n:=97) (aB (a:=1) (b:=96) (cw (?c) ?a) (aB (a:=1) (b:=95) (cw hn ?a) (aB (a:=95) (b:=0) ⟨h1.ok.mono ?a,h1.nd⟩ fo ?a) ?a) ?a) ?a ?a
 |@key k h1=>
  obtain⟨a,b⟩:=hkey (.key k) ?Qe;exact gW (d:=11) (n:=20) (aB (a:=1) (b:=12) (cw (?c) ?a) (aB (a:=1) (cw hn ?a) (aB (b:=0) (OI a b ?a) fo ?a) ?a) ?a) ?a ?a
 |@fixes f h1=>
  have hm:Dep.fix f∈?fr:=?QK;obtain⟨a,b⟩:=hkey (.fix f) hm;have c:∀w∈[f.2],?jA:=λw hw=>AK hT hN hs ((d1 _ hm).rk w hw);exact gW (aB (a:=1) (b:=23) (cw (?c) ?a) (aB (a:=1) (b:=22) (cw hn ?a) (aB (a:=11) (b:=11) (OI a b ?a) (aB (a:=11) (b:=0) (OI c ?i ?a) fo ?a) ?a) ?a) ?a) ?a ?a
 |@refers U c d hU h1 h2 h3 h4=>
  exact gW (d:=11) (n:=30) (aB (a:=1) (b:=24) (cw (?c) ?a) (aB (a:=1) (b:=23) (cw hn ?a) (aB (a:=11) (b:=12) (OI (?GR) ?i ?a) (aB (a:=1) (b:=11) (cw (?vx).nm ?a) (aB (a:=11) (b:=0) (OI (by simpa using h4) ?i ?a) fo ?a) ?a) ?a) ?a) ?a) ?a ?a
theorem OM(h:TB s T k)(hf:s'.find T.name=some T')(hc:T'.cols=T.cols)(hu:∀U∈s,∃U',s'.find U.name=some U'/\U'.cols=U.cols):k.good s'=true:=by
 have Cg:∀{A B:afr}l,A.cols=B.cols->A.hasCols l=B.hasCols l:=λ{A B}l e=>by delta ag5 anm;rw[e]
 show ?yg;have hin:∀{l},(∀c∈l,c∈?au)->T.hasCols l=true:=λh=>adY.mpr λc hc=>j8 hT (h c hc);cases h with
 |each h1 h2=>simp_all[anI,ap3,hf,?vy]
 |next h1 h2=>simp_all[anI,ap3,hf,?vy]
 |@key k h1=>
  simp only[anI,ap3,hf];rw[?vy];exact hin (d1 _ ?Qe).lk
 |@fixes f h1=>
  have hm:=d1 _ (?QK);simp[anI,ap3,hf,?vy,show T.hasCols f.1=true from hin hm.lk,show T.hasCols [f.2]=true from hin hm.rk]
 |@refers U c d hU h1 h2 h3 h4=>
  refine ag (hu U hU) λU' u1 u2=>?_;simp only[anI,ap3,hf,u1];simp[?vy,Cg _ u2,h1,h2]
#where
structure qr(s:Store):Prop where
 tab:∀T∈s,aY T
 num:∀T∈s,OJ T
 nm:∀T∈s,?Xn
 l3:?LH
 nd:(?GX).Nodup
def nx(n:Int):Int:=?Uh
def ON(r:?k)(a:?Z):Prop:=r=?Ea\/∃n,r=?ai/\a=[nx n]
def eS(s:Store):PV:=.lst ?bU
theorem Jb:∀{w t:Bytes},(∀b∈w,afT b=true)->w.map apY=?CC->w=t
 |[],[],_,_=>rfl
 |[],_::_,_,e=>by cases e
 |_::_,[],_,e=>by show ?aD
 |a::w,b::r,hw,e=>by
  obtain⟨e1,e2⟩:=aru e;have h0:=((Eo (P:=λa=>afT a=true->a.toNat≠32/\a.toNat≠63) (?c) a) (hw a ?ct));have h1:a.toNat=b.toNat:=by
   rcases(Eo (P:=λb=>sg b=b.toNat\/sg b=32\/sg b=63) (?c) b)with h|h|h
   ·rw[e1,h]
   ·simp_all
   simp_all
  rw[aph h1,Jb (λx hx=>hw x ?hs) e2]
theorem TF(hw:w.all afT=true):sB w=tS t<->w=t:=by
 show ?cI
 ·refineλe=>Jb (adY.mp hw) ?_;have:=congrArg ?FL e;simpa[sB,tS]using this
 ·intro e;subst e;exact(N_ hw).symm
theorem RW(h:qr s)t:findS s ?hL=?dP:=by
 delta findS ajO;have hn:=h.nm;clear h;induction s with
 |nil=>rfl
 |cons T r ih=>
  rw[ahu,ahu,ih λU hU=>hn U (aaV _ hU)];have:decide (?uz=tS t)=(T.name==t):=by rw[acM,decide_eq_true_eq,beq_iff_eq,TF (hn T ?aS)]
  rw[this]
section
variable{s:Store}(hS:qr s){t:Bytes}(ht:?gi)
include hS ht
theorem pG:aA ?mQ=match ?dP with
  |?eH=>.ok ?em
  |none=>?dN:=by
 simp only[zr];refine ?D;erw[tV ht,Rs.aK,eS,nH (Oa t),RW hS];all_goals rfl
theorem gc(h:?dP=?eH):aA ?mQ=.ok ?em:=by rw[pG hS ht,h]
theorem ip(h:?dP=none):aA ?mQ=?dN:=by rw[pG hS ht,h]
#where
theorem Ci{α:Type}{f}{l:?aa}(h:∀a∈l,G d b ?dF):(∀t∈l.map f,?ba)/\(afA ?iB).length<=22*(?LM):=by have h1:=Cd h;refine⟨h1.ok,?_⟩;have:=nO _ d h1.ok;have:=h1.nd;lia
theorem int_bytes t:(t.map λb=>PV.int (b.toNat:Nat))=(asV t).map PV.int:=by delta asV;rw[abV];rfl
theorem yP(hp:p=(aq5 l).map PV.int):ON (if 12000<t.length then .ex (-8)else .ok (.lst (p++t.map ?ww))) (ar0 l t):=by
 delta ar0;by_cases hb:12000<t.length
 ·rw[?uQ,if_pos (show as8<_ from hb)];exact .inr ⟨-8,rfl,rfl⟩
 ·rw[?uR,if_neg (show¬as8<_ from hb)];refine .inl ?_;simp only[int_bytes,hp,afU]
section
variable{s:Store}(hS:qr s){T:afr}(hm:T∈s)
include hS hm
theorem su:∀k∈?cp,G 12 100 k.tree:=λk hk=>KD (?dv) (?tY) hS.tab (AJ (?dv) (?tY) hS.tab hk)
theorem pH:aW [ay T,eS s]=.ok (.lst (((?cp).map ak3).map eT)):=by delta eS;simp only[kS (?dv) hS.tab hS.l3,abV];rfl
#where
section
variable{s:Store}(hS:qr s){t:Bytes}(ht:?gi)
include hS ht
theorem KG:ON (gJ ?mQ) (afL ?bc (.found t)).2:=by
 show ?ud;simp only[xX];cases hf:?dP with
 |none=>
  refine .inr ⟨-13,?D,rfl⟩;erw[one];rw[?KK];rfl
 |some T=>
  show ?kM;obtain⟨h1,h2⟩:=(show(∀t∈(?cp).map ak3,Ok 30 t)/\(afA ((?cp).map ak3)).length<=10000000 from by obtain⟨h1,h2⟩:=Ci (su hS hm);have:=lE (?dv) hS.tab hS.l3;refine⟨λt ht=>(h1 t ht).mono ?dx,?_⟩;lia)
  have hl:=lE (?dv) hS.tab hS.l3;have hc:=nP h1 ?aj h2;have e:outF (ai (cF (c1 (cF (c1 (cF (c1 ?b ?v) (aA)) (c1 ?b c0)) (aW)) c0) (bw)) [?iv,?iw])=bw [.lst (((?cp).map ak3).map eT)]:=by refine ?D;erw[?mR,pH hS hm]
  simp only[e,hc];exact yP (p:=[?bB]) ?yd
theorem kT:bZ [eS s,?eo,eL t]=match ?dP with
  |none=>?dN
  |?eH=>match ?vJ with
   |none=>.ex (-4)
   |?bj=>.ok (eK T c):=by
 simp only[zu];cases hf:?dP with
 |none=>exact fj (by erw[one];rw[?KK];rfl) rfl
 |some T=>
  show ?kM;refine evSet (by erw[?mR];exact~~~(nZ (?dv) hS.tab hS.l3)) (qa (by erw[one];rw[aa_]) (?T) λz=>?D)
  ·show ?bR;by_cases h0:k<0
   ·rw[if_pos h0]
   ·rw[?BB,akS (by simp[h0]at z;lia)]
  ·have z:0<=k/\k<(?cp).length:=by simp at z;lia
   obtain⟨j,rfl⟩:=Int.eq_ofNat_of_zero_le z.1;have hj:j<(?cp).length:=?M
   show ?bR;rw[if_neg ?a];simp only[alz];rw[aft hj];show ?bR;erw[one];exact tT (by simp only[ad0,aft hj];rfl)
theorem OO:ON (iO [eS s,?eo,eL t]) (afL ?bc (.told t k)).2:=by
 simp only[afL,aq6,amF];have h:=?Ia;simp only[zv];cases hf:?dP with
 |none=>simp only[hf]at h;exact .inr ⟨-13,?ys,rfl⟩
 |some T=>
  rw[hf]at h;show ?kM;simp only at h⊢;cases hc:?vJ with
  |none=>rw[hc]at h;exact .inr ⟨-4,?ys,rfl⟩
  |some c=>
   rw[hc]at h;have E8:c∈?cp:=by
    split at hc
    ·exact nn hc
    ·exact ail hc
   have hg:=su hS hm c E8;have hg1:∀x∈[c.tree],G 12 100 x:=λx hx=>by show ?fY;rw[hx];exact hg
   obtain⟨h1,h2⟩:=Ci hg1;rw[List.map_id']at h1 h2;have hab:=lu (λx hx=>(h1 x hx).mono ?a) ?i (by simp at h2⊢;lia);rw[show afA [c.tree]=c.tree.write from ?H]at hab;have e:outF (ab (aD 3 (cF (c1 ?b (c1 ?x (c1 ?h c0))) (bZ))) (ai (cF (c1 (cF (c1 (c2 aU ?l ?ab) c0) nh) c0) (bH))) [?iv,.sh (?eo),?iw,.no])=bH [.lst [?nn]]:=by refine evSet (~~~(h)) (?D);simp only[eK];erw[one]
   rw[e];rw[show [?nn]=[c.tree].map eT from rfl,hab];exact yP (l:=[]) rfl
theorem EU:ON (h_ [eS s,?eo,eL t]) (afL ?bc (.support t k)).2:=by
 dsimp only[afL,aq6,amF];have h:=?Ia;cases hf:?dP with
 |none=>rw[hf]at h;exact .inr ⟨-13,?ys,rfl⟩
 |some T=>
  rw[hf]at h;simp only at h⊢;cases hc:?vJ with
  |none=>rw[hc]at h;exact .inr ⟨-4,?ys,rfl⟩
  |some c=>
   rw[hc]at h;refine .inl (evSet (~~~(h)) (?D));rfl
theorem OP:ON (iP ?mQ) (afL ?bc (.keys t)).2:=by
 show ?ud;rw[zw];show ?aW;cases hf:?dP with
 |none=>
  refine .inr ⟨-13,fj ?_ rfl,rfl⟩;erw[one];rw[?KK];rfl
 |some T=>
  show ?kM;obtain⟨k1,k2⟩:=oM (?dv);refine .inl (evSet (by erw[one];rw[?mR];exact~~~(sj (?dv))) ?_)
  generalize hp:PV.lst (?pT ?eS)=p;refine eP (se':=[?iv,?iw,?iU,.ow [.int ((?kl).length:Nat)],.no]) (by subst hp;unfold oZ;erw[one];simp;lia) ?_
  refine IX (m:=5000) (b:=7) (en:=?eS) (f:=λk=>?Rw ?cK) (λacc se=>∃y,se=[?iv,?iw,?iU,?cU,y]) (?kl) ?ak ?aj (λk hk=>by have:=(?vw).2;simp;lia) (λk hk acc se ha⟨y,hy⟩=>by subst hy;have hkl:=(?vw).2;refine⟨_,[?iv,?iw,?iU,.ow (acc++?Rw ?cK),.sh (eT (o7 T k))],?H,?_,_,rfl⟩;rw[rO (Ou (p:=.int (k.length:Nat)) rfl (by erw[one];rw[si,NV];simp) ?a)];show ?Bw;rw[Tq rfl (by erw[one];rw[si]) rfl ?aj];simp) ?ad ?_
  rintro se' ⟨y,rfl⟩;refine ?D;erw[one];unfold aq7 arK Vadttb.colNos;simp only[abL,abV,am5,anw,ame,afP];rfl
#where
theorem sv:∀f ps d l rest,?hr=?zC->Om l+rest.length<=ps.length
 |0,ps,d,l,rest,h=>?Hv
 |f+1,[],d,l,rest,h=>by simp[afH]at h;show ?gU;rw[iS];simp
 |f+1,?kq,d,l,rest,h=>by
  unfold afH at h;show ?ao
  ·show ?aR;show ?gU;rw[iS];simp
  ·show ?ao
   ·cases d with
    |zero=>show ?w
    |succ d=>
     show ?gr;cases ht:?hr with
     |none=>rw[ht]at h;show ?aR
     |some x=>
      show ?pF;rw[ht]at h;have a2:=sv f ps d m r1 ht;cases r1 with
      |nil=>show ?aD
      |cons c s=>
       show ?gr;cases IU:afH f _ s with
       |none=>rw[IU]at h;show ?aD
       |some y=>
        obtain⟨m2,r2⟩:=y;rw[IU]at h;show ?aR;show ?gU;have b2:=sv f s _ _ r2 IU;rw[aS,eG];simp only[ad2]at a2⊢;lia
   ·cases ha:akF p with
    |none=>rw[ha]at h;show ?w
    |some a=>
     rw[ha]at h;simp only[ah9]at h;cases ht:?hr with
     |none=>rw[ht]at h;show ?aR
     |some x=>
      show ?pF;rw[ht]at h;show ?aR;show ?gU;have b2:=sv f ps d m r1 ht;have:nd a=1:=by
       unfold akF at ha;split at ha
       ·split at ha
        ·cases ha;exact G_ _
        ·show ?aD
       ·split at ha
        ·cases ha;exact B5 _
        ·exact nn ha
      rw[aS,this];simp only[ad2];lia
theorem qt(h:ali t=?F):nd x<=4000/\Ok 40 x:=by
 delta ali at h;show ?ao
 ·cases h;rename_i hr;have h1:=qg hr;refine⟨?_,h1.1 _ ?ct⟩;delta alh at hr;split at hr
  ·exact nn hr
  ·split at hr
   ·rename_i ht;cases hr;have:=sv _ _ _ _ _ ht;have:=(GU t).2;rw[aS]at*;lia
   ·show ?aD
 ·show ?w
theorem mv{two}:∀e:Exp,e.cols.length<=nd ?jB
 |?an=>?bg
 |?f w=>?bg
 |.col s c=>by simp[ain,akD,eG]
 |.add a b=>?Ms
 |.sub a b=>?Ms
mutual
theorem oQ{two:Bool}:∀c:Cond,c.cols.length<=nd (?ez)
 |.less a b=>?Mt
 |.same a b=>?Mt
 |?bm a=>by have h1:=mv (two:=two) a;simp only[agw,aic];rw[eG,aS,aS,iS];lia
 |.and_ l=>?Nm
 |.or_ l=>?Nm
 |.not_ c=>by have h1:=oQ (two:=two) c;simp only[agw,aic];rw[eG,aS,aS,iS];lia
theorem yQ{two:Bool}:∀l:List Cond,(ags l).length<=Om (?uT)
 |[]=>by simp[ags]
 |c::r=>by have h1:=oQ (two:=two) c;have h2:=yQ (two:=two) r;simp only[ags,akC];rw[aS,adW];lia
end
theorem OQ{l:List (?aw)}:bz neg (.lst ((l.map nT).map eT)) ?bu=?sa:=by
 rw[eq_nil λt ht=>by
  refine ag ?hi λb _ oe1=>?_;subst oe1;have:dp (nT b)<=1:=?qi λt ht=>by refine ag ?hi λn _ oe2=>?_;subst oe2;simp
  lia,anS]
section
variable{s:Store}(hS:qr s){t:Bytes}(ht:?gi)
include hS ht
theorem KH:ON (gK ?mQ) (afL ?bc (.holds t)).2:=by
 simp only[afL];unfold Vadtta.claimOf;rw[xY];by_cases hl:700<t.length
 ·rw[if_pos (show asW<t.length from hl)];refine .inr ⟨-1,qa (b:=true) ?_ (?ar) nofun,rfl⟩;unfold eL;erw[one];simp;lia
 ·rw[if_neg (show¬asW<t.length from hl)];have start:∀{g3}{r},outF (g3 [?iv,?iw,.no,.no])=r->outF (ab (bC (bV (c2 E6 (cF ?v aM) (cK (.int 700)))) ?nm fN) g3 [?iv,?iw,.no,.no])=r:=λ{g3 r}h=>by
   refine qa ?_ ft λ_=>h;unfold eL;erw[one];simp;lia
  have hr:=mM ht;cases ho:ali t with
  |none=>
   rw[ho]at hr;exact .inr ⟨-1,start (fj (~~~(hr)) rfl),rfl⟩
  |some x=>
   simp only[ho]at hr;obtain⟨n1,n2⟩:=qt ho;show ?aW;have hc:=zB hS.tab n2 ?a (λk hk=>by
    have:=(show(rW k).length<=nd k.tree from by
      cases k<;>simp only[rW,ak3,aod]<;>(try exact ?bg)<;>rw[eG,aS,aS,aS,iS]
      ·rename_i c;have:=oQ (two:=false) c;lia
      ·rename_i c;have:=oQ (two:=false) c;lia
      ·rename_i c;have:=oQ (two:=true) c;lia
      ·rename_i c;have:=oQ (two:=true) c;lia)
    rw[<-qe hk]at this;lia)
   show ?bR;cases hk:aib x with
   |none=>
    simp only[hk]at hc;refine .inr ⟨-2,?Ot,rfl⟩
   |some k=>
    rw[hk]at hc;simp only at hc⊢;have hx:=qe hk;cases hg:?qE with
    |false=>
     rw[hg]at hc;refine .inr ⟨-13,?Ot,rfl⟩
    |true=>
     rw[hg]at hc;have hb:=yA hS.tab (by rw[<-hx];exact n2) ?a hg;rw[<-hx]at hb;refine .inl (start (evSet (~~~(hr)) (yc (~~~(hc)) (evSet (~~~(hb)) (?D)))));erw[OQ];unfold asl;cases(aog s k).isEmpty<;>simp[aq7,arK]<;>rfl
#where
theorem AL:kG cs rs=!rs.all (akQ cs):=by delta kG;rw[acM];simp
theorem OR{T T':afr}(hn:T'.name=T.name)w:ajO (amh s T') w=(?CB).map λx=>if x.name==T'.name then T' else x:=by
 delta ajO amh;induction s with
 |nil=>rfl
 |cons U r ih=>
  rw[abL,ahu,ahu,ih];have:((if(U.name==T'.name)=true then T' else U).name==w)=(U.name==w):=by
   by_cases h:U.name=T'.name
   ·rw[if_pos (?gf),h]
   ·rw[if_neg (?gf)]
  rw[this];cases U.name==w<;>rfl
section
variable{s:Store}(hS:qr s){T:afr}(hm:T∈s)
include hS hm
theorem Jc(h1:rs.length<=40)(h2:?Tk):qr (?ht):=by
 have hx:∀U∈ahy s T _,U=?sD\/U∈s:=λU hU=>by
  refine ag (adX.mp hU) λV hV oe3=>?_;rw[<-oe3];split
  ·exact ?y
  ·exact .inr hV
 have hl:(?ht).length=s.length:=aa_ ..;refine⟨?mY,?mY,?mY,by rw[hl];exact hS.l3,?_⟩
 ·show ?Ib
  ·have h:=?dv;exact⟨h.nm,h.c1,h.c6,h.co,h1,λr hr=>adY.mp h2 r hr,h.nd,h.kd⟩
  ·exact hS.tab U h
 ·show ?Ib
  ·exact ?tY
  ·exact hS.num U h
 ·show ?Ib
  ·exact hS.nm T hm
  ·exact hS.nm U h
 ·have:(?ht).map (λT=>T.name)=?GX:=by
   delta ahy amh;rw[abV];refine agu λU _=>?_;rw[ai2];by_cases h:U.name=T.name
   ·rw[if_pos (?gf),h]
   ·rw[if_neg (?gf)]
  rw[this];exact hS.nd
omit hm in
theorem oU{U:afr}(h:U∈s):s.find U.name=some U:=by
 have hn:=hS.nd;unfold ajO;clear hS;induction s with
 |nil=>cases h
 |cons V r ih=>
  rw[abL,agA]at hn;rw[ahu];rcases ?BV with rfl|h
  ·simp
  ·have:(V.name==U.name)=false:=by
    rw[beq_eq_false_iff_ne];exactλe=>hn.1 (e▸adX.mpr ⟨U,h,rfl⟩)
   rw[this];exact ih h hn.2
#where
theorem OS{α:Type}[Inhabited α](l:?aa)p:((l.zipIdx).filter λx=>p x.1).map (λx=>PV.int (x.2:Nat))=((afs l.length).filter λi=>(l[i]?).any p).map ?cK:=by rw[jv _,alL,abV];refine congrArg _ (alC λi hi=>?_);rw[am3]at hi;show p (l.getD i default)=(l[i]?).any p;simp_all
section
variable{s:Store}(hS:qr s){t r:Bytes}(ht:?gi)(hr:?yV)
include hS ht hr
theorem AM(hm:T∈s):(∃n,arv T.cols r=.error n/\n≠-13/\(?jM=?ai\/∃p,?jM=?bC/\b9 [p,?gd]=?ai))\/
  ∃rs p,arv T.cols r=.ok rs/\?jM=?bC/\b9 [p,?gd]=.ok (.lst ?si)/\rs.length<=40/\?Tk:=by
 have h:=mm hr;delta arv;cases ha:alh r with
 |none=>rw[ha]at h;exact .inl ⟨-1,rfl,?c,?fm⟩
 |some l=>
  rw[ha]at h;refine ?Tl;have hf:=Ek a1 ?dx ?a (?dv).c6;unfold v7 at hf;show ?bR;cases he:?us with
  |none=>rw[he]at hf;exact .inl ⟨-2,rfl,?c,?GY⟩
  |some rs=>
   rw[he]at hf;simp only at hf⊢;by_cases uX:aoX<rs.length
   ·rw[if_pos uX]at hf⊢;exact .inl ⟨-2,rfl,?c,?GY⟩
   ·rw[if_neg uX]at hf⊢;rw[AL]at hf;cases hb:rs.all _ with
    |false=>
     rw[hb]at hf;exact .inl ⟨-4,rfl,?c,?GY⟩
    |true=>
     rw[hb]at hf;refine .inr ⟨rs,_,rfl,h,?_,by simpa[aoX]using uX,hb⟩;rw[hf];rw[ia ?Lz he];rfl
theorem KI:ON (gL [eS s,eL t,eL r]) (afL ?bc (.still t r)).2:=by
 show ?ud;rw[xZ];show ?aW;cases hf:?dP with
 |none=>exact ?Dj
 |some T=>
  show ?kM;have hn:=?mR;show ?bR;rcases AM hS ht hr hm with⟨n,e1,e2,e3⟩|⟨rs,p,e1,e2,e3,e4,e5⟩
  ·rw[e1];refine .inr ⟨n,evSet (~~~(hn)) (fj ?_ rfl),by simp[nx,e2]⟩;erw[one];rcases e3 with e3|⟨p,e3,e4⟩
   ·rw[e3];rfl
   ·rw[e3];erw[one];rw[bK];erw[one];rw[e4];rfl
  ·rw[e1];have hl:=lE (?dv) hS.tab hS.l3;have hS2:=Jc hS hm e4 e5;have hbr:∀k∈?cp,fS [?jK,eS (?ht)]=.ok (.lst (((aog (?ht) k).map nT).map eT)):=λk hk=>yA hS2.tab ((su hS hm k hk).ok.mono (e:=40) ?a) ?a (by
      have afg:∀w,ajO (?ht) w=(?CB).map _:=λw=>OR rfl w;refine OM (?dv) (?tY) hS.tab (AJ (?dv) (?tY) hS.tab hk) (T':=?sD) ?_ rfl ?mY
      ·simp[afg,oU hS hm]
      ·rw[afg,oU hS hU];refine ?gj;by_cases h:U.name=T.name
       ·have:U=T:=by
         have h1:=oU hS hU;simp_all[oU hS hm]
        rw[this];simp
       simp_all)
   refine .inl (evSet (~~~(hn)) (evSet (p:=eS (?ht)) ?_ (evSet (p:=.lst (((?cp).map ak3).map eT)) (~~~(pH hS hm)) ?_)))
   ·erw[one];rw[e2];erw[one];rw[bK];erw[one];rw[e3];exact~~~(show kD [ay T,.lst ?si,eS s]=.ok (eS (?ht))from by
       simp only[Ee];show ?aW;have h3:=hS.l3;refine evSet ?ko (?D);delta eS;rw[yd (e:=λU=>ay (if(?IP)=true then ?sD else U)) ?ch rfl (λU hU=>⟨_,?ay,by
        erw[gQ,NZ ?od ?od];have:decide (sB U.name=?uz)=(?IP):=by rw[acM];simp[kQ]
        rw[this];cases ?IP<;>rfl⟩) ?a]
       delta ahy amh;simp only[abV];rfl)
   ·show ?bR;generalize hI:(afs (?cp).length).filter (λi=>((?cp)[i]?).any (asl (?ht)))=is;refine evSet (p:=.lst (is.map ?cK)) ?_ (?D)
    ·subst hI;rw[Al (l:=(?cp).zipIdx) (en:=λx=>.tup [?pk,?KJ]) (t:=λx=>asl (?ht) x.1) (e:=λx=>?pk) ?zA (by erw[one];erw[qQ];rw[abV,oK];rfl) (λx hx=>⟨_,?ay,by
      have hxm:x.1∈?cp:=by
       obtain⟨i,hi⟩:=agj.mp hx;rw[amP]at hi;cases hk:(?cp)[i]? with
       |none=>rw[hk]at hi;exact nn hi
       |some k=>rw[hk]at hi;cases hi;exact ail hk
      erw[one];rw[hbr _ hxm];erw[one];rw[OQ];erw[one];rfl,λ_=>?hh⟩) (by rw[apI];lia)]
     rw[OS]
    ·have hil:is.length<=462:=by
      subst hI;refine afh ?hx ?_;rw[alB];exact hl
     erw[one];simp only[fw];rw[if_pos ?aj];simp[aq7,arK]
#where
theorem KJ{l:?aA}(h:?gx=true):l=(l.map wd).map agV:=by
 induction l with
 |nil=>rfl
 |cons a s ih=>
  simp only[aik,abk]at h;cases a with
  |word w=>exact congrArg _ ?Cz
  |_=>exact ft h.1
theorem RX{ds:?ra}(h:c.tree∈ds.map λd=>?gZ):KA c=true:=by refine ag (adX.mp h) λd _ e=>?_;have e0:=yO c;rw[<-e,yO]at e0;have e1:=Rs.ok.inj e0;have e2:=kQ.mp (PV.str.inj e1);cases d<;>cases c<;>first|rfl|exact absurd e2 (by simp only[hdC,afV,ant,alN];decide)
theorem KL{T:afr}(hT:aY T)(hr:?yV):(∃n,arw T r=.error n/\n≠-13/\(?jM=?ai\/∃p,?jM=?bC/\cp ?vj=?ai))\/∃cs p,arw T r=.ok cs/\?jM=?bC/\cp ?vj=.ok (eT (o7 T cs))/\T.hasCols cs=true/\cs.length<=4000:=by
 have h:=mm hr;show ?aW;unfold arw;cases ha:alh r with
 |none=>rw[ha]at h;exact .inl ⟨-1,rfl,?c,?fm⟩
 |some l=>
  rw[ha]at h;refine ?Tl;have hw:=((uT rfl ?a:bG [.lst ?bK]=.ok (.bl (?gx))));show ?bR;rw[iX];cases hb:?gx with
  |false=>
   rw[hb]at hw;refine .inl ⟨-2,rfl,?c,.inr ⟨_,h,?_⟩⟩;unfold cp;simp only[hw];rfl
  |true=>
   rw[hb]at hw;have e:=KJ hb;have hp:=gw (p:=?fn) hT.c6 (by rw[<-e];rfl) ?aj;have hpt:cp [.lst ?bK,ay T]=match aF [.lst ?bK,ay T]with
     |?ai=>?Dy
     |r=>r:=by
    conv=>lhs;unfold cp
    simp only[hw];all_goals rfl
   rw[hp]at hpt;show ?mL;cases hc:T.hasCols _ with
   |false=>
    rw[hc]at hpt;exact .inl ⟨-5,rfl,?c,.inr ⟨_,h,hpt⟩⟩
   |true=>
    rw[hc]at hpt;refine .inr ⟨_,_,rfl,h,?_,hc,?mM⟩;rw[hpt,si];rfl
section
variable{s:Store}(hS:qr s){t r:Bytes}(ht:?gi)
include hS ht
theorem KN(hr:?yV):ON (gM [eS s,eL t,eL r]) (afL ?bc (.fixed t r)).2:=by
 show ?ud;rw[x9];show ?aW;cases hf:?dP with
 |none=>exact ?Dj
 |some T=>
  show ?kM;have hT:=?dv;show ?fh;have hn:=?mR;show ?bR;rcases KL hT hr with⟨n,e1,e2,e3⟩|⟨cs,p,e1,e2,e3,e4,e5⟩
  ·rw[e1];refine .inr ⟨n,evSet ?Ic (fj ?_ rfl),by simp[nx,e2]⟩;erw[one];rcases e3 with e3|⟨p,e3,e4⟩
   ·rw[e3];rfl
   ·rw[e3];exact~~~(e4)
  ·rw[e1];show ?bR;generalize hI:(?jj).filter (λi=>(?lk).any λd=>am4 T cs d.name)=is;have hil:is.length<=6:=by
    subst hI;refine afh ?hx ?_;rw[alB];exact h6
   refine .inl (evSet ?Ic (evSet (sD (sC rfl e2) rfl e3) (evSet (p:=.lst (is.map ?cK)) ?_ (?D))))
   ·rw[<-hI];refine Al (l:=?jj) (en:=?cK) (e:=?cK) ?A ((EF (Fb (sC ?Ao rfl) rfl)).trans (by rw[aa_];exact rZ ?a)) (λi hi=>⟨_,rfl,?_,?ar⟩) ?aj;rw[am3]at hi;have hci:?lk=some T.cols[i]:=aft hi;obtain⟨c1',c2'⟩:=yC hT hci;have hl:=nW hT e4 c2' ?a;rw[c1']at hl;rw[hci];exact oI (Wf rfl rfl ?AN hl)
   ·refine rT (sC (sC rfl rfl) rfl) rfl ((show fw (?fn) (?fn)=_ from if_pos ?aj).trans ?_);simp[aq7,arK]
theorem Jd(hT:aY T):aQ ?iR=.ok (?sx):=by rw[gR hT.c6];unfold aa4 nL;rw[abV,abV];congr 2
omit ht in
theorem EV{T:afr}(hm:T∈s):(?fr).length<=300:=by have h1:=(oM (?dv)).2;have h2:=ug (?dv) hS.tab hS.l3;unfold afY;simp only[adW,aa_];lia
omit ht in
theorem KO{T:afr}(hm:T∈s):∀d∈?fr,G 12 100 ?gZ:=λd hd=>by refine su hS hm _ ?_;have:afV T d∈?jE (afV T):=adX.mpr ⟨d,hd,rfl⟩;rw[<-Cc]at this;exact(afJ.mp this).1
omit hS ht in
theorem kU{all:Names}:∀(r kept:?ra),(ana all kept r).length<=r.length/\∀d∈ana all kept r,d∈r
 |[],kept=>by unfold ana;simp
 |d::r,kept=>by
  unfold ana;split
  ·obtain⟨h1,h2⟩:=kU (all:=all) r kept;exact⟨?mM,λx hx=>?HX⟩
  ·obtain⟨h1,h2⟩:=kU (all:=all) r (d::kept);refine⟨?mM,?jF⟩;show ?oG
   ·exact ?HX
   ·show ?fY;rw[hx];simp
theorem KP:ON (gN ?mQ) (afL ?bc (.cover t)).2:=by
 show ?ud;simp only[x_];cases hf:?dP with
 |none=>exact ?Dj
 |some T=>
  show ?kM;have hT:=?dv;have hn:=?mR;show ?yg;have Ql:=EV hS hm;have afi:=RU hT d1 d2 ?a;have hsub:=kU (all:=?au) (?fr).reverse [];have hg:∀d∈apw ?aK (?fr),G 12 100 ?gZ:=λd hd=>KO hS hm d (List.mem_reverse.mp (hsub.2 d hd));have hcl:(apw ?aK (?fr)).length<=300:=by have:=hsub.1;rw[apr]at this;unfold apw;lia
  show ?bR;generalize hL:apw ?aK (?fr)=L at afi hg hcl;obtain⟨h1,h2⟩:=Ci hg;have hct:=nP (λx hx=>(h1 x hx).mono ?a) ?aj (by have:22*(100*L.length)<=22*(100*300):=ark _ (ark _ hcl);lia)
  have e:outF (ab (aD 2 (cF (c1 ?b ?v) (aA))) (ai (cF (c1 (cF (c1 (cF (c1 (cF (c1 ?h (c1 ?b c0)) (aW)) c0) (bp)) (c1 (cF (c1 ?h c0) (aQ)) c0)) (rB)) c0) (bw))) [?iv,?iw,.no])=bw [.lst ((L.map λd=>?gZ).map eT)]:=by refine evSet (~~~(hn)) (?D);erw[one];unfold eS;erw[?Yv,?Yw,Jd hS ht hT,afi];rw[abV];rfl
  rw[e,hct];have:=yP (l:=[L.length]) (p:=[.int ((L.map λd=>?gZ).length:Nat)]) (t:=afA (L.map λd=>?gZ)) ?yd;unfold Vadttb.claimsText;simp only[abV];show ?eM
theorem EW:ON (fg [eS s,?eo,eL t]) (afL ?bc (.follows t k)).2:=by
 simp only[afL,aq6,amF];have h:=?Ia;rw[tR];cases hf:?dP with
 |none=>rw[hf]at h;exact .inr ⟨-13,?QL,rfl⟩
 |some T=>
  rw[hf]at h;show ?kM;have hT:=?dv;have hn:=?mR;show ?yg;have Ql:=EV hS hm;simp only at h⊢;cases hc:?vJ with
  |none=>rw[hc]at h;exact .inr ⟨-4,?QL,rfl⟩
  |some c=>
   rw[hc]at h;have E8:c∈?cp:=by
    split at hc
    ·exact nn hc
    ·exact ail hc
   have hdp:dp c.tree<=64:=afh (su hS hm c E8).ok.dp ?a;have hdep:KA c=true->∃d∈?fr,afV T d=c:=λhd=>by have:c∈(?cp).filter KA:=afJ.mpr ⟨E8,hd⟩;rw[Cc]at this;exact ag (adX.mp this) λd h1 h2=>⟨d,h1,h2⟩
   have hin:jK true (?nn) (.lst (?jE ?fl))=.ok (.bl (!KA c)):=by
    have hb:decide (c.tree∈?jE λd=>?gZ)=KA c:=by rw[acM,decide_eq_true_eq];exact⟨RX,λhd=>(ag (hdep hd) λd Ad e=>adX.mpr ⟨d,Ad,?lz⟩)⟩
    rw[(show jK true (?nn) (.lst (?jE ?fl))=.ok (.bl (true !=decide (c.tree∈?jE λd=>?gZ)))from by have h1:=mf (neg:=true) (l:=?jE λd=>?gZ) hdp;rw[abV]at h1;exact h1),hb,ap9]
   have start:∀{g3}{r},outF (g3 [?iv,.sh (?eo),?iw,.sh (?nn),?cO,.sh (.lst (?jE ?fl))])=r->outF (ab (aD 3 (c2 aU (cF (c1 ?b (c1 ?x (c1 ?h c0))) (bZ)) ?ab)) (ab (aD 4 (cF (c1 ?b (c1 ?h c0)) (aA))) (ab (aD 5 (cF (c1 (cF (c1 ?L (c1 ?b c0)) (aW)) c0) (bp))) g3)) [?iv,.sh (?eo),?iw,.no,.no,.no])=r:=λ{g3 r}h3=>by exact evSet (p:=?nn) (rT (Wf rfl rfl rfl h) rfl ix0) (evSet ?Ic (evSet (sC (sD rfl rfl (?Yv)) (?Yw)) h3))
   cases hd:KA c with
   |false=>
    have ha:asX c=none:=by cases c<;>first|rfl|cases hd
    simp only[ha];rw[hd]at hin;exact .inr ⟨-6,start (qa ?Vh (?ar) nofun),rfl⟩
   |true=>
    refine ag (hdep hd) λd hdm Vc=>?_;subst Vc;have ha:asX (afV T d)=?bX:=by cases d<;>rfl
    simp only[ha];have K5:((?fr).filter ?ut).length<=300:=afh ?hx Ql;have hfo:=AH hT (d1 d hdm) (ds:=(?fr).filter ?ut) (λx hx=>d1 x ?zE) ?a;rw[hd]at hin;refine .inl (start (qa ?Vh ft λ_=>ao (sC (a:=.int (if am_ ?aK ((?fr).filter ?ut) d=true then 1 else 0)) (cIe (oI (Wf rfl (sD rfl rfl (sr (d:=d) ?a)) (sC rfl (Jd hS ht hT)) hfo)) (?T) ?T) rfl)))
    ·rw[?ek]
    ·rw[z,?iD]
#where
inductive Wd:Tree->Prop
 |num {n:Nat}:Wd (?an)
 |word {w:Bytes}:w.all afT=true->Wd (?f w)
 |list {l:?aA}:(∀t∈l,Wd t)->Wd (?j l)
theorem sx:∀f ps d l rest,?hr=?zC->∀t∈l,Wd t
 |0,ps,d,l,rest,h=>?Hv
 |f+1,[],d,l,rest,h=>by simp_all[afH]
 |f+1,?kq,d,l,rest,h=>by
  unfold afH at h;show ?ao
  ·show ?aR;show ?gU;simp
  ·show ?ao
   ·cases d with
    |zero=>show ?w
    |succ d=>
     show ?gr;cases ht:?hr with
     |none=>rw[ht]at h;show ?aR
     |some x=>
      show ?pF;rw[ht]at h;have a1:=sx f _ d m _ ht;cases r1 with
      |nil=>show ?w
      |cons c s=>
       show ?gr;cases IU:afH f _ s with
       |none=>rw[IU]at h;show ?w
       |some y=>
        rw[IU]at h;show ?aR;show ?gU;have b1:=sx f s _ _ _ IU;intro t ht;show ?sk
        ·exact ?j a1
        ·exact b1 t ht
   ·cases ha:akF p with
    |none=>rw[ha]at h;show ?w
    |some a=>
     rw[ha]at h;cases ht:afH f d _ with
     |none=>rw[ht]at h;show ?aR
     |some x=>
      show ?pF;rw[ht]at h;show ?aR;show ?gU;have a1:=sx f ps d m _ ht;intro t ht;show ?sk
      ·delta akF at ha;split at ha
       ·split at ha
        ·cases ha;exact .num
        ·exact nn ha
       ·split at ha
        ·rename_i hw;cases ha;refine ?f ?_;delta amW at hw;split at hw
         ·rfl
         ·simp only[abk]at hw;simp only[aik,abk];exact⟨by simp[afT,hw.1],hw.2.1⟩
        ·exact nn ha
      ·exact a1 t ht
theorem Hh(h:ali t=?F):Wd x:=by
 delta ali at h;show ?ao
 ·cases(h);rename_i hr;delta alh at hr;split at hr
  ·show ?aD
  ·split at hr
   ·rename_i ht;cases hr;exact sx _ _ _ _ _ ht x ?ct
   ·exact nn hr
 ·show ?w
theorem n8:∀{l},ajn l=false->l.Nodup
 |[],_=>.nil
 |x::r,h=>by simp only[ajn,aiV]at h;rw[agA];exact⟨λhm=>by rw[afw.mpr hm]at h;simp_all,n8 h.2⟩
theorem OT(h:ahN t=?as)(ho:?ba)(e:k=.up n):?qd:=by
 subst e;delta ahN at h;show ?ao
 ·show ?ao
  ·cases h;have:=(ho.sub (t:=?an) ?hW).1;cases this;show ?cJ
  ·show ?w
 ·show ?ao
  ·refine ag ?li λws h1 h=>?_;simp_all
  ·show ?w
 ·show ?aD
theorem RY(h:agU t=?bj)(ho:?ba)(e:c.kind=.up n):?qd:=by obtain⟨m,k,r,q,b,rfl,h1,rfl⟩:=yh h;exact OT h1 (ho.sub ?hW).1 e
theorem Hi(hx:ali t=?F)(h:ah_ x=?eH)(h3:?rJ=false)(h4:?Et=true):aY T/\OJ T/\?Xn:=by
 have ho:=(qt hx).2;have hw:=Hh hx;refine i8 (yi h ho) λt1 t2 t3=>?_;simp only[aiV]at h3;have hk:∀c∈T.cols,c.kind.twice=false:=λc hc=>by have:=h3.2;rw[amM]at this;simpa using this c hc
 obtain⟨w,tn,cs,rs,c,r,rfl,h1,h2,hb,rfl⟩:=Ao h;refine⟨⟨t3,hb.1.1,hb.1.2,t1,hb.2,λr hr=>adY.mp h4 r hr,n8 h3.1,?mW⟩,λc hc n e=>?_,?_⟩
 ·have:=hk c hc;cases hc2:c.kind with
  |up n=>show ?bJ
  |of_ ws=>rw[hc2]at this;exact n8 this
 ·exact ag (nG h1 c hc) λy hy h5=>RY h5 (((ho.sub ?cf).1).sub hy).1 e
 ·cases hw with
  |list hl=>
   have:=hl _ (aaV _ ?aS);cases this;show ?cJ
theorem Wy:J9=cF (c1 (cF ?v (bh)) c0) (dG):=rfl
theorem Wz:NH=bV (c2 ?dw (cU (fl ?q) ?h) (dM 4 [3] (iA ?b) ?fp bT (cU (fl ?q) ?l))):=rfl
theorem WA:NI=bV (c2 WT (cF (c1 ?b c0) aM) ?ci):=rfl
theorem WB:Rc=cF (c1 (cF (c1 (cU (fl ?al) ?h) c0) aM) (c1 (cF (c1 (cU (fl ?R) ?h) c0) aM) c0)) nh:=rfl
theorem WC:Gq=cF (c1 (cF (c1 ?h c0) (aH)) (c1 (cU (fl ?al) ?l) c0)) (b9):=rfl
theorem WD:Rg=cF (c1 (cF (c1 (cU (fl ?R) ?l) c0) aM) c0) nh:=rfl
mutual
theorem Hj{C:Addr}:∀t:Tree,NG C ?iQ=true
 |?an=>by simp[eT,NG]
 |?f w=>by simp[eT,NG]
 |?j l=>by simp only[eT,NG];exact EX l
theorem EX{C:Addr}:∀l:?aA,D2 C (Pb l)=true
 |[]=>rfl
 |t::r=>by simp only[Pb,D2,Hj t,EX r,asN]
end
theorem yR:∀{l},(∀p∈l,NG C p=true)->D2 C l=true
 |[],_=>rfl
 |p::r,h=>by simp only[D2,h p ?aS,yR λx hx=>h x ?hs,asN]
theorem OU{l:?aA}:NG C (.lst ?bK)=true:=yR λp hp=>by refine ag ?LD λt _ ake=>?_;subst ake;exact Hj t
theorem Cj(hq:aC≠aT)(T:afr):Gn aT [(?q,?pe),(?al,?gd),(?R,?hQ)]=true:=by simp only[Gn,OU,aob];refine yR λp hp=>ag ?LD λc _ Vd=>?_;subst Vd;simp[eC,NG,Gn,Hj,hq]
def n9(s:Store)(c:ap4):Store:=(afL ?bc c).1.tables
def uj(R:tI)(s:Store)(ps:?e)(c:ap4):Prop:=∃res,R ?bU ps res/\Told res ?bU (afL ?bc c).2 ((n9 s c).map (ay))/\qr (n9 s c)/\(afL ?bc c).1.claims=[]
section
variable{s:Store}(hS:qr s){t r:Bytes}(ht:?gi)
include hS ht
theorem OV(hq:aC≠aT):uj (NJ) s ?iS ?Bt:=by
 have h0:=mM ht;have l3:(s.map (ay)).length<=3:=by rw[aa_];exact hS.l3
 have er:∀n,apM t=.error n->n≠-13->J9 [none,some (eL t),none,none]=?ai->uj (NJ) s ?iS ?Bt:=λn e hn h=>by
  have e1:afL ?bc ?Bt=(?bc,[n]):=by simp only[afL,ap5,e]
  unfold uj n9;rw[e1];exact⟨?ai,⟨l3,_,rfl,.inl ⟨n,rfl,h⟩⟩,.inr ⟨n,rfl,by simp[yV,hn],rfl⟩,hS,rfl⟩
 have m0:J9 [none,some (eL t),none,none]=(bh ?iS>>=λx=>dG [x]):=by rw[Wy];show((bh ?iS>>=λx=>.ok [x])>>=dG)=_;cases bh ?iS<;>rfl
 rw[h0]at m0;unfold apM at er;cases hx:ali t with
 |none=>
  rw[hx]at m0 er;exact er (-1) rfl (?c) m0
 |some x=>
  rw[hx]at m0 er;simp only[Rs.aK]at m0 er;rw[BW (qt hx).2 (?c)]at m0;unfold rP at m0;cases hT:ah_ x with
  |none=>
   rw[hT]at m0 er;exact er (-2) rfl (?c) m0
  |some T=>
   rw[hT]at m0 er;simp only at m0 er;by_cases h3:?rJ=true
   ·rw[if_pos h3]at m0 er;exact er (-3) rfl (?c) m0
   rw[if_neg h3]at m0 er;rw[AL]at m0;by_cases h4:(! ?Et)=true
   ·rw[if_pos h4]at m0 er;exact er (-4) rfl (?c) m0
   rw[if_neg h4]at m0;clear er;have h3:?rJ=false:=?GR
   have h4:?Et=true:=by simpa using h4
   refine i8 (Hi hx hT h3 h4) λk1 k2 k3=>?_;have eT0:apM t=.ok T:=by unfold apM;rw[hx];show ?bR;rw[hT];show ?bR;rw[if_neg (by rw[h3];simp),if_neg (by rw[h4];simp)]
   have m1:NH [some (.lst ?bU),none,some ?em,none]=.ok ?wK:=by
    rw[Wz];simp only[bV,c2,cU];rw[yd (l:=s) (en:=ay) (e:=λU=>eT (?f U.name)) ?i rfl (λU hU=>⟨_,?ay,~~~(gQ)⟩) (by have:=hS.l3;show s.length<=sizeLine;unfold sizeLine;lia)];have e1:look 2 [some (.lst ?bU),none,some ?em,none]=.ok ?em:=rfl;rw[e1];simp only[Rs.aK];rw[gQ];simp only[Rs.aK];have e2:(PV.str (?uz))=eT (?f T.name):=rfl;have e3:s.map (λU=>eT (?f U.name))=(s.map λU=>agV U.name).map eT:=?yR
    rw[e2,e3,mf ?i];simp only[Rs.aK,zZ];congr 1;rw[acM];simp[ajO,ar1]
   have m2:NI [some (.lst ?bU),none,some ?em,none]=.ok (decide (?zF)):=by
    rw[WA];erw[one];have:decide ((3:Int)<=(s.length:Int))=decide (?zF):=by show ?Ru;show _<->3<=s.length;lia
    show ?fD
   have m4:Rc [none,none,some ?em,none]=.ok (.lst ((?PN).map PV.int)):=by rw[WB];erw[one];rw[bK,cj];erw[one];simp[aq5,arL]
   have e1:afL ?bc ?Bt=if ?wK then(?bc,[-5])else if ?zF then(?bc,[-6])else(⟨s++[T],[]⟩,?PN):=by simp only[afL,ap5,eT0]
   unfold uj n9;rw[e1];by_cases hf:?wK=true
   ·rw[if_pos hf];rw[hf]at m1;exact⟨.ex (-5),⟨l3,_,rfl,.inr ⟨_,m0,Cj hq T,.inl ⟨m1,rfl⟩⟩⟩,.inr ⟨-5,rfl,rfl,rfl⟩,hS,rfl⟩
   rw[if_neg hf];rw[akW]at hf;rw[hf]at m1;by_cases h6:?zF
   ·rw[if_pos h6];rw[decide_eq_true h6]at m2;exact⟨.ex (-6),⟨l3,_,rfl,.inr ⟨_,m0,Cj hq T,.inr ⟨m1,.inl ⟨m2,rfl⟩⟩⟩⟩,.inr ⟨-6,rfl,rfl,rfl⟩,hS,rfl⟩
   rw[if_neg h6];rw[decide_eq_false h6]at m2;refine⟨.ok (_,_),⟨l3,_,rfl,.inr ⟨_,m0,Cj hq T,.inr ⟨m1,.inr ⟨m2,_,m4,rfl⟩⟩⟩⟩,.inl ?_,⟨?mY,?mY,?mY,?_,?_⟩,rfl⟩
   ·rw[afU];rfl
   ·show ?Id
    ·exact hS.tab U h
    ·rw[afO.mp h];exact k1
   ·show ?Id
    ·exact hS.num U h
    ·rw[afO.mp h];exact k2
   ·show ?Id
    ·exact hS.nm U h
    ·rw[afO.mp h];exact k3
   ·have:=hS.l3;simp only[adW,aoM,aoW]at*;lia
   ·rw[afU,ahL];refine⟨hS.nd,?J,λa ha b hb=>(ag ?tT λU hU MJ=>?_)⟩;subst MJ;have hb:b=T.name:=?ds
    subst hb;intro e;have:?wK=true:=by unfold ajO;rw[ar1];exact⟨U,hU,?jm⟩
    rw[hf]at this;exact ft this
omit hS ht in
theorem OW:∀{s:Store},(∀U∈s,U.name.all afT=true)->(?GX).Nodup->(?dP=none->rI ?hL ?bU none)/\∀T,?dP=?eH->∃i,rI ?hL ?bU (?fQ)/\s[i]?=?eH/\∀T',T'.name=T.name->(s.map (ay)).set i (ay T')=(amh s T').map (ay)
 |[],_,_=>⟨λ_=>.nil,λT h=>by cases h⟩
 |U::s,hw,hn=>by
  have hU:=hw U ?aS;rw[abL,agA]at hn;obtain⟨i1,i2⟩:=OW (λV hV=>hw V (aaV _ hV)) hn.2;have e:bz false (.str (sB U.name)) (.str ?hL)=.ok (.bl (?BM)):=by
   rw[NZ ?od (Oa t)];have:decide (sB U.name=tS t)=(?BM):=by rw[acM,decide_eq_true_eq,beq_iff_eq,TF hU]
   rw[this];cases ?BM<;>rfl
  unfold ajO at i1 i2⊢;rw[ahu];cases hb:?BM with
  |true=>
   rw[hb]at e;refine⟨λh=>(by cases h),λT h=>?_⟩;cases h;refine⟨0,.hit rfl e,rfl,λT' KU=>?_⟩;unfold amh;rw[abL,abL,akz,abL,if_pos (by simp[KU])];congr 1;rw[abV];refine agu λV hV=>?_;have:V.name≠T'.name:=λc=>hn.1 (by rw[<-KU,<-c];exact arl hV);simp[this]
  |false=>
   rw[hb]at e;refine⟨λh=>.miss rfl e (i1 h),λT h=>?_⟩;refine aG (i2 T h) λi j1 j2 j3=>?_;refine⟨i+1,.miss rfl e j1,by simpa using j2,λT' KU=>?_⟩;have hTt:T.name=t:=by simpa using aqG h
   have:U.name≠T'.name:=λc=>by rw[KU,hTt]at c;rw[c]at hb;simp at hb
   have:=j3 T' KU;unfold amh at this⊢;rw[abL,aky,this,abL,abL,if_neg (by simpa using‹U.name≠T'.name›)]
theorem RZ(hr:?yV):uj (Rh) s [eL t,eL r] ?AP:=by
 have htx:=tV ht;obtain⟨i1,i2⟩:=OW hS.nm hS.nd;unfold uj n9;cases hf:?dP with
 |none=>
  have e1:afL ?bc ?AP=(?bc,[-3]):=by simp only[afL,ap5,hf]
  rw[e1];exact⟨?dN,⟨_,_,_,_,rfl,htx,i1 hf,.inl ?jv⟩,.inr ⟨-13,rfl,rfl,rfl⟩,hS,rfl⟩
 |some T=>
  refine aG (i2 T hf) λi j1 j2 j3=>?_;have hm:T∈s:=ail j2;have j4:?bU[i]?=some (.ins aT (rJ (?pe) (?gd) (?hQ))):=by rw[ad0,j2];rfl
  have m1:Gq ?rQ=(?jM>>=λp=>b9 [p,?gd]):=by rw[WC];show((?jM>>=λx=>((look 3 ?rQ>>=fl ?al)>>=λy=>.ok [y])>>=?GD)>>=b9)=_;have e1:look 3 ?rQ=.ok ?em:=rfl;rw[e1,Rs.aK,bK];cases ?jM<;>rfl
  rcases AM hS ht hr hm with⟨n,hn,h13,hx⟩|⟨rs,p,h1,h2,h3,h4,h5⟩
  ·have e1:afL ?bc ?AP=(?bc,[n]):=by simp only[afL,ap5,hf,hn]
   rw[e1];have m:Gq ?rQ=?ai:=by
    rw[m1];rcases hx with h|⟨p,h,h'⟩
    ·rw[h];rfl
    ·rw[h];exact h'
   exact⟨?ai,⟨_,_,_,_,rfl,htx,j1,.inr ⟨i,_,_,_,rfl,j4,.inl ⟨n,rfl,m⟩⟩⟩,.inr ⟨n,rfl,by simp[yV,h13],rfl⟩,hS,rfl⟩
  ·have e1:afL ?bc ?AP=(⟨?ht,[]⟩,[arL rs.length]):=by
    simp only[afL,ap5,hf,h1];rfl
   rw[e1];have m:Gq ?rQ=.ok (.lst ?si):=by rw[m1,h2];exact h3
   have m2:Rg [none,none,none,some (ay ?sD)]=.ok (.lst ([arL rs.length].map PV.int)):=by rw[WD];erw[one];rw[cj];erw[one];simp[arL]
   refine⟨.ok (_,_),⟨_,_,_,_,rfl,htx,j1,.inr ⟨i,_,_,_,rfl,j4,.inr ⟨_,_,m,OU,m2,rfl⟩⟩⟩,.inl ?_,Jc hS hm h4 h5,rfl⟩;have:=j3 ?sD rfl;congr 2
#where
theorem jx(hS:qr s)(h:ON (F (eS s::ps)) (afL ?bc c).2)(h1:(afL ?bc c).1=?bc):uj (RP F) s ps c:=by
 unfold uj n9;rw[h1];rcases h with h|⟨n,h,e⟩
 ·exact⟨_,.inl ?tz,?y,hS,rfl⟩
 ·exact⟨_,.inr ⟨n,rfl,h⟩,.inr ⟨n,rfl,e,rfl⟩,hS,rfl⟩
theorem OX(h:arM r=some (x,t)):r=?tg::(x++t):=by
 cases r with
 |nil=>show ?w
 |cons n r=>
  simp only[arM]at h;show ?ao
  ·rename_i hc;cases h;rw[aqc,aqH hc.2,List.take_append_drop];congr 1;lia
  ·show ?w
theorem OY(h:anK 1 r=some (xs,t)):∃x,xs=[x]/\r=?tg::(x++t):=by
 simp only[anK]at h;cases h1:arM r with
 |none=>show ?fs;show ?w
 |some a=>
  obtain⟨x,t1⟩:=a;show ?fs;cases h;exact⟨x,rfl,OX h1⟩
theorem afj(h:anK 2 r=some (xs,t)):∃x y,xs=[x,y]/\r=?tg::?QX:=by
 rw[anK]at h;cases h1:arM r with
 |none=>simp_all
 |some a=>
  obtain⟨x,t1⟩:=a;show ?fs;show ?gr;cases h2:anK 1 _ with
  |none=>rw[h2]at h;show ?w
  |some b=>
   rw[h2]at h;cases h;refine ag (OY h2) λy MK e=>?_;rw[MK];exact⟨x,y,rfl,by rw[OX h1,e]⟩
def Byt(x:?Z):Prop:=(x.all λz=>akU z 8)=true/\x.length<=6000
theorem u7(h:Byt x):lI x=eL ?rl/\anb x=true/\(aht x).length<=6000:=by
 have hz:∀z∈x,0<=z/\z<256:=λz hz=>by have:=adY.mp h.1 z hz;simp_all[akU]
 refine⟨?_,?_,by unfold aht;rw[aa_];exact h.2⟩
 ·unfold eL aht;rw[abV];show PV.lst _=_;congr 1;refine agu λz hx=>?_;obtain⟨h1,h2⟩:=hz z hx;congr 1;rw[arI];rw[asb (?W)];lia
 ·unfold anb NeutralIO.bytes;rw[adY];intro z hx;obtain⟨h1,h2⟩:=hz z hx;lia
def Key(s:Store)(l t:?Z)(c:List (?Z)):Prop:=∃k res call,me ?bU l k res/\l.drop k=t/\Told res ?bU (afL ?bc call).2 ((?BN).map (ay))/\qr (?BN)/\anq ?bc c=(⟨?BN,[]⟩,(afL ?bc call).2)
theorem Hk{c:List (?Z)}(h:alp c=some call)(h2:(afL ?bc call).1.claims=[]):anq ?bc c=(⟨?BN,[]⟩,(afL ?bc call).2):=by unfold anq n9;rw[h];simp only[VadttbNeutral.encode];generalize afL _ _=z at h2⊢;obtain⟨⟨a,b⟩,c⟩:=z;subst h2;rfl
theorem akg(hm:(c,R)∈VT)(hx:Byt x)(hy:Byt y)(hc:alp [[c],x,y]=some call)(hd:uj R s [eL ?rl,eL (aht y)] call):Key s (c::?tg::?QX) t [[c],x,y]:=by refine Hm hd ?EV;rw[<-(u7 hx).1,<-(u7 hy).1]at h1;refine⟨_,res,call,.two hm h1,?_,h2,h3,Hk hc h4⟩;simp[show 3+x.length+y.length=(x.length+(y.length+1))+1+1 by lia]
theorem akh(hm:(c,R)∈R3)(hx:Byt x)(hc:alp [[c,k],x]=some call)(hd:uj R s [?eo,eL ?rl] call):Key s (c::k::?tg::(x++t)) t [[c,k],x]:=by refine Hm hd ?EV;rw[<-(u7 hx).1]at h1;refine⟨_,res,call,.num hm h1,?_,h2,h3,Hk hc h4⟩;rw[show 3+x.length=?Mb+1+1 by lia];simp
theorem sy{f:Bytes->ap4}(h:?wo)(ha:?sG)(e:akL p=some (0,1))(hm:(p,R)∈R1)(hw:(∀x,aie [[p],x]=[[p],x]))(hk:(∀x,aiX [[p],x]=?CW))(hc:(∀x,alp [[p],x]=if anb x then some (f ?rl)else none))(hd:(∀t,?gi->uj R s ?iS (f t))):?wJ:=by
 unfold anf at h;show ?gr;rw[e]at h;simp only[alJ,if_false,aq8]at h;cases h1:anK 1 r with
 |none=>show ?fs;show ?w
 |some a=>
  obtain⟨xs,t1⟩:=a;show ?fs;cases h;refine ag (OY h1) λx Ve Vf=>?_;subst Ve;subst Vf;rw[aq9,hw]at ha⊢;rw[hk,abk,decide_eq_true_eq]at ha;have hb:=u7 ha;refine Hm (hd _ hb.2.2) ?EV;rw[<-(u7 ha).1]at h1;refine⟨_,res,_,.one hm h1,?_,h2,h3,Hk ?Uu h4⟩;rw[aqz];simp
theorem Ck{f:Bytes->Bytes->ap4}(h:?wo)(ha:?sG)(e:akL p=some (0,2))(hm:(p,R)∈VT)(hw:(∀x y,aie ?BO=?BO))(hk:(∀x y,aiX ?BO=(?CW&&(y.all (λ(z:Int)=>akU z 8)&&decide (y.length<=6000)))))(hc:(∀x y,alp ?BO=if anb x&&anb y then some (f ?rl (aht y))else none))(hd:(∀t u,?gi->u.length<=6000->uj R s [eL t,eL u] (f t u))):?wJ:=by
 unfold anf at h;show ?gr;rw[e]at h;simp only[alJ,if_false,aq8]at h;cases h1:anK 2 r with
 |none=>show ?fs;exact nomatch h
 |some a=>
  obtain⟨xs,t1⟩:=a;show ?fs;cases h;refine bR (afj h1) λx y aki akj=>?_;subst aki;subst akj;rw[aq9,hw]at ha⊢;rw[hk,abk,abk,abk,decide_eq_true_eq,decide_eq_true_eq]at ha;have hb:=u7 ha.1;have O7:=u7 ha.2;exact akg hm ha.1 ha.2 (by rw[hc,hb.2.1,O7.2.1];rfl) (hd _ _ hb.2.2 O7.2.2)
theorem Cm{f:Bytes->Int->ap4}(h:?wo)(ha:?sG)(e:akL p=some (1,1))(hm:(p,R)∈R3)(hw:(∀k x,aie ?BP=?BP))(hk:(∀k x,aiX ?BP=(VadttbNeutral.whole60 k&&?CW)))(hc:(∀k x,alp ?BP=if anb x then some (f ?rl k)else none))(hd:(∀t k,?gi->uj R s [?eo,eL t] (f t k))):?wJ:=by
 unfold anf at h;show ?gr;rw[e]at h;show ?gr;cases r with
 |nil=>show ?aR
 |cons k r=>
  rw[if_neg ?i]at h;simp only[List.drop_succ_cons,aq8]at h;cases h1:anK 1 r with
  |none=>show ?fs;show ?aR
  |some a=>
   obtain⟨xs,t1⟩:=a;show ?fs;cases h;refine ag (OY h1) λx Va akk=>?_;subst Va;subst akk;rw[List.take_succ_cons,aq9,hw]at ha⊢;rw[hk,abk,abk,decide_eq_true_eq]at ha;have hb:=u7 ha.2;exact akh hm ha.2 ?Uu (hd _ _ hb.2.2)
theorem afk(hq:aC≠aT)(hS:qr s)(h:?wo)(ha:?sG):?wJ:=by
 by_cases e0:p=0
 ·subst e0;exact sy h ha rfl ?tx (?ar) (?ar) (?ar) λt ht=>OV hS ht hq
 by_cases e1:p=1
 ·subst e1;exact Ck h ha rfl ?JN ?cb ?cb ?cb λt u ht hu=>RZ hS ht hu
 by_cases e2:p=2
 ·subst e2;exact sy h ha rfl ?tx (?ar) (?ar) (?ar) λt ht=>jx hS (KG hS ht) rfl
 by_cases e3:p=3
 ·subst e3;exact Cm h ha rfl ?JO ?cb ?cb ?cb λt k ht=>jx hS (OO hS ht) rfl
 by_cases e4:p=4
 ·subst e4;exact Cm h ha rfl ?JO ?cb ?cb ?cb λt k ht=>jx hS (EU hS ht) rfl
 by_cases e5:p=5
 ·subst e5;exact sy h ha rfl ?tx (?ar) (?ar) (?ar) λt ht=>jx hS (KH hS ht) rfl
 by_cases e6:p=6
 ·subst e6;exact Ck h ha rfl ?JN ?cb ?cb ?cb λt u ht hu=>jx hS (KI hS ht hu) rfl
 by_cases e7:p=7
 ·subst e7;exact sy h ha rfl ?tx (?ar) (?ar) (?ar) λt ht=>jx hS (OP hS ht) rfl
 by_cases e8:p=8
 ·subst e8;exact Ck h ha rfl ?JN ?cb ?cb ?cb λt u ht hu=>jx hS (KN hS ht hu) rfl
 by_cases e9:p=9
 ·subst e9;exact sy h ha rfl ?tx (?ar) (?ar) (?ar) λt ht=>jx hS (KP hS ht) rfl
 by_cases e10:p=10
 ·subst e10;exact Cm h ha rfl ?JO ?cb ?cb ?cb λt k ht=>jx hS (EW hS ht) rfl
 have:akL p=none:=by unfold akL;simp only[e0,e1,e2,e3,e4,e5,e6,e7,e8,e9,e10,if_false]
 unfold anf at h;simp only[this]at h;show ?w
theorem TH(hq:aC≠aT):∀f l cs s,qr s->aoK akL f l=?jV->(∀c∈cs,?sG)->Run l ?bU (asm (arx anq ?bc (cs.map aie)))
 |f,[],cs,s,hS,h,ha=>by
  have:cs=[]:=by grind [aoK]
  rw[this];show ?bJ
 |0,p::r,cs,s,hS,h,ha=>by simp[aoK]at h
 |f+1,p::r,cs,s,hS,h,ha=>by
  unfold aoK at h;cases h1:anf _ _ with
  |none=>show ?fs;show ?aR
  |some a=>
   obtain⟨c,t⟩:=a;show ?fs;show ?gr;cases h2:aoK _ f t with
   |none=>rw[h2]at h;show ?w
   |some SR=>
    rw[h2]at h;cases h;refine cJ (afk hq hS h1 (ha c ?aS)) λk res call k1 k2 k3 k4 k5=>?_;have ih:=TH hq f t _ _ k4 h2 λx hx=>ha x ?hs;rw[<-k2]at ih;have:=Run.cons k1 k3 ih;rw[abL,arx,k5];unfold asm at this⊢;show ?eM
#where
namespace TC
open PySem PySem.Spec PyProof.Rows L2 PP
open PySem.W (Frag nsIn findIn typeIn mroIn codeIn keepIn isFn fnOf)
open XX
def OZ:List (Nat×Str×?t):=(20,?AI,[?aV])::(21,"is_kind",[?N])::(22,?Lr,[?N])::(23,?Ju,[?N])::(24,"is_cell",[?N])::(25,"is_row",[?N])::(26,?Bf,[?aV])::(27,"is_table",[?N])::(28,?Kr,["words"])::(29,"has_numbers",[?cQ])::(30,?un,[?cQ])::(31,"column_names",[?m])::(32,?Jv,[?al])::(33,"fits",[?hJ,?cQ])::(34,?zu,[?R,?al])::(35,?zX,[?N])::(36,?tU,[?aV,?al])::(37,?pm,[?q,?z])::(38,"places_of",[?bi,?m])::(39,?Jw,[?aV,?m])::(40,?qT,[?Cu,?aI])::(41,?il,[?R,?aI])::(44,?sN,[?N,?dB])::(45,?GI,[?aV,?dB])::(46,?te,[?N,?dB])::(47,?sO,[?N])::(48,"combined",?oq)::(49,?Bg,[?tG,?cd])::(50,"compares",?oq)::(51,?ri,[?cM,?cd])::(55,?uo,[?N])::(56,?Ls,[?N])::(57,?Ks,[?N])::(58,?Lt,[?N])::(59,"is_claim",[?N])::(61,?HO,[?qu,?m])::(62,?Jx,[?bq,?z])::(63,?Jy,[?bq,?z])::(64,?yp,[?m])::(65,?yK,[?cM,?m])::(66,?Bh,[?jW])::(67,?Kt,[?jW])::(68,?IB,[?cM,?m,?fT])::(69,?tv,[?bi,?m])::(70,?zY,[?m,?bi])::(71,?Hn,[?m,?bi,?hC])::(72,?Ho,[?m,?bi,?fk,?hC])::(73,"measured",[?qu,?m,?vr])::(74,?Hp,[?bq,?m])::(75,?IC,[?cM,?m])::(76,?Bi,[?bq,?z])::(80,"one_more",[?Cv,?aI])::(81,?zv,[?aI,"most"])::(82,?tV,[?fS,?rj])::(83,?sE,[?nK,?rj])::(84,?Cw,[?aI,?R])::(85,?yL,[?aI,?hH,?R])::(86,?zZ,[?m])::(87,?Gn,[?m,?hH])::(89,?xX,[?gw])::(90,?HP,[?bq,?bi])::(91,"fixed_by",["given",?gw,?bi])::(92,?BI,[?bq,?hC,?bi])::(93,?Aa,[?bq,?gw])::(94,"cover",[?gw,?bi])::(96,"cells_in",[?m,?aL])::(97,?pD,[?m,?aL])::(98,?sP,[?m])::(99,"gone",[?iI,?q])::(100,?up,[?gz,?hz])::(101,?HQ,[?m])::(102,?ID,[?m])::(103,?Jz,[?m])::(104,"is_below",[?m,"low","high",?fT])::(105,?zw,[?gz,?hz,?cM])::(106,?GJ,?IE)::(107,"compared",[?m,?gz,?hz,?fT])::(108,?GK,[?m])::(109,?HR,[?m])::(110,?Bj,[?m,?aI])::(111,?Ku,[?m,?gB])::(112,?Hq,[?m,?aI])::(113,?IF,[?m,?gB])::(114,?JA,[?cd,?cQ,?fk,?aL])::(115,?JB,[?m,?aL,?fk])::(116,?HS,[?m,?z])::(117,?yM,[?m,?z])::(129,?nk,[?cq])::(130,?JC,?jJ)::(131,?Lu,?jJ)::(132,?Lq,?jJ)::(133,?Kq,[?fE])::(134,"end_list",[?fE])::(135,?jz,[?cq])::(136,?sQ,[?cq])::(137,?uL,[?N])::(138,?zx,[?aV])::(139,?xZ,[?aV])::(155,?IU,[?z,?cq])::(156,?yO,[?z,?cZ])::(157,?zy,[?z,?q,?cZ])::(158,?pu,[?m,?z])::(159,?yN,[?aV])::(160,"answer_found",[?z,?q])::(161,?tw,[?z,?ah,?q])::(162,"answer_told",[?z,?ah,?q])::(163,"answer_support",[?z,?ah,?q])::(164,"answer_holds",[?z,?cZ])::(165,?Lv,[?m,?R,?z])::(166,"answer_still",[?z,?q,?cZ])::(167,"answer_keys",[?z,?q])::(168,"answer_fixed",[?z,?q,?cZ])::(169,"answer_cover",[?z,?q])::(170,"answer_follows",[?z,?ah,?q])::(171,?JD,[?z,?hD])::(172,"answer_or_refusal",[?z,?hD])::(173,?qj,?lq)::[]
abbrev qu(K:Frag)(x qual:Str)(st:Stmt)(f:Addr):Prop:=∃oc od kV doc pm an cdv ct osl,?uf=some ⟨oc,od,.func ?lW,osl⟩/\?Uv/\keepIn K ?aH=true
theorem qu.mk'{K}{st}(h:qu K x qual st f):∃fd,?xm:=bU h λoc od kV doc pm an cdv ct osl l c k=>⟨_,(⟨⟨_,_,_,_,_,_,_,_,_,rfl,l,c⟩,k⟩)⟩
def WE(K:Frag):List (Nat×Str×?t)->Prop
 |[]=>True
 |p::r=>(∃f,?Tm=some (some ?aH)/\qu K p.2.1 p.2.1 (top p.1) f)/\WE K r
abbrev Xh(x qual:Str)(st:Stmt)(ps:?t):Prop:=∀kV doc pm an cdv ct us,?xh->bindArgs ?lW ?pM=pure ?lc
def AllB:List (Nat×Str×?t)->Prop
 |[]=>True
 |p::r=>Xh p.2.1 p.2.1 (top p.1) p.2.2/\AllB r
@[elab_as_elim] theorem ls{P:?aa->Prop}{us:?aa}(e:us.length=n+1)(h:∀u r,r.length=n->P (u::r)):P us:=by
 cases us with
 |nil=>exact absurd e (Nat.succ_ne_zero n).symm
 |cons u r=>exact h u r (apu e)
@[elab_as_elim] theorem lz{P:?aa->Prop}{us:?aa}(e:us.length=0)(h:P []):P us:=ale e▸h
theorem mw{st}(h:∀(kV doc pm:Value)(an:?gl)(cdv ct:Value)(u0:Value),bindArgs ?lW ⟨[u0],[]⟩=pure [(p0,u0)]):Xh x qual st [p0]:=
 λkV doc pm an cdv ct us hl=>ls hl λu0 us hl=>lz hl (h _ _ _ _ _ _ _)
theorem mx{st}(h:∀(kV doc pm:Value)(an:?gl)(cdv ct:Value)(u0 u1:Value),bindArgs ?lW ⟨[u0,u1],[]⟩=pure [(p0,u0),(p1,u1)]):Xh x qual st [p0,p1]:=
 λkV doc pm an cdv ct us hl=>ls hl λu0 us hl=>ls hl λu1 us hl=>lz hl (h _ _ _ _ _ _ _ _)
theorem my{st}(h:∀(kV doc pm:Value)(an:?gl)(cdv ct:Value)(u0 u1 u2:Value),bindArgs ?lW ⟨[u0,u1,u2],[]⟩=pure [(p0,u0),(p1,u1),(p2,u2)]):Xh x qual st [p0,p1,p2]:=
 λkV doc pm an cdv ct us hl=>ls hl λu0 us hl=>ls hl λu1 us hl=>ls hl λu2 us hl=>lz hl (h _ _ _ _ _ _ _ _ _)
theorem mz{st}(h:∀(kV doc pm:Value)(an:?gl)(cdv ct:Value)(u0 u1 u2 u3:Value),bindArgs ?lW ⟨[u0,u1,u2,u3],[]⟩=pure [(p0,u0),(p1,u1),(p2,u2),(p3,u3)]):Xh x qual st [p0,p1,p2,p3]:=
 λkV doc pm an cdv ct us hl=>ls hl λu0 us hl=>ls hl λu1 us hl=>ls hl λu2 us hl=>ls hl λu3 us hl=>lz hl (h _ _ _ _ _ _ _ _ _ _)
theorem O0(e:?Hm):(i,x,ps)∈OZ:=by
 have h:(afs 190).all (λi=>match xm i with|none=>true|?F=>OZ.contains (i,x))=true:=?tk
 by_cases hi:i<190
 ·have:=adY.mp h i (am3.mpr hi);rw[e]at this;show ?fD
 ·have:top i=.Pass ?pt:=by
   have:anl.main.body.length=174:=rfl;delta top;rw[ah7,akS ?a];rfl
  delta xm at e;rw[this]at e;show ?er
set_option maxHeartbeats 0 in
theorem afl:AllB OZ:=by unfold OZ;repeat (first|exact trivial|refine⟨mw λ_ _ _ _ _ _ _=>rfl,?_⟩|refine⟨mx λ_ _ _ _ _ _ _ _=>rfl,?_⟩|refine⟨my λ_ _ _ _ _ _ _ _ _=>rfl,?_⟩|refine⟨mz λ_ _ _ _ _ _ _ _ _ _=>rfl,?_⟩|refine⟨mR λ_ _ _ _ _ _ _ _ _ _ _=>rfl,?_⟩)
open PySem.W (Frag nsIn findIn typeIn mroIn codeIn keepIn isFn fnOf plainGet hasDictIn plainOver makesIn specialIn readsIn findCls handedIn)
abbrev XF(K:Frag)(R C:Addr):Prop:=?Im/\typeIn K ?u=some (?n ?lO)/\?Av/\findIn K ?u ?kS=some (some (?U ?mi))/\findIn K ?u ?mo=some (some (?U ?iW))/\
 findIn K ?u ?zi=?cv/\findIn K ?u ?ah=?cv/\mroIn K C (?n ?eT)=?hv/\mroIn K C ?gs=?hv
abbrev XI(K:Frag)(R:Addr)(p:?JP)(C:Addr):Prop:=?Tm=some (some ?u)/\XF K R C/\∃fI,findIn K ?u ?ck=?EO/\isFn K (.ref fI)=true/\keepIn K ?u=true/\qu K ?ck p.2.2 (inner p.1 0) fI
def WG(K:Frag)(R:Addr):List (?JP)->Prop
 |[]=>True
 |p::r=>(∃C,XI K R p C)/\WG K R r
def afm:List (?JP):=[(2,?zt,"NotReadable.__init__"),(3,"WrongShape","WrongShape.__init__"),(4,"NamedTwice","NamedTwice.__init__"),(5,?pW,"NotThere.__init__"),(6,"WrongCell","WrongCell.__init__"),(7,"NoSuchClaim","NoSuchClaim.__init__"),(8,"NameTaken","NameTaken.__init__"),
 (9,?yI,"NoSuchColumn.__init__"),(10,"TooManyTables","TooManyTables.__init__"),(11,?VO,"NoKeyOrFixedColumn.__init__"),(12,"TextTooLong","TextTooLong.__init__")]
def FX(K:Frag):Prop:=∃R,nsIn K mainGlobals ?go=some (?dJ)/\XF K R R/\(∃fR,findIn K ?gs ?ck=some (some ?BQ)/\qu K ?ck ?Yg (inner 1 0) fR/\specialIn K ?gs ?mo=some (some (?U ?Tw))/\readsIn K R (?n ?lO)=true/\
 findCls K ?gs (?n ?lO) ?ck=some (.val ?BQ)/\handedIn ?BQ=true)/\WG K R afm/\∃C D,nsIn K mainGlobals ?pW=some (some ?u)/\mroIn K C ?u=?hv/\nsIn K mainGlobals ?yI=some (some ?gu)/\(D==C)=false
def O1:?e->?B
 |[]=>[]
 |?O::r=>?O::O1 r
 |?lT::r=>?lT::O1 r
 |_::r=>O1 r
def uk:?e->Bool
 |[]=>true
 |?bB::r=>uk r
 |?cY::r=>uk r
 |_=>false
theorem um{K}{G}:∀{ps},uk ps=true->aI K G (O1 ps) ps
 |[],_=>.nil
 |?O::r,h=>?p (?O) ?Sp
 |?lT::r,h=>?p (?lT) ?Sp
def Je:?B->?az->Bool
 |[],[]=>true
 |?O::r,.int j _::q=>(i==j)&&Je r q
 |?lT::r,.str t _::q=>(s==t)&&Je r q
 |_,_=>false
theorem R0:∀{vs}{us},Je vs us=true->?hm:=by
 intro vs us h;induction vs generalizing us with
 |nil=>cases us with
  |nil=>show ?bJ
  |cons _ _=>exact ft h
 |cons v vs ih=>
  cases us with
  |nil=>cases v<;>exact ft h
  |cons u us=>
   cases v with
   |int i=>cases u with
    |int j t=>have h:=?hb h;exact ?p ?Rx ?Cz
    |_=>exact ft h
   |str i=>cases u with
    |str j t=>have h:=?hb h;exact ?p ?Rx ?Cz
    |_=>exact ft h
   |_=>exact ft h
def GF(K:Frag):Str×PV->Prop
 |(x,?en)=>∃t,?xa=some (some (.int n t))
 |(x,?lT)=>∃t,?xa=some (some (.str s t))
 |(x,.tup ps)=>∃a od aL n sl,?xa=some (some (?C))/\?LV=some ⟨?n ?be,od,.seq aL n,sl⟩/\decide (aL.size<=sizeLine)=true/\Je (O1 ps) aL.toList=true/\uk ps=true
 |_=>False
def WH(K:Frag):?eX->Prop
 |[]=>True
 |p::r=>GF K p/\WH K r
abbrev CF(K:Frag)(C:Addr):Prop:=plainGet K C asP=true/\hasDictIn K C=true/\plainOver K C=true/\findIn K ?u ?kS=some (some (?U ?mi))
abbrev MF(K:Frag)(C:Addr)(m qual:Str)(st:Stmt)(f:Addr):Prop:=findIn K ?u m=some (some ?aH)/\isFn K ?aH=true/\qu K m qual st f
abbrev NF(K:Frag)(C:Addr)(a b c:Str):Prop:=findIn K ?u a=?cv/\findIn K ?u b=?cv/\findIn K ?u c=?cv
def FC(K:Frag)(T C:Addr):Prop:=nsIn K mainGlobals "Table"=some (some (?rv))/\CF K T/\makesIn K T=true/\keepIn K (?rv)=true/\NF K T ?q ?al ?R/\(∃f,MF K T ?ck "Table.__init__" (inner 19 0) f)/\
 nsIn K mainGlobals "Column"=some (some ?u)/\CF K C/\makesIn K C=true/\keepIn K ?u=true/\NF K C ?q ?oa ?lI/\(∃f,MF K C ?ck "Column.__init__" (inner 18 0) f)/\(C==T)=false/\
 ∃D,nsIn K mainGlobals "Reader"=some (some ?gu)/\CF K D/\makesIn K D=true/\keepIn K ?gu=true/\findIn K ?gu ?fH=?cv/\findIn K ?gu ?aL=?cv/\(∃f,MF K D ?ck "Reader.__init__" (inner 154 0) f)/\(∃f,MF K D ?Cx "Reader.at_end" (inner 154 1) f)/\(∃f,MF K D "take" "Reader.take" (inner 154 2) f)/\(∃f,MF K D ?AJ ?Yi (inner 154 3) f)/\(D==T)=false
def WI(K:Frag):?t->Prop
 |[]=>True
 |x::r=>?xa=?cv/\WI K r
structure Facts(K:Frag):Prop where
 x:FX K
 g:WH K Nk
 c:FC K 282 261
 n:WI K builtins
 d:WE K OZ
theorem exI{p:α->Prop}(h:p a):∃a,p a:=⟨a,h⟩
theorem apD{K}{st}{kV}(l:?uf=some ⟨oc,od,.func ?lW,osl⟩)(c:?Uv)(k:keepIn K ?aH=true):qu K x qual st f:=⟨_,_,_,_,_,_,_,_,_,l,c,k⟩
open PySem.W (Frag nsIn findIn typeIn mroIn codeIn keepIn isFn fnOf plainGet hasDictIn plainOver makesIn specialIn readsIn findCls handedIn mg_of mg_none_of)
theorem XF.xc{K}(h:XF K R C)(hR:nsIn K mainGlobals ?go=some (?dJ)):?iM:=by obtain⟨h1,h2,h3,h4,h5,h6,h7,h8,h9⟩:=h;refine⟨h1,h2,h3,h4,h5,h6,h7,h8,λR' e=>?_⟩;simp_all[hR]
section
theorem afn{K}(A:WI K l)(X:?iL)(G:?oO):∀x∈l,mg x=none:=by
 induction l with
 |nil=>intro x hx;show ?fY
 |cons y l ih=>
  intro x hx;show ?Gu
  ·exact mg_none_of X G A.1
  ·exact ih A.2 x hx
theorem akl{K}(A:WE K l)(B:AllB l)(X:?iL)(G:?oO):∀i x ps,(i,x,ps)∈l->∃f fd,E3 K x x ?rh f fd/\mg x=some ?aH/\?jl:=by
 induction l with
 |nil=>intro i x ps hx;show ?fY
 |cons y l ih=>
  intro i x ps hx;show ?Gu
  ·obtain⟨⟨f,h1,h2⟩,_⟩:=A;obtain⟨fd,h3⟩:=h2.mk';exact⟨f,fd,h3,?Af,h3.binds B.1⟩
  ·exact ih A.2 B.2 i x _ hx
theorem akm{K}(A:WH K l)(X:?iL)(G:?oO):∀x p,l.lookup x=?Y->?Ll:=by
 induction l with
 |nil=>exactλx p e=>nn e
 |cons y l ih=>
  intro x p e;obtain⟨z,v⟩:=y;simp only[ahf]at e;show ?aQ
  ·rename_i b;cases(e);have b:=?Lp;rw[b];have A:=A.1;cases p with
   |int n=>
    obtain⟨t,h1⟩:=A;exact⟨_,?en,?Af,?Lm,λ_=>?en⟩
   |str s=>
    obtain⟨t,h1⟩:=A;exact⟨_,?lT,?Af,?Lm,λ_=>?lT⟩
   |tup ps=>
    obtain⟨a,od,aL,n,sl,h1,h2,h3,h4,h5⟩:=A;exact⟨_,?C,?Af,rfl,λ_=>.tup (.inr ⟨_,aL,n,h2,rfl,rfl,of_decide_eq_true h3,R0 h4⟩) (um h5)⟩
   |_=>exact A.elim
  ·exact ih A.2 x p e
def WJ(P:Program)(w:World)(K:Frag)(mg:?bs)(base:Heap):List (Str×Int)->Prop
 |[]=>True
 |p::r=>Raises P w K mg base p.1 p.2/\WJ P w K mg base r
theorem akn{K}(A:WJ P w K mg base l):∀x n,l.lookup x=?nU->?os:=by
 induction l with
 |nil=>exactλx p e=>nn e
 |cons y l ih=>
  intro x p e;rw[ahf]at e;show ?aQ
  ·rename_i b;cases e;rw[?Lp];exact A.1
  ·exact ih A.2 x p e
theorem eR{K}(X:?iL)(G:?oO)(hR:nsIn K mainGlobals ?go=some (?dJ))(rc:?ya)(F:∃C,XI K R (i,x,qual) C)(ha:n=-13->x=?pW)(b:Xh ?ck qual ?tZ [?ae])
  (S:aX [?ae] [?ae] (af ?tZ)) (hb:bQ ?tZ=[?kn ?vA p7]) (v0:Cn (af ?tZ) ?ae) (hg:(af ?tZ).names.lookup (?go:Str)=?wU)
  (ht:∀env:Env,∃pl,eval ?vA env=(do
   let ov<-eval (?o ?go p1) env
   standAt p2.atName
   let ?CI<-holding [ov] (getMethod ov ?ck pl)
   callWith p6 f first (backTo p6 (starEach ?Ne env)) (backToKw p6 ?Fg)))
  (hn:-m=yV n):?os:=by
 obtain⟨C,f1,f2,fI,f3,f4,f5,f6⟩:=F;obtain⟨fd,f7⟩:=f6.mk';exact⟨C,fI,fd,f2.xc hR,λz=>by rw[<-ha z];exact f1,f3,f4,f5,VL f7 rc S hb v0 hg ht hn,mg_of X G f1,f7.binds b⟩
theorem afo{K}(X:?iL)(G:?oO)(hR:nsIn K mainGlobals ?go=some (?dJ))(rc:?ya)(F:WG K R afm):WJ P w K mg base rsL:=qw F λf1 f2 f3 f4 f5 f6 f7 f8 f9 f10 f11 _=>⟨eR X G hR rc f1 (?g) ?dr ⟨rfl,rfl,rfl,?g,rfl,?g,?g⟩ rfl (?y) rfl (λ_=>?ad) rfl,eR X G hR rc f2 (?g) ?dr ⟨rfl,rfl,rfl,?g,rfl,?g,?g⟩ rfl (?y) rfl (λ_=>?ad) rfl,eR X G hR rc f3 (?g) ?dr ⟨rfl,rfl,rfl,?g,rfl,?g,?g⟩ rfl (?y) rfl (λ_=>?ad) rfl,eR X G hR rc f4 (?g) ?dr ⟨rfl,rfl,rfl,?g,rfl,?g,?g⟩ rfl (?y) rfl (λ_=>?ad) rfl,eR X G hR rc f5 (?g) ?dr ⟨rfl,rfl,rfl,?g,rfl,?g,?g⟩ rfl (?y) rfl (λ_=>?ad) rfl,eR X G hR rc f6 (?g) ?dr ⟨rfl,rfl,rfl,?g,rfl,?g,?g⟩ rfl (?y) rfl (λ_=>?ad) rfl,eR X G hR rc f7 (?g) ?dr ⟨rfl,rfl,rfl,?g,rfl,?g,?g⟩ rfl (?y) rfl (λ_=>?ad) rfl,eR X G hR rc f8 (?g) ?dr ⟨rfl,rfl,rfl,?g,rfl,?g,?g⟩ rfl (?y) rfl (λ_=>?ad) rfl,eR X G hR rc f9 (?g) ?dr ⟨rfl,rfl,rfl,?g,rfl,?g,?g⟩ rfl (?y) rfl (λ_=>?ad) rfl,eR X G hR rc f10 (?g) ?dr ⟨rfl,rfl,rfl,?g,rfl,?g,?g⟩ rfl (?y) rfl (λ_=>?ad) rfl,eR X G hR rc f11 (?g) ?dr ⟨rfl,rfl,rfl,?g,rfl,?g,?g⟩ rfl (?y) rfl (λ_=>?ad) rfl,trivial⟩
theorem TJ{K}(F:?PR):gz P w K mg base CX ?cz f fd ps sp:=⟨F.len,λA outer s H args us vs Q E hr=>F.run A _ s H _ _ _ Q E (hr.mono ?jU)⟩
theorem all_mk{K}(F:Facts K)(X:?iL)(G:?oO)(hfa:mg ?qj=some (.ref fa)):
  ∃fd,(∀s us,us.length=(?lq:?t).length->BindsTo s fd ?pM ((?lq:?t).zip us))/\∀base,K.In base->?Ex->gz P w K mg base ?bE 136 fa fd ?lq (Rj K):=by
 obtain⟨FX,FG,FC,FN,FD⟩:=F;have df:=akl FD afl X G;obtain⟨R,hR,xR,⟨fR,r1,r2,r3,r4,r5,r6⟩,ax,C1,C2,n1,n2,n3,n4⟩:=FX;obtain⟨t1,⟨t2,t3,t4,t5⟩,t6,t7,⟨t8,t9,t10⟩,⟨fT,t11,t12,t13⟩,c1,⟨c2,c3,c4,c5⟩,c6,c7,⟨c8,c9,c10⟩,⟨fC,c11,c12,c13⟩,c14,D,d1,⟨d2,d3,d4,d5⟩,d6,d7,d8,d9,⟨fI,i1,i2,i3⟩,⟨fE,e1,e2,e3⟩,⟨fK,k1,k2,k3⟩,⟨fL,l1,l2,l3⟩,d10⟩:=FC;obtain⟨fdR,FnR⟩:=r2.mk';obtain⟨fdT,FnT⟩:=t13.mk';obtain⟨fdC,FnC⟩:=c13.mk';obtain⟨fdI,FnI⟩:=i3.mk';obtain⟨fdE,FnE⟩:=e3.mk';obtain⟨fdK,FnK⟩:=k3.mk';obtain⟨fdL,WZ⟩:=l3.mk';have xR':=xR.xc hR;have kR:keepIn K ?BQ=true:=FnR.kp;refine ah (df 173 ?qj ?lq (O0 rfl)) λfa' fd Fa ma ba=>?_;have e:=hfa.symm.trans ma;cases e;have cT:CL K aT:=⟨t2,t3,t4,t5⟩;have cC:CL K aC:=⟨c2,c3,c4,c5⟩;have cD:W2 K mg D:=⟨⟨d2,d3,d4,d5⟩,d8,d9,afn FN X G _ (?g)⟩;have hDT:D≠aT:=λe=>by rw[e]at d10;exact anP d10
 have akr:C2≠C1:=by simpa using n4
 refine⟨fd,λs us hu=>?_,λbase KX GX=>?_⟩
 ·refine bU Fa.ex λoc od kV doc pm an cdv ct osl aks _ _=>?_;subst aks;match us,hu with|[_],_=>exact .of_eq rfl
 have rc:?ya:=⟨R,fR,fdR,Gm FnR,mg_of X G hR,⟨r3,r4,r5,r6,kR⟩,FnR.binds ?dr⟩;have rs:=afo (P:=P) (w:=w) (base:=base) X G hR rc ax;have xN:XC K C1:=by refine o9 ax λ_ _ _ T5 _=>?_;clear ax;obtain⟨C',f1,f2,_⟩:=T5;rw[n1]at f1;cases f1;exact f2.xc hR
 have TX:?cg:=by
  refine⟨λi x ps e=>?_,akm FG X G,akn rs,?_,?_,⟨cT,λf hf=>?_⟩,⟨cC,λf hf=>?_⟩,afn FN X G,⟨C1,xN,n1,n2,mg_of X G n1,?_⟩⟩
  ·exact ah (df i x ps (O0 e)) λf fd z1 z2 z3=>⟨f,fd,z1,z2,z3⟩
  ·exact⟨fT,fdT,⟨t6,t11,t12,t7⟩,TJ (mk3 (N:=[]) FnT ⟨rfl,rfl,rfl,?g,rfl,?g,?g⟩ cT t8 t9 t10 rfl (?y) (?y) (?y) (?y) (?g) (λ_=>?GH) (?c) (?c) (?c)),mg_of X G t1,FnT.binds ?dr⟩
  ·exact⟨fC,fdC,⟨c6,c11,c12,c7⟩,TJ (mk3 (N:=[]) FnC ⟨rfl,rfl,rfl,?g,rfl,?g,?g⟩ cC c8 c9 c10 rfl (?y) (?y) (?y) (?y) (?g) (λ_=>?GH) (?c) (?c) (?c)),mg_of X G c1,FnC.binds ?dr⟩
  ·simp only[QY,aed,af3,or_false]at hf;rcases hf with rfl|rfl|rfl
   ·exact t8
   ·exact t9
   ·exact t10
  ·simp only[S5,aed,af3,or_false]at hf;rcases hf with rfl|rfl|rfl
   ·exact c8
   ·exact c9
   ·exact c10
  ·rw[mg_of X G n3];intro z;cases z;exact akr rfl
 have tk:TkC P w K mg base D:=⟨fK,fdK,⟨k1,k2,FnK.kp⟩,adS cD FnK,FnK.binds ?dr⟩;have rd:NM P w K mg base D:=⟨cD,tk,⟨fL,fdL,⟨l1,l2,WZ.kp⟩,adT cD tk WZ,WZ.binds ?dr⟩,⟨fE,fdE,⟨e1,e2,FnE.kp⟩,adR cD FnE,FnE.binds ?dr⟩,⟨fI,fdI,⟨d6,i1,i2,d7⟩,adQ cD FnI,FnI.binds ?dr⟩,mg_of X G d1⟩;exact VY TX rd ⟨R,xR',hR,mg_of X G hR⟩ hDT Fa
#where
open PySem.W (Frag WData Codec OpenSpec Well WellAll ReadsW ReadsAllW)
abbrev rr:=aqE
theorem uo(ns:?Z):∀vs,WellAll P h vs ?Ag->Vals ?mx vs:=by
 induction ns with
 |nil=>intro vs x;cases x;show ?bJ
 |cons n r ih=>intro vs x;cases x with|cons a b=>cases a;exact ?p ?ad (ih _ b)
theorem Hl(ns:?Z):∀vs,Vals ?mx vs->∃as,ReadsAllW R cl h vs ?Ag as:=by
 induction ns with
 |nil=>intro vs x;cases x;exact⟨_,.nil⟩
 |cons n r ih=>
  intro vs x;cases x with
  |cons a b=>
   obtain⟨t,rfl⟩:=a;obtain⟨as,z⟩:=ih _ b;exact⟨_,?p (.int n t) z⟩
def inO(us:?az):Obj:={cls:=?n ?aC,data:=.seq us.toArray}
theorem KQ{K}{ns out:?Z}
  (KX:K.In s₁.heap) (hns:s₁.heap.Ns mainGlobals mg) (hb:s₁.heap.Ns builtinsNs mb) (hbb:∀x:Str,?id->mb x=?gW) (hlim:s₁.heap.NoLimit) (hg:s₁.gens=#[])
  (hwl:Well w.params s₁.heap v (?j ?Ag)) (hz:?gQ) (hr:dP k callerA)
  (F:∀base:Heap,K.In base->?Ex->gz P w K mg base CX k fa fd ps sp) (hbind:∀(s:Shared)(us:?az),?xh->BindsTo s fd ?pM ?lc) (hlen:ps.length=1)
  (hsp:∀(H:Hp)(nl:Addr),cW K H nl ?mx->sp [?jX] H (λv H'=>∃l,v=?ax/\?Qa) ?sZ)
  (hCX:∀H e s',CX [] H s₁ (?sZ) e s'->False):
  codeAny ?cF callerA (?kp (.ref fa) ⟨[v],[]⟩) (λr s'=>∃u as,r=.ok (.ret u)/\ReadsW R cl s'.heap u (?j (out.map aqs)) as/\OldK s₁.heap s'.heap/\s'.os=s₁.os/\?yi) s₁:=by
 obtain⟨nl,us,rfl,he,hall⟩:∃nl us,v=?jX/\s₁.heap.get? nl=some ?CH/\WellAll w.params s₁.heap us ?Ag:=by
  cases hwl with
  |list ho hall=>exact⟨_,_,rfl,ho,hall⟩
 refine aG (by
    have go:∀H,cW K H nl (aqq V.int ns)->(∀b u,H b=?Q->K.lookup b=none/\?Hw b=?bk/\u=.vQ _ (.lst (aqq V.int ns)))->
      ∃H,n_ P w H s₁.heap/\cW K H _ _/\∀b u,H b=?Q->K.lookup b=none/\?Hw b=some ?CH/\u=.vQ ?CH _:=λH s k=>
     ⟨H,λb u q=>by simp only[(?nD).2.2];exact⟨(?nD).2.1,(?FC),us,_,(?KD),(?nD).2.1⟩,s,k⟩
    cases hk:K.lookup _ with
    |some o=>
     have e2:=KX _ o hk;rw[he]at e2;obtain rfl:=afE e2;exact go _ (.inr ⟨_,_,_,hk,rfl,rfl,rfl,by rw[afS,<-(?KD).length];exact(?FC),(?KD)⟩) λb u q=>nn q
    |none=>
     refine go (upd (?iz) _ (.vQ ?CH _)) (.inl (.inr ⟨_,aa⟩)) λb u q=>?_;by_cases c:b=nl
     ·cases c;rw[aa]at q;exact⟨hk,he,(afE q).symm⟩
     ·rw[ae c]at q;exact nn q) λH bq sq hO=>?_
 have free:∀{b},(∀u,H b=?Q->False)->?bL:=λ{b}n=>by
  cases q:H b with
  |none=>rfl
  |some u=>exact(n u q).elim
 have nsK:∀{b}{m},s₁.heap.Ns b m->(TY s₁.heap H).Ns b m:=λ{b m}⟨o,es,ep,e,d,r⟩=>⟨o,es,ep,Cz e (free λu q=>by rw[(hO b u q).2.1]at e;cases e;cases d),d,r⟩
 have hKb:K.In _:=λb o e=>Cz (KX b o e) (free λu q=>by rw[(hO b u q).1]at e;show ?aD);have hM:Mod K mg _:=⟨hKb,nsK hns,⟨mb,nsK hb,hbb⟩,let⟨mc,h1,h2⟩:=hlim;⟨mc,nsK h1,h2⟩⟩;have e0:CM P w K mg _ callerA [] _ H:=⟨rfl,hM,λb o e=>(by
    have e':?Hw _=?bk:=PySem.W.of_hideAll _ e;refine⟨e',?_⟩;cases q:H _ with
    |none=>rfl
    |some x=>
     have hm:_∈trk s₁.heap H:=afJ.mpr ⟨am3.mpr (ae8 e'),by simp[q]⟩;have z:(TY s₁.heap H).get? _=none:=PySem.W.hideAll_none _ hm;simp_all[z]),ang (PySem.W.hideAll_size _ _),trivial,λb hb=>absurd hb af3,bq,.of_eq hg⟩
 refine codeAny_mono ((F _ hKb (nsK hns)).run _ [] _ H _ _ [?fo] _ _ hr e0 (hbind _ _ hlen.symm) (?p rfl .nil) (hsp H nl sq)) λr s' x=>?_;cases r with
 |error e=>exact(hCX H e _ x).elim
 |ok fl=>
  cases fl with
  |next=>exact ag0 x
  |brk=>exact ag0 x
  |cont=>exact ag0 x
  |ret u=>
   obtain⟨v,H',os,bare,un,afp,r',l,rfl,hl⟩:=x;have kept:∀b o,s₁.heap.get? b=?d->?Il=?d:=λb o e=>by
    cases q2:H b with
    |none=>exact un.keep b o e q2 af3 af3
    |some u2=>
     refine i8 (hO b u2 q2) λ_ e1 z=>?_;rw[z]at q2;rw[e]at e1;rw[e1];exact(afp b _ (un.sG b _ _ q2)).1
   refine mT (afp l _ hl) λ_ aL n hv ho=>?_;obtain⟨as,hrd⟩:=Hl (R:=R) (cl:=cl) (h:=s'.heap) out aL hv;obtain rfl:u=afZ l:=r';exact⟨_,_,rfl,?j ho rfl rfl hrd,OldK.of_keep kept,os,bare⟩
inductive TK(K:Frag)(vs:?B)(H:Hp)(Q:VK)(E:XK):Prop
 |mk (nl:Addr) (xs:?Z):vs=[?jX]->cW K H nl ?jp->aqF xs=true->(∀H' l,H' l=some (.lst ((anU xs).map V.int))->Q (?ax) H')->TK K vs H Q E
theorem Xi{d:DefRec}{K:Params->Frag}(hwell:rr.wellSaid=true)(hdf:d.params.defaults=[])(hdn:d.name=?qj)
  (hY:∀(w:World)(h:Heap),YP w h->(K w.params).In h) (F:∀P,Facts (K P)):PySem.W.WalkOS q loose XP YP rr d [] (λf vs=>PySem.call f vs):=by
 refineλw yS s₁ mg mb G Y fa o pm cd doc dV kV ho hd hcd hD hmg hg args vals as akt aku hrd hwl hlo=>ag (PySem.W.os_pre_some akt) λa e1 e2=>?_;obtain⟨e3,hwi⟩:=Codec.encAll_of_decAll _ _ a e1;subst e3;have KX:=hY w _ Y;rw[hdn]at hmg;refine ag (all_mk (P:=rr.prog) (w:=w) (F _) KX G.T.g hmg) λfd hb hF=>?_;obtain⟨v,rfl,hv⟩:∃v,vals=[v]/\Well w.params s₁.heap v (?j (a.1.map aqs)):=by
  cases hwl with
  |cons h1 h2=>cases h2;exact⟨_,rfl,h1⟩
 have hz:a.1.length<=sizeLine:=by have z:=afh (PySem.W.length_le_weightAllW _) (PySem.W.layableW_iff.mp (adY.mp aku _ adP)).2.2;rw[aa_]at z;exact afh z ?dx
 refine PySem.W.enter_call (codeAny_mono (KQ (R:=[]) (cl:=classAt yS.heap) KX G.T.g G.T.b G.T.builtins G.T.nolimit hg hv hz ⟨rfl,?c,?c⟩ (λbase h3 h4=>(hF base h3 h4).imp (show∀vs H Q E,TK (K w.params) vs H Q E->Rj (K w.params) vs H Q E from by
   rintro vs H Q E ⟨nl,xs,e,h1,h2,h3⟩;obtain⟨a,b⟩:=(show Run xs [] (anU xs)/\(anU xs).length<=10000000 from by
    unfold aqF at h2;cases hc:aoK _ _ xs with
    |none=>rw[hc]at h2;simp at h2
    |some raw=>
     rw[hc]at h2;simp only[abk]at h2;obtain⟨⟨⟨_,_⟩,h1⟩,h2⟩:=h2;refine⟨?_,by simpa[PyFlat.short]using h2⟩;have e:anU xs=asm (arx anq VadttbNeutral.start (raw.map aie)):=by unfold anU PyVadttb.calls;rw[hc]
     rw[e];unfold VadttbNeutral.asked at h1;rw[abk]at h1;exact TH (?c) _ _ _ [] ⟨?J,?J,?c,?bg,?J⟩ hc λc hx=>adY.mp h1.1 _ (arl hx))
   exact⟨nl,xs,_,e,h1,a,b,h3⟩)) hb rfl
  (λH nl sq=>⟨nl,_,rfl,sq,e2,λH' l hl=>⟨l,rfl,hl⟩⟩) λH e s' h=>LY h) λr' s' hq=>(cH hq λu vV afq h1 h2 h3 h4=>?_))
 clear hq;subst afq;exact⟨.inl ⟨u,_,vV,rfl,?ar,h1,(OpenSpec.post_iff hwell hwi _ _).mpr rfl,λz=>anP (z)⟩,h2,h3,h4⟩
#where
end
set_option tactic.hygienic true
theorem PySem.Challenge.cw_tableclaims_s01_answers_holds : PySem.Challenge.rw_tableclaims_s01_answers.Holds := by
 refine TC.head ?_;k_fillS
 refine TC.Xi WS.ws rfl rfl (fun w h Y => PySem.W.kIn_of Y) fun P => ⟨?fx,?fg,?fc,?fn,?fd⟩
 case fx=>unfold TC.FX TC.afm; repeat (first|k_is|exact trivial|apply TC.apD|apply And.intro|apply TC.exI|kernel_rfl)
 case fg=>unfold TC.Nk; repeat (first|k_is|exact trivial|apply TC.apD|apply And.intro|apply TC.exI|kernel_rfl)
 case fc=>unfold TC.FC; repeat (first|k_is|exact trivial|apply TC.apD|apply And.intro|apply TC.exI|kernel_rfl)
 case fn=>unfold PP.builtins; repeat (first|k_is|exact trivial|apply TC.apD|apply And.intro|apply TC.exI|kernel_rfl)
 case fd=>unfold TC.OZ; repeat (first|k_is|exact trivial|apply TC.apD|apply And.intro|apply TC.exI|kernel_rfl)

import Derived.WideMake
import Derived.Deep.Slices
import Derived.Lib.SmallJoins
import Derived.Test.YtaahkgkdpnnhhaaGreatSq30
set_option maxHeartbeats 9999999
set_option maxRecDepth 99999
set_option linter.all false
namespace Go.Proofs.YtaahkgkdpnnhhaaGreat
open Go.RowKit Fo
def z7:Array Value:=#[.int .i64 0,.slice none 0 0,.slice none 0 0,.int .i64 0,.int .i64 0,.slice none 0 0,.slice none 0 0]
theorem aKZ(W:World):(Instr.build 57 #[]).run Tryz.prog W=.ok (.agg z7) W:=by kernel_rfl
theorem buildA01'(W:World)(c v:Int):(Instr.build 92 #[(0,.int .i64 c),(1,.int .i64 v)]).run Tryz.prog W=.ok (.agg #[.int .i64 c,.int .i64 v,.string .empty]) W:=by kernel_rfl
theorem pD{a:Array Value}{w:World}{B:Nat}{x:Array Value}{v5 v6:Value}(h:IsC w B x 57)(hx:x.size=7)(e:a.getD 4 undef=.pointer (some ⟨B,0,none⟩))(e5:a.getD 5 undef=v5)(e6:a.getD 6 undef=v6):(results Tryz.f32 a).run Tryz.prog w=.ok (.tuple #[.agg x,v5,v6]) w:=by
 have l:=jZ h (by kernel_rfl) (by rw[hx];kernel_rfl);simp only[Array.getD_eq_getD_getElem?]at e e5 e6;simp[results,Tryz.f32,e,e5,e6,asAddr,l]
theorem Ely.Own.frm'{α:Type}{Y:Ely α}{S:Nat→Prop}{base:Nat}{w w':World}{u:Value}{l:List α}(h:Y.Own base w u l)(k:Frm S w w')(hS:∀g,base≤g→g<w.heap.size→¬S g):Y.Own base w' u l:=by
 obtain⟨a,junk,e,hr,hb⟩:=h;exact⟨a,junk,e,hr.frm k (fun g eg=>hS g (hb g eg) (hr.arr g eg).lt),hb⟩
structure RuP(w:World)(n:Int)(ops:List TO)(e:Ending)(w':World):Prop where
 dev:inB n 8 512=false→e=.returned (.tuple #[.agg z7,.slice none 0 0,.int .i64 1])
 lim:inB n 8 512=true→2000<ops.length→e=.returned (.tuple #[.agg z7,.slice none 0 0,.int .i64 4])
 ok:inB n 8 512=true→ops.length≤2000→∃A u,e=.returned (.tuple #[.agg (aK A (jN (aH n.toNat) ops)),u,.int .i64 0])∧SpV w' A (jN (aH n.toNat) ops)∧(∃a k c,A.tv=.slice a k c)∧yA.Own w.heap.size w' u (iR (aH n.toNat) ops)
 bel:Bl w w'
structure RuI(w:World)(f0:fZ)(ops:List TO)(B4 B7 base k:Nat)(u:Value)(wr:World):Prop where
 b4:IsC wr B4 z7 57
 sp:∃A,Sp wr B7 A (jN f0 (ops.take k))∧∃a k c,A.tv=.slice a k c
 own:yA.Own base wr u (iR f0 (ops.take k))
 bel:Bl w wr
 sz:base≤wr.heap.size
theorem RuI.next{w W5 w7:World}{f0 g:fZ}{ops:List TO}{B4 B7 base k:Nat}{u:Value}{A:SA}(h4:IsC W5 B4 z7 57)(jo:Sp W5 B7 A g)(hg:jN f0 (ops.take k)=g)(jf:∃a k c,A.tv=.slice a k c)(hb:Bl w W5)(bd:base≤W5.heap.size)(ho:yA.Own base w7 u (iR f0 (ops.take k)))(hF:Frm (fun k=>base≤k∧∃cs,IsC W5 k cs yA.t) W5 w7)(lk:w.heap.size≤base):RuI w f0 ops B4 B7 base k u w7:=by
 have no:∀{g cs t},IsC W5 g cs t→t≠92→¬(base≤g∧∃cs,IsC W5 g cs yA.t):=fun {g cs t} h1 h2 h3=>by
  obtain⟨cs',h4⟩:=h3.2;exact h1.type_ne h4 h2 rfl
 refine⟨h4.frm hF (no h4 (by decide)),⟨A,?_,jf⟩,ho,hb.trans (hF.below hb.size fun g q=>by omega),lT bd hF.size⟩;rw[hg];exact⟨jo.box.frm hF (no jo.box (by decide)),jo.v.frm hF (fun g cs t ht hg=>no hg (by rcases ht with e | e | e | e<;>rw[e]<;>decide))⟩
theorem aEC(n:Int)(ops:List TO)(v:Value)(w:World)(hv:yO.Sl w v ops)(hl:ops.length≤1048576):Calls Tryz.prog 32 #[.int .i64 n,v] w (RuP w n ops):=by
 have DN:=aKZ;have X6:=buildA01';have LE:z7.size=7:=rfl;have Hp:z7.all (·.oneCell')=true:=by simp[z7,Value.oneCell']
 obtain⟨va,vc,iq⟩:=hv.len;obtain⟨B4,dm⟩:=eZ (w.heap.size);obtain⟨w1,be⟩:=eZ (w.alloc (.cells #[.int .i64 0,.slice none 0 0,.slice none 0 0,.int .i64 0,.int .i64 0,.slice none 0 0,.slice none 0 0] 57));have b1:=bAl be;have c1:=iNw be dm;have HV:=aA (aI hv iq);subst iq;clear hv;go_enter Tryz.func32,Tryz.ntmps32;go_wp2_with fail;refine(iM n w1).mono ?_;rintro e w1' ⟨rfl,rfl⟩;cases ku:inB n 8 512 with
 | false=>
  have qm:=aA ku;clear ku;go_upto_region 2 with fail
  refine wp_region_list ?_;refine wpList_plain rfl (fun K2 ae=>?_);go_simp;refine ae _ _ ?_;clear ae K2;try simp only[Act.put,sB,sZ,sS]
  refine wpList_plain rfl (fun K2 ae=>?_);refine aL _ _ _ rfl B4 c1 rfl rfl LE (by kernel_rfl) Hp fun wa ja jaF=>?_;refine ae _ _ ?_;clear ae K2;have HF:Hid (RuP w n ops (.returned (.tuple #[.agg z7,.slice none 0 0,.int .i64 1])) wa):=⟨fun _=>rfl,fun q=>(by rw[qm.out]at q;cases q),fun q=>(by rw[qm.out]at q;cases q),b1.trans (jaF.below b1.size fun g q=>by rw[q];omega)⟩;clear jaF;try simp only[Act.put,sB,sZ,sS]
  refine wpList_plain rfl (fun K2 ae=>?_);go_simp;refine ae _ _ ?_;clear ae K2;refine wpList_plain rfl (fun K2 ae=>?_);go_simp;refine ae _ _ ?_;clear ae K2;refine wpList_nil ?_;go_wp2;refine bodyPost_ret (v:=.tuple #[.agg z7,.slice none 0 0,.int .i64 1]) (pD ja LE rfl rfl rfl) rfl ?_;exact HF.out
 | true=>
  have qm:=aA ku;by_cases h2:2000<ops.length
  ·have N5:(2000:Int) <(ops.length:Int):=by omega
   clear ku;go_upto_region 4 with fail
   refine wp_region_list ?_;refine wpList_plain rfl (fun K2 ae=>?_);go_simp;refine ae _ _ ?_;clear ae K2;try simp only[Act.put,sB,sZ,sS]
   refine wpList_plain rfl (fun K2 ae=>?_);refine aL _ _ _ rfl B4 c1 rfl rfl LE (by kernel_rfl) Hp fun wa ja jaF=>?_;refine ae _ _ ?_;clear ae K2;have HF:Hid (RuP w n ops (.returned (.tuple #[.agg z7,.slice none 0 0,.int .i64 4])) wa):=⟨fun q=>(by rw[qm.out]at q;cases q),fun _ _=>rfl,fun _ q=>absurd q (by omega),b1.trans (jaF.below b1.size fun g q=>by rw[q];omega)⟩;clear jaF;try simp only[Act.put,sB,sZ,sS]
   refine wpList_plain rfl (fun K2 ae=>?_);go_simp;refine ae _ _ ?_;clear ae K2;refine wpList_plain rfl (fun K2 ae=>?_);go_simp;refine ae _ _ ?_;clear ae K2;refine wpList_nil ?_;go_wp2;refine bodyPost_ret (v:=.tuple #[.agg z7,.slice none 0 0,.int .i64 4]) (pD ja LE rfl rfl rfl) rfl ?_;exact HF.out
  ·have N5:¬(2000:Int) <(ops.length:Int):=by omega
   have Av:8≤n∧n≤512:=by unfold inB at ku;simpa using ku
   obtain⟨N,hN⟩:∃N:Nat,n=(N:Int):=⟨n.toNat,by omega⟩;have O3:Hid (n.toNat=N):=(show n.toNat=N by omega);subst hN;clear ku;have Pb:=Inv.fresh (n:=N) (by omega) (by omega);have Ik:=tQ N;go_upto_region 5 with fail
   refine wp_region_list ?_;refine wpList_plain rfl (fun K2 ae=>?_);go_simp;refine ae _ _ ?_;clear ae K2;refine wpList_plain rfl (fun K2 ae=>?_);go_simp;refine(yX N (by omega) (by omega) w1).mono ?_;rintro e w2 ⟨⟨A0,rfl,P7,NR⟩,ba⟩;refine ae _ _ ?_;clear ae K2;have EX:=dQ P7 NR;have C6:=cZ A0 (aH N);obtain⟨X0,OJ⟩:=eZ (aK A0 (aH N));rw[OJ]at EX C6;rw[OJ];obtain⟨w3,dh⟩:=eZ (w2.alloc (.cells #[.int .i64 0,.slice none 0 0,.slice none 0 0,.int .i64 0,.int .i64 0,.slice none 0 0,.slice none 0 0] 57));obtain⟨B7,FR⟩:=eZ (w2.heap.size);have i7:=iNw dh FR;have ce:=bAl dh;refine wpList_plain rfl (fun K2 ae=>?_);go_simp;refine ae _ _ ?_;clear ae K2;refine wpList_plain rfl (fun K2 ae=>?_);refine aL _ _ _ rfl B7 i7 rfl rfl (C6.trans LE.symm) (by rw[C6];kernel_rfl) EX fun w4 j7 jF=>?_;have Ix:Bl w2 w4:=ce.trans (jF.below ce.size fun k e=>by omega);have xf:=ba.trans (Ix.mono ba.size);have re:=b1.trans (xf.mono b1.size);have i4:IsC w4 B4 z7 57:=c1.of (xf.block _ c1.lt);have Cp:Sp w4 B7 A0 (aH N):=⟨by rw[OJ];exact j7,P7.below Ix⟩;have PQ:w.heap.size≤B7∧B4<B7:=by have:=b1.size;have:=ba.size;have:=c1.lt;omega
   refine ae _ _ ?_;clear ae K2 j7 jF i7 dh be ce Ix c1 OJ EX C6;refine wpList_nil ?_;try simp only[Act.put,sB,sZ,sS]
   obtain⟨base,Gl⟩:=eZ (w4.heap.size);obtain⟨w5,sj⟩:=eZ (w4.alloc (.cells #[] 92));have et:=bAl sj;have qn:Hid (RuI w (aH N) ops B4 B7 base 0 (.slice (some ⟨base,0,none⟩) 0 0) w5):=⟨i4.of (et.block _ i4.lt),⟨A0,Cp.below et,NR⟩,by rw[←sj];exact Ely.Own.lit (Y:=yA) base w4 (Nat.le_of_eq Gl.symm) base Gl.symm,re.trans (et.mono re.size),by have:=et.size;omega⟩;have lu:w.heap.size≤base∧B7<base:=by have:=re.size;have:=Cp.box.lt;omega
   clear Cp i4 P7 et xf ba;go_wp2;go_loopw [8,9] (fun u i wr=>∃k:Nat,k≤ops.length∧i=.int .i64 k∧RuI w (aH N) ops B4 B7 base k u wr) (fun _ i _=>ops.length -(intOf i).toNat)
   case atStart=>exact⟨0,by omega,rfl,qn.out⟩
   case round=>
    clear qn sj;obtain⟨k,hk,rfl,hC⟩:=hrel;obtain⟨A,jo,jf⟩:=hC.sp;by_cases ai:k<ops.length
    ·obtain⟨g,o,cc,iq,qo,aa⟩:=aKT HV.out.1 (by omega)
     simp only[Value.slice.injEq,true_and]at iq;obtain⟨rfl,rfl⟩:=iq;have lm:(k:Int) <(ops.length:Int):=by omega
     have vi:=rZ Pb Ik (ops.take k);obtain⟨s1,s2⟩:=zN (aH N) (ops.take k) (ops.getD k yO.z);rw[←cC ops k yO.z ai]at s1 s2;have Kg:(iR (aH N) (ops.take k)).length<1000000:=by rw[lC,List.length_take];omega
     have lr:=aA s1;have pu:=aA s2;obtain⟨⟨kind,tree,key,val⟩,GE⟩:∃x,ops.getD k yO.z=x:=⟨_,rfl⟩;rw[GE]at lr pu;have ts:Hid (∀wq:World,Bl w wq→wq.cell? ⟨g,o+k*4,none⟩=some (.int .i64 kind)∧wq.cell? ⟨g,o+k*4+1,none⟩=some (.int .i64 tree)∧wq.cell? ⟨g,o+k*4+2,none⟩=some (.string key)∧wq.cell? ⟨g,o+k*4+3,none⟩=some (.string val)):=fun wq hb=>by
      have:=aa wq k (hb.block g qo) ai
      rw[GE]at this;exact this
     obtain⟨B10,IF⟩:=eZ (wr.heap.size);obtain⟨wa,LD⟩:=eZ (wr.alloc (.cells #[.int .i64 0,.int .i64 0,.string {data:=#[]}] 92));have vu:=bAl LD;have ia:=iNw LD IF;have Sm:=hC.b4.of (vu.block _ hC.b4.lt);have MB:=jo.below vu;have TB:=hC.own;have xg:Bl w wa:=hC.bel.trans (vu.mono hC.bel.size);have Ss:base≤B10:=by have:=hC.sz;omega
     obtain⟨x0,x1,x2,x3⟩:=ts.out wa xg;have I9:base≤wa.heap.size:=lT hC.sz vu.size;have LO:=aA Sm;have mn:=aA MB;have O4:=aA TB;have Cj:=vi.inv;have ME:=vi.ve;obtain⟨F,hF⟩:=eZ (jN (aH N) (ops.take k));rw[hF]at lr pu Cj ME mn;have FL:=aA mn.out.box;clear aa vi s1 s2 hC jo Sm MB TB hF GE;obtain⟨lA,Mo⟩:=eZ (iR (aH N) (ops.take k));rw[Mo]at pu O4 Kg;clear Mo;by_cases h5:kind=5
     ·subst h5
      have HD:Hid (doM F 5 tree key val=cS F):=by unfold doM;rw[if_pos rfl];rfl
      rw[HD.out]at lr pu;go_wp2_with fail;refine(wR Cj wa B7 A mn.out jf).mono ?_;rintro e wb ⟨⟨A',a0,n0,c0,a1,n1,c1,rv,rfl,By,Mw,nm,Ig,GN⟩,Dh⟩;have AT:B10≠B7:=by omega
      have ib:=ia.frm Dh (fun e=>AT e);have Sn:=LO.out.frm Dh (fun e=>by omega);have xh:Bl w wb:=xg.trans (Dh.below xg.size fun g e=>by rw[e];exact PQ.1);have Vy:base≤wb.heap.size:=lT I9 Dh.size;have y0:wb.cell? ⟨B10,0,none⟩=some (.int .i64 0):=ib.c rfl;have y1:wb.cell? ⟨B10,1,none⟩=some (.int .i64 0):=ib.c rfl;have y2:wb.cell? ⟨B10,2,none⟩=some (.string {data:=#[]}):=ib.c rfl;have q0:=ib.frozen 0;have q1:=ib.frozen 1;have q2:=ib.frozen 2;obtain⟨cd,te⟩:=eZ ((cS F).2.1);have Hu:Hid ((cS F).2=(cd,(n0:Int)+(n1:Int),{data:=#[]})):=by
       rw[←te,By];show(cS F).2=((cS F).2.1,(cS F).2.2.1,{data:=#[]})
       have:(cS F).2.2.2=({data:=#[]}:ByteArray):=by unfold cS;split;rfl;split<;>rfl
       rw[←this]
      rw[te];have FW:=fA wb B10 (.int .i64 cd) (.int .i64 ((n0:Int)+(n1:Int))) (.string {data:=#[]});obtain⟨W5,vb⟩:=eZ (((wb.setCell ⟨B10,0,none⟩ (.int .i64 cd)).setCell ⟨B10,1,none⟩ (.int .i64 ((n0:Int)+(n1:Int)))).setCell ⟨B10,2,none⟩ (.string {data:=#[]}));have iW:=((ib.set 0 (.int .i64 cd)).set 1 (.int .i64 ((n0:Int)+(n1:Int)))).set 2 (.string {data:=#[]});rw[vb]at FW iW;have u0:W5.cell? ⟨B10,0,none⟩=some (.int .i64 cd):=iW.c rfl;have u1:W5.cell? ⟨B10,1,none⟩=some (.int .i64 ((n0:Int)+(n1:Int))):=iW.c rfl;have u2:W5.cell? ⟨B10,2,none⟩=some (.string {data:=#[]}):=iW.c rfl;have Lc:=Sn.frm FW (fun e=>by omega);have Dv:Sp W5 B7 A' (cS F).1:=⟨Ig.box.frm FW (fun e=>AT e.symm),Ig.v.frm FW (fun g cs t ht hg e=>by
       subst e;refine hg.type_ne ib ?_ rfl;rcases ht with e | e | e | e<;>rw[e]<;>decide)⟩
      have F5:Frm (fun k=>k=B7∨k=B10) wr W5:=((Frm.of_below vu).trans (Dh.wide fun _ _ q=>.inl q)).trans (FW.wide fun _ _ q=>.inr q);have Dq:=O4.out.frm' F5 (fun g g9 mj e=>by omega);have et:Bl w W5:=xh.trans (FW.below xh.size fun g e=>by rw[e];omega);have EH:base≤W5.heap.size:=lT I9 (lT Dh.size FW.size);have DG:=aA (aI Lc (aI Dv (aI GN et)));have LS:Hid (jN (aH N) (ops.take (k+1))=(cS F).1):=lr.out;have Ep:Hid (iR (aH N) (ops.take (k+1))=lA++[(cd,(n0:Int)+(n1:Int),{data:=#[]})]):=by have:=pu.out;rw[Hu.out]at this;exact this
      clear Lc Dv F5 FW iW Sn Ig ib Dh lr pu Hu HD LO mn FL By;go_wp2_with (first | (at_builtin;refine yA.wpApp1 rfl _ _ rfl Dq rfl (cd,(n0:Int)+(n1:Int),{data:=#[]}) rfl rfl Kg EH ?_;intro v' w7 ee di k5;have wt:=aA (RuI.next DG.out.1 DG.out.2.1 LS.out DG.out.2.2.1 DG.out.2.2.2 EH (by rw[Ep.out];exact ee) k5 lu.1);clear ee di k5 Dq) | go_in);go_roundw
      case rel=>exact⟨k+1,by omega,by go_num,wt.out⟩
      case measure=>simp[intOf];omega
     ·have HD:Hid (doM F kind tree key val=opM F kind tree key val):=by unfold doM;rw[if_neg h5];rfl
      rw[HD.out]at lr pu;have ez:=dQ mn.out.v jf;have yi:=cZ A F;have H3:=aA fun(wz:World) (hz:Bl wa wz)=>aGY Cj ME kind tree key val h5 wz A (mn.out.v.below hz) jf;obtain⟨XS,vd⟩:=eZ (aK A F);rw[vd]at ez yi H3 FL;have ak:IsC wa.drew B7 XS 57∧wa.drew.cell? ⟨g,o+k*4,none⟩=some (.int .i64 kind)∧wa.drew.cell? ⟨g,o+k*4+1,none⟩=some (.int .i64 tree)∧wa.drew.cell? ⟨g,o+k*4+2,none⟩=some (.string key)∧wa.drew.cell? ⟨g,o+k*4+3,none⟩=some (.string val):=⟨FL.out.drew,x0,x1,x2,x3⟩;go_upto_region 14 with fail
      refine pW (fun W=>IsC W B7 XS 57∧W.cell? ⟨g,o+k*4,none⟩=some (.int .i64 kind)∧W.cell? ⟨g,o+k*4+1,none⟩=some (.int .i64 tree)∧W.cell? ⟨g,o+k*4+2,none⟩=some (.string key)∧W.cell? ⟨g,o+k*4+3,none⟩=some (.string val)) 7 (by kernel_rfl) ?_;refine dD (i:=0) 52 (.agg XS) (by kernel_rfl) (by kernel_rfl) rfl (by kernel_rfl) (by kernel_rfl) (by kernel_rfl) (fun _ _ _ h=>h) rfl rfl ak (fun w' hw=>lD _ _ rfl B7 hw.1 rfl (by kernel_rfl) (by rw[yi];kernel_rfl)) ?_;simp only[Act.put,sB,sZ,sS];refine dD (i:=1) 53 (.slice (some ⟨g,o,none⟩) ops.length vc) (by kernel_rfl) (by kernel_rfl) rfl (by kernel_rfl) (by kernel_rfl) (by kernel_rfl) (fun _ _ _ h=>h) rfl rfl ak (fun w' hw=>by obtain⟨_,m1,m2,m3,m4⟩:=hw;go_simp;try rfl) ?_;simp only[Act.put,sB,sZ,sS];refine dD (i:=2) 54 (.int .i64 k) (by kernel_rfl) (by kernel_rfl) rfl (by kernel_rfl) (by kernel_rfl) (by kernel_rfl) (fun _ _ _ h=>h) rfl rfl ak (fun w' hw=>by obtain⟨_,m1,m2,m3,m4⟩:=hw;go_simp;try rfl) ?_;simp only[Act.put,sB,sZ,sS];refine dD (i:=3) 55 (.pointer (some ⟨g,o+k*4,none⟩)) (by kernel_rfl) (by kernel_rfl) rfl (by kernel_rfl) (by kernel_rfl) (by kernel_rfl) (fun _ _ _ h=>h) rfl rfl ak (fun w' hw=>by obtain⟨_,m1,m2,m3,m4⟩:=hw;go_simp;try rfl) ?_;simp only[Act.put,sB,sZ,sS];refine dD (i:=4) 56 (.agg #[.int .i64 kind,.int .i64 tree,.string key,.string val]) (by kernel_rfl) (by kernel_rfl) rfl (by kernel_rfl) (by kernel_rfl) (by kernel_rfl) (fun _ _ _ h=>h) rfl rfl ak (fun w' hw=>by obtain⟨_,m1,m2,m3,m4⟩:=hw;go_simp;try rfl) ?_;simp only[Act.put,sB,sZ,sS];refine fW (i:=5) (by kernel_rfl) rfl rfl (fun K2 ae=>?_);go_simp;refine(H3.out wa.drew (bQ _ _).drew).mono ?_;rintro e wb ⟨⟨A',rfl,Ic,GN⟩,E2⟩;have AC:Bl wa wb:=(bQ wa.heap.size wa).drew.trans E2;have xh:=xg.trans (AC.mono xg.size);have FT:=FL.out.of (AC.block _ FL.out.lt);have GF:IsC wb B7 XS 57∧wb.cell? ⟨g,o+k*4,none⟩=some (.int .i64 kind)∧wb.cell? ⟨g,o+k*4+1,none⟩=some (.int .i64 tree)∧wb.cell? ⟨g,o+k*4+2,none⟩=some (.string key)∧wb.cell? ⟨g,o+k*4+3,none⟩=some (.string val):=⟨FT,ts.out wb xh⟩;have G7:=dQ Ic GN;have Ef:=cZ A' (opM F kind tree key val).1;have KZ:=aA Ic;obtain⟨X',OI⟩:=eZ (aK A' (opM F kind tree key val).1);rw[OI]at G7 Ef;rw[OI];obtain⟨⟨cd,vl,st⟩,han⟩:∃x,(opM F kind tree key val).2=x:=⟨_,rfl⟩;have Hu:=aA han;rw[han];simp only[bN];refine ae _ _ (fun _=>GF) ?_;clear ae K2 Ic;refine fW (i:=6) (by kernel_rfl) rfl rfl (fun K2 ae=>?_);go_simp;refine ae _ _ (fun _=>GF) ?_;clear ae K2;refine tV (i:=7) 58 (.agg X') (by omega) rfl (by kernel_rfl) (by kernel_rfl) (by kernel_rfl) (fun _ _ _ h=>h) rfl rfl (fun w'=>by go_simp;try rfl) ?_;simp only[Act.put,sB,sZ,sS];refine tV (i:=8) 59 (.agg #[.int .i64 cd,.int .i64 vl,.string st]) (by omega) rfl (by kernel_rfl) (by kernel_rfl) (by kernel_rfl) (fun _ _ _ h=>h) rfl rfl (fun w'=>by go_simp;try rfl) ?_;simp only[Act.put,sB,sZ,sS];refine fW (i:=9) (by kernel_rfl) rfl rfl (fun K2 ae=>?_);refine aL _ _ _ rfl B7 FT rfl rfl (Ef.trans yi.symm) (by rw[Ef];kernel_rfl) G7 fun wc jc jcF=>?_;refine ae _ _ (fun q=>absurd q (by omega)) ?_;clear ae K2;have AT:B10≠B7:=by omega
      have ic:=(ia.of (AC.block _ ia.lt)).frm jcF (fun e=>AT e);refine fW (i:=10) (by kernel_rfl) rfl rfl (fun K2 ae=>?_);refine aL (vs:=#[.int .i64 cd,.int .i64 vl,.string st]) _ _ _ rfl B10 ic rfl rfl rfl (by kernel_rfl) (by simp[Value.oneCell']) fun W5 iW FW=>?_;refine ae _ _ (fun q=>absurd q (by omega)) ?_;clear ae K2;refine pV (by kernel_rfl) ?_ _;have u0:W5.cell? ⟨B10,0,none⟩=some (.int .i64 cd):=iW.c rfl;have u1:W5.cell? ⟨B10,1,none⟩=some (.int .i64 vl):=iW.c rfl;have u2:W5.cell? ⟨B10,2,none⟩=some (.string st):=iW.c rfl;have Kc:Frm (fun k=>k=B7∨k=B10) wb W5:=(jcF.wide fun _ _ q=>.inl q).trans (FW.wide fun _ _ q=>.inr q);have Lc:=(LO.out.of (AC.block _ LO.out.lt)).frm Kc (fun e=>by omega);have Dv:Sp W5 B7 A' (opM F kind tree key val).1:=⟨by rw[OI];exact jc.frm FW (fun e=>AT e.symm),KZ.out.frm Kc (fun g cs t ht hg e=>by
       rcases e with e | e
       ·subst e
        refine hg.type_ne FT ?_ rfl;rcases ht with e | e | e | e<;>rw[e]<;>decide
       ·subst e
        refine hg.type_ne (ia.of (AC.block _ ia.lt)) ?_ rfl;rcases ht with e | e | e | e<;>rw[e]<;>decide)⟩
      have F5:Frm (fun k=>k=B7∨k=B10) wr W5:=((Frm.of_below vu).trans (Frm.of_below AC)).trans Kc;have Dq:=O4.out.frm' F5 (fun g g9 mj e=>by omega);have et:Bl w W5:=xh.trans (Kc.below xh.size fun g e=>by omega);have EH:base≤W5.heap.size:=lT I9 (lT AC.size Kc.size);have DG:=aA (aI Lc (aI Dv (aI GN et)));have LS:Hid (jN (aH N) (ops.take (k+1))=(opM F kind tree key val).1):=lr.out;have Ep:Hid (iR (aH N) (ops.take (k+1))=lA++[(cd,vl,st)]):=by have:=pu.out;rw[Hu.out]at this;exact this
      clear Lc Dv F5 FW iW jc jcF Kc FT GF ic lr pu Hu HD LO mn FL KZ H3 han OI vd ak E2 AC;go_wp2_with (first | (at_builtin;refine yA.wpApp1 rfl _ _ rfl Dq rfl (cd,vl,st) rfl rfl Kg EH ?_;intro v' w7 ee di k5;have wt:=aA (RuI.next DG.out.1 DG.out.2.1 LS.out DG.out.2.2.1 DG.out.2.2.2 EH (by rw[Ep.out];exact ee) k5 lu.1);clear ee di k5 Dq) | go_in);go_roundw
      case rel=>exact⟨k+1,by omega,by go_num,wt.out⟩
      case measure=>simp[intOf];omega
    ·obtain rfl:k=ops.length:=by omega
     have lm:¬((ops.length:Nat):Int) <((ops.length:Nat):Int):=by omega
     have ez:=dQ jo.v jf;have yi:=cZ A (jN (aH N) (ops.take ops.length));have FL:=aA jo.box;have UQ:=aA hC.b4;have zh:Hid (∀wz:World,Frm (fun k=>k=B4) wr wz→RuP w (N:Int) ops (.returned (.tuple #[.agg (aK A (jN (aH N) (ops.take ops.length))),u8,.int .i64 0])) wz):=fun wz hF=>by
      refine⟨fun q=>(by rw[qm.out]at q;cases q),fun _ q=>absurd q h2,fun _ _=>?_,hC.bel.trans (hF.below hC.bel.size fun g e=>by rw[e];omega)⟩;rw[O3.out];have e:ops.take ops.length=ops:=List.take_of_length_le (nR _);refine⟨A,u8,by rw[e],?_,jf,?_⟩
      ·have:=jo.v.frm hF (fun g cs t ht hg e=>by
        subst e;refine hg.type_ne hC.b4 ?_ rfl;rcases ht with e | e | e | e<;>rw[e]<;>decide)
       rw[e]at this;exact this
      ·have:=hC.own.frm' hF (fun g h1 _ e=>by omega)
       rw[e]at this;exact this.base lu.1
     generalize aK A (jN (aH N) (ops.take ops.length))=XS at ez yi FL zh;clear hC jo;go_upto_region 16 with fail
     refine wp_region_list ?_;refine wpList_plain rfl (fun K2 ae=>?_);refine cM _ rfl B7 FL.out rfl yi ?_;refine ae _ _ ?_;clear ae K2;try simp only[Act.put,sB,sZ,sS]
     refine wpList_plain rfl (fun K2 ae=>?_);go_simp;refine ae _ _ ?_;clear ae K2;try simp only[Act.put,sB,sZ,sS]
     refine wpList_plain rfl (fun K2 ae=>?_);refine aL _ _ _ rfl B4 UQ.out rfl rfl (yi.trans LE.symm) (by rw[yi];kernel_rfl) ez fun wz jz jzF=>?_;refine ae _ _ ?_;clear ae K2;try simp only[Act.put,sB,sZ,sS]
     have HF:=aA (zh.out wz jzF);clear zh jzF;refine wpList_plain rfl (fun K2 ae=>?_);go_simp;refine ae _ _ ?_;clear ae K2;refine wpList_plain rfl (fun K2 ae=>?_);go_simp;refine ae _ _ ?_;clear ae K2;refine wpList_nil ?_;go_wp2;refine bodyPost_ret (v:=.tuple #[.agg XS,u8,.int .i64 0]) (pD jz yi rfl rfl rfl) rfl ?_;exact HF.out
def Is(B:Nat)(w:World)(r:Nat)(cs:Array Value)(t:TypeId):Prop:=B≤r∧w.heap[r]?=some (.cells cs t (0,0))
def aIL(w:World)(m p:Nat):Prop:=(∃es c,w.heap[m]?=some (.map es c))∧dS w m (upd (fun _=>none) 2 (some p))
def FF(B n:Nat)(w:World)(t:Nat→Value)(l5:Bool):Nat→Prop
 | 0=>t 4=.agg #[.int .i64 0,.int .i64 2]
 | 1=>∃r,t 5=.slice (some ⟨r,0,none⟩) 1 1∧Is B w r #[.int .i64 0,.int .i64 2] 77
 | 2=>∃m,t 6=.map (some m)∧B≤m∧(∃es c,w.heap[m]?=some (.map es c))∧(l5=false→w.heap[m]?=some (.map #[] 0))
 | 3=>t 7=.agg #[.int .i64 1,.slice none 0 0]
 | 4=>∃p,t 8=.pointer (some ⟨p,0,none⟩)∧Is B w p #[.int .i64 1,.slice none 0 0] 108
 | 5=>∃m p,t 6=.map (some m)∧t 8=.pointer (some ⟨p,0,none⟩)∧aIL w m p
 | 6=>t 9=t 6
 | 7=>t 10=.int .i64 n
 | 8=>∃c,t 11=.slice (some ⟨c,0,none⟩) n n∧Is B w c (dG (List.replicate n 0)) 2
 | 9=>t 12=.int .i64 n
 | 10=>∃d,t 13=.slice (some ⟨d,0,none⟩) n n∧Is B w d (dG (List.replicate n 0)) 2
 | 11=>∃q,t 14=.slice (some ⟨q,0,none⟩) 1 1∧Is B w q #[.int .i64 3] 2
 | 12=>t 15=.agg #[t 5,.int .i64 1,.int .i64 1,t 9,t 11,t 13,t 14,.slice none 0 0]
 | 13=>∃f cs,t 15=.agg cs∧t 16=.pointer (some ⟨f,0,none⟩)∧Is B w f cs 71
 | 14=>t 3=t 16
 | _=>True
def fQ:List (List Nat):=[[4],[5],[6],[7],[8],[6,8],[9,6],[10],[11],[12],[13],[14],[15,5,9,11,13,14],[15,16],[3,16]]
def KpZ(w w':World)(ok:Prop):Prop:=(∀(g:Nat) cs t fr,w.heap[g]?=some (Obj.cells cs t fr)→w'.heap[g]?=some (Obj.cells cs t fr))∧(∀(g:Nat) es c,w.heap[g]?=some (Obj.map es c)→∃es c,w'.heap[g]?=some (Obj.map es c))∧(ok→∀(g:Nat) es c,w.heap[g]?=some (Obj.map es c)→w'.heap[g]?=some (Obj.map es c))
theorem KpZ.below{w w':World}(h:Bl w w'):KpZ w w' True:=
 ⟨fun g _ _ _ e=>(h.block g (Array.getElem?_eq_some_iff.1 e).1).trans e,fun g es c e=>⟨es,c,(h.block g (Array.getElem?_eq_some_iff.1 e).1).trans e⟩,fun _ g _ _ e=>(h.block g (Array.getElem?_eq_some_iff.1 e).1).trans e⟩
theorem FF.keep{B n:Nat}{w w':World}{t t':Nat→Value}{l l':Bool}{k:Nat}(h:FF B n w t l k)(hl:l'=false→l=false∧True)(hs:∀s∈fQ.getD k [],t' s=t s)(hk:KpZ w w' (k=5∨l'=false)):FF B n w' t' l' k:=by
 obtain⟨k1,k2,k3⟩:=hk;match k with
 | 0=>exact(hs 4 (by simp[fQ])).trans h
 | 1=>obtain⟨r,e,h1,h2⟩:=h;exact⟨r,(hs 5 (by simp[fQ])).trans e,h1,k1 _ _ _ _ h2⟩
 | 2=>obtain⟨m,e,h1,⟨es,c,h2⟩,h3⟩:=h;exact⟨m,(hs 6 (by simp[fQ])).trans e,h1,k2 _ _ _ h2,fun hf=>k3 (.inr hf) _ _ _ (h3 (hl hf).1)⟩
 | 3=>exact(hs 7 (by simp[fQ])).trans h
 | 4=>obtain⟨r,e,h1,h2⟩:=h;exact⟨r,(hs 8 (by simp[fQ])).trans e,h1,k1 _ _ _ _ h2⟩
 | 5=>obtain⟨m,p,e1,e2,⟨es,c,h1⟩,h2⟩:=h;exact⟨m,p,(hs 6 (by simp[fQ])).trans e1,(hs 8 (by simp[fQ])).trans e2,⟨es,c,k3 (.inl rfl) _ _ _ h1⟩,h2.of ((k3 (.inl rfl) _ _ _ h1).trans h1.symm)⟩
 | 6=>exact((hs 9 (by simp[fQ])).trans h).trans (hs 6 (by simp[fQ])).symm
 | 7=>exact(hs 10 (by simp[fQ])).trans h
 | 8=>obtain⟨r,e,h1,h2⟩:=h;exact⟨r,(hs 11 (by simp[fQ])).trans e,h1,k1 _ _ _ _ h2⟩
 | 9=>exact(hs 12 (by simp[fQ])).trans h
 | 10=>obtain⟨r,e,h1,h2⟩:=h;exact⟨r,(hs 13 (by simp[fQ])).trans e,h1,k1 _ _ _ _ h2⟩
 | 11=>obtain⟨r,e,h1,h2⟩:=h;exact⟨r,(hs 14 (by simp[fQ])).trans e,h1,k1 _ _ _ _ h2⟩
 | 12=>
  have h':t 15=.agg #[t 5,.int .i64 1,.int .i64 1,t 9,t 11,t 13,t 14,.slice none 0 0]:=h;show t' 15=.agg #[t' 5,.int .i64 1,.int .i64 1,t' 9,t' 11,t' 13,t' 14,.slice none 0 0]
  rw[hs 15 (by simp[fQ]),hs 5 (by simp[fQ]),hs 9 (by simp[fQ]),hs 11 (by simp[fQ]),hs 13 (by simp[fQ]),hs 14 (by simp[fQ])];exact h'
 | 13=>obtain⟨f,cs,e1,e2,h1,h2⟩:=h;exact⟨f,cs,(hs 15 (by simp[fQ])).trans e1,(hs 16 (by simp[fQ])).trans e2,h1,k1 _ _ _ _ h2⟩
 | 14=>exact((hs 3 (by simp[fQ])).trans h).trans (hs 16 (by simp[fQ])).symm
 | k+15=>trivial
structure FI(w0:World)(n:Nat)(l:Array Bool)(a:Act)(w:World):Prop where
 size:a.tmps.size=33
 defers:a.defers=[]
 arg:a.tmps.getD 0 undef=.int .i64 n
 below:Bl w0 w
 facts:∀k,l.getD k false=true→FF w0.heap.size n w (fun s=>a.tmps.getD s undef) (l.getD 5 false) k
 apart:l.getD 8 false=true→l.getD 10 false=true→a.tmps.getD 11 undef≠a.tmps.getD 13 undef
def aGG(ops:Array Oper):Bool:=(List.range 15).all fun k=>(fQ.getD k []).all fun s=>(List.range 15).all fun i=>i == k || (((ops[i]?).bind (·.dst)) != some s) || (((ops[k]?).map fun o=>o.after.toList.any fun e=>Region.binds .any e && e.on == i).getD false)
theorem aJG{ops:Array Oper}(hd:aGG ops=true){l:Array Bool}(au:aIJ .any ops l){i k:Nat}(hi:i<15)(hk:k<15)(hl:l.getD k false=true)(hn:l.getD i false=false){o:Oper}(ho:ops[i]?=some o){s:Nat}(hs:s∈fQ.getD k []):o.dst≠some s:=by
 intro he;have lm:i≠k:=fun e=>by subst e;rw[hl]at hn;cases hn
 have h1:=List.all_eq_true.1 hd k (List.mem_range.2 hk);have h2:=List.all_eq_true.1 h1 s hs;have h3:=List.all_eq_true.1 h2 i (List.mem_range.2 hi);rw[ho]at h3;simp only[Option.bind_some,he,bne_self_eq_false,Bool.or_false,Bool.or_eq_true,beq_iff_eq]at h3;rcases h3 with h3 | h3
 ·exact lm h3
 ·cases kg:ops[k]? with
  | none=>simp[kg]at h3
  | some ok=>
   simp only[kg,Option.map_some,Option.getD_some,List.any_eq_true,Bool.and_eq_true,beq_iff_eq]at h3;obtain⟨e,EQ,vg,Fv⟩:=h3;have:=au k hl ok kg e (by simpa using EQ) vg;rw[Fv,hn]at this;cases this
theorem aJX(a:Act)(d s:Nat)(v:Value)(h:d<a.tmps.size):(a.put (some d) v).tmps.getD s undef=if s=d then v else a.tmps.getD s undef:=by
 simp only[Act.put,Array.getD_eq_getD_getElem?,Array.getElem?_setIfInBounds];by_cases e:d=s
 ·subst e;simp[h]
 ·rw[if_neg e,if_neg (Ne.symm e)]
theorem FI.next{w0:World}{n:Nat}{l:Array Bool}{a:Act}{w:World}(h:FI w0 n l a w){ops:Array Oper}(hd:aGG ops=true)(au:aIJ .any ops l){i:Nat}{o:Oper}(ho:ops[i]?=some o)(hi:i<15)(Jw:l.size=15)(yc:l.getD i false=false)(h5:i≠5)
  (d:Nat) (Ws:o.dst=some d) (V8:d<33) (QZ:d≠0) (v:Value) (w':World) (hb:Bl w w')
  (hf:FF w0.heap.size n w' (fun s=>if s=d then v else a.tmps.getD s undef) (l.getD 5 false) i)
  (q9:(l.setIfInBounds i true).getD 8 false=true→(l.setIfInBounds i true).getD 10 false=true→(if 11=d then v else a.tmps.getD 11 undef)≠(if 13=d then v else a.tmps.getD 13 undef)):
  FI w0 n (l.setIfInBounds i true) (a.put (some d) v) w':=by
 have bd:=h.size;have hg:=fun s=>aJX a d s v (by omega);have e5:(l.setIfInBounds i true).getD 5 false=l.getD 5 false:=getD_set_ne false h5;refine⟨by simp[Act.put,bd],h.defers,?_,h.below.trans (hb.mono h.below.size),fun k hk=>?_,fun h8 ft=>?_⟩
 ·rw[hg,if_neg (Ne.symm QZ)];exact h.arg
 ·rw[e5]
  by_cases lm:i=k
  ·subst lm
   have:(fun s=>(a.put (some d) v).tmps.getD s undef)=fun s=>if s=d then v else a.tmps.getD s undef:=funext hg
   rw[this];exact hf
  ·rw[getD_set_ne false lm]at hk
   have RD:k<15:=by
    by_cases hh:k<15
    ·exact hh
    ·simp[Array.getElem?_eq_none (show l.size≤k by omega)]at hk
   refine(h.facts k hk).keep (fun e=>⟨e,trivial⟩) (fun s hs=>?_) ⟨(KpZ.below hb).1,(KpZ.below hb).2.1,fun _=>(KpZ.below hb).2.2 trivial⟩;have:=aJG hd au hi RD hk yc ho hs;rw[hg,if_neg (fun e=>this (by rw[e];exact Ws))]
 ·rw[hg,hg];exact q9 h8 ft
theorem FI.apart_keep{w0:World}{n:Nat}{l:Array Bool}{a:Act}{w:World}(h:FI w0 n l a w)(i d:Nat)(v:Value)(h8:i≠8)(ft:i≠10)(d11:11≠d)(d13:13≠d):
  (l.setIfInBounds i true).getD 8 false=true→(l.setIfInBounds i true).getD 10 false=true→(if 11=d then v else a.tmps.getD 11 undef)≠(if 13=d then v else a.tmps.getD 13 undef):=by
 rw[getD_set_ne false h8,getD_set_ne false ft,if_neg d11,if_neg d13];exact h.apart
theorem FI.ins{w0:World}{n:Nat}{l:Array Bool}{a:Act}{w:World}(h:FI w0 n l a w){ops:Array Oper}(Jw:l.size=15)(yc:l.getD 5 false=false)(w':World)(m p:Nat)
  (hm:a.tmps.getD 6 undef=.map (some m)) (hp:a.tmps.getD 8 undef=.pointer (some ⟨p,0,none⟩)) (hB:w0.heap.size≤m) (hN:aIL w' m p) (hu:Upd m (m+1) w w') (he:w.heap[m]?=some (.map #[] 0)):
  FI w0 n (l.setIfInBounds 5 true) a w':=by
 have CV:m<w.heap.size:=(Array.getElem?_eq_some_iff.1 he).1;have e5:(l.setIfInBounds 5 true).getD 5 false=true:=by simp[Jw]
 have kp:KpZ w w' False:=by
  refine⟨fun g cs t fr hg=>?_,fun g es c hg=>?_,fun hf=>hf.elim⟩
  ·have av:g≠m:=fun e=>by subst e;rw[he]at hg;cases hg
   exact(hu.block g (Array.getElem?_eq_some_iff.1 hg).1 (by omega)).trans hg
  ·by_cases e:g=m
   ·subst e;obtain⟨⟨es,c,h1⟩,_⟩:=hN;exact⟨es,c,h1⟩
   ·exact⟨es,c,(hu.block g (Array.getElem?_eq_some_iff.1 hg).1 (by omega)).trans hg⟩
 refine⟨h.size,h.defers,h.arg,h.below.trans (hu.below hB h.below.size),fun k hk=>?_,fun h8 ft=>?_⟩
 ·rw[e5]
  by_cases lm:5=k
  ·subst lm;exact⟨m,p,hm,hp,hN⟩
  ·rw[getD_set_ne false lm]at hk
   exact(h.facts k hk).keep (fun e=>by cases e) (fun s _=>rfl) ⟨kp.1,kp.2.1,fun e=>by rcases e with e | e;exact absurd e.symm lm;cases e⟩
 ·rw[getD_set_ne false (show(5:Nat)≠8 by omega)]at h8
  rw[getD_set_ne false (show(5:Nat)≠10 by omega)]at ft;exact h.apart h8 ft
theorem map_none{w:World}{m:Nat}(he:w.heap[m]?=some (.map #[] 0)):dS w m (fun _=>none):=by
 refine⟨.map [],⟨#[],0,he,⟨by simp,MapKept.stamped_empty 0,by simp⟩,by simp[Maps.size],rfl⟩,?_,fun b _=>rfl,fun b _=>rfl⟩;have z:∀n,cR n (fun b=>if((fun _=>none:Nat→Option Nat) b).isSome then 1 else 0)=0:=fun n=>by
  induction n with
  | zero=>rfl
  | succ n ih=>simp only[cR];rw[ih];rfl
 exact(z 512).symm
theorem aJP{w:World}{m p:Nat}(he:w.heap[m]?=some (.map #[] 0)):
  ∃w',(Instr.mapUpdate 68 (.map (some m)) (.int .i64 2) (.pointer (some ⟨p,0,none⟩))).run Tryz.prog w=.ok () w'∧aIL w' m p∧Upd m (m+1) w w':=by
 obtain⟨w',hr,hM,hF⟩:=(map_none he).put 2 p (by omega);refine⟨w',hr,⟨?_,hM⟩,⟨hF.os,hF.tape,hF.output,hF.size,fun k hk hn=>hF.block k hk (by omega)⟩⟩
 ·obtain⟨D,⟨es,c,h1,_⟩,_⟩:=hM
  exact⟨es,c,h1⟩
def RdL(w:World)(v:Value)(l:List TO):Prop:=∃a c,v=.slice a l.length c∧(0<l.length→∃g o,a=some ⟨g,o,none⟩∧g<w.heap.size∧∀i,i<l.length→w.cell? ⟨g,o+i*4,none⟩=some (.int .i64 (l.getD i yO.z).1)∧w.cell? ⟨g,o+i*4+1,none⟩=some (.int .i64 (l.getD i yO.z).2.1)∧w.cell? ⟨g,o+i*4+2,none⟩=some (.string (l.getD i yO.z).2.2.1)∧w.cell? ⟨g,o+i*4+3,none⟩=some (.string (l.getD i yO.z).2.2.2))
theorem RdL.len{w:World}{v:Value}{l:List TO}(h:RdL w v l):∃a c,v=.slice a l.length c:=by
 obtain⟨a,c,e,_⟩:=h;exact⟨a,c,e⟩
theorem RdL.below{w w':World}{v:Value}{l:List TO}(h:RdL w v l)(k:Bl w w'):RdL w' v l:=by
 obtain⟨a,c,e,hc⟩:=h;refine⟨a,c,e,fun hl=>?_⟩;obtain⟨g,o,e2,hg,hx⟩:=hc hl;refine⟨g,o,e2,lL hg k.size,fun i hi=>?_⟩;have hw:∀q,w'.cell? ⟨g,q,none⟩=w.cell? ⟨g,q,none⟩:=fun q=>k.cell (p:=⟨g,q,none⟩) hg;rw[hw,hw,hw,hw];exact hx i hi
def fN{α:Type}(Y:Ely α)(lo hi:Nat)(w:World)(v:Value)(l:List α):Prop:=
 (v=.slice none 0 0∧l=[])∨∃g cap pre post,v=.slice (some ⟨g,pre.length*Y.n,none⟩) l.length cap∧lo≤g∧g<hi∧IsC w g (Y.row (pre++l++post)) Y.t
section
variable {α : Type} {Y : Ely α} {lo hi lo' am : Nat} {w w' : World} {v : Value} {l : List α}
theorem fN.sl(h:fN Y lo hi w v l):Y.Sl w v l:=by
 rcases h with⟨e,h⟩ | ⟨g,cap,pre,post,e,_,_,h⟩
 ·exact .inl ⟨e,h⟩
 ·exact .inr ⟨g,pre.length,cap,pre++l++post,e,h,by simp,by simp[List.append_assoc]⟩
theorem fN.len(h:fN Y lo hi w v l):∃a c,v=.slice a l.length c:=h.sl.len
theorem fN.kept(h:fN Y lo hi w v l)(k:∀b,lo≤b→b<hi→b<w.heap.size→w'.heap[b]?=w.heap[b]?):fN Y lo hi w' v l:=by
 rcases h with h | ⟨g,cap,pre,post,e,h1,h2,h⟩
 ·exact .inl h
 ·exact .inr ⟨g,cap,pre,post,e,h1,h2,h.of (k g h1 h2 h.lt)⟩
theorem fN.below(h:fN Y lo hi w v l)(k:Bl w w'):fN Y lo hi w' v l:=h.kept fun b _ _ hb=>k.block b hb
theorem fN.upd(h:fN Y lo hi w v l)(k:Upd lo' am w w')(hd:hi≤lo'∨am≤lo):fN Y lo hi w' v l:=h.kept fun b h1 h2 hb=>k.block b hb (by omega)
theorem Ely.Own.yown(h:Y.Own lo w v l):fN Y lo w.heap.size w v l:=by
 obtain⟨a,junk,e,hr,hb⟩:=h;cases a with
 | none=>obtain⟨rfl,rfl⟩:=hr.nil rfl;exact .inl ⟨e,rfl⟩
 | some g=>exact .inr ⟨g,l.length+junk.length,[],junk,by rw[e];simp[adr],hb g rfl,(hr.arr g rfl).lt,by simpa using hr.arr g rfl⟩
end
theorem aCV{α:Type}(pre l post:List α)(j:Nat)(hj:j<l.length)(a:α):(pre++l++post).set (pre.length+j) a=pre++l.set j a++post:=by
 rw[List.append_assoc,List.set_append_right _ _ (by omega),show pre.length+j-pre.length=j by omega,List.set_append_left _ _ hj,List.append_assoc]
theorem wW{α:Type}(pre l post:List α)(j:Nat)(hj:j<l.length)(z:α):(pre++l++post).getD (pre.length+j) z=l.getD j z:=by
 simp only[gD];rw[List.append_assoc,List.getElem?_append_right (by omega),show pre.length+j-pre.length=j by omega,List.getElem?_append_left hj]
theorem Ely.mid{α:Type}(Y:Ely α){w:World}{g:Nat}{pre l post:List α}(h:IsC w g (Y.row (pre++l++post)) Y.t){j f:Nat}(hj:j<l.length)(hf:f<Y.n):w.cell? ⟨g,pre.length*Y.n+j*Y.n+f,none⟩=(Y.cell (l.getD j Y.z))[f]?:=by
 rw[h.cell,←Nat.add_mul];have:=Y.at (pre++l++post) (i:=pre.length+j) (j:=f) (by simp;omega) hf;rw[this,wW pre l post j hj]
theorem Ely.set1{α:Type}(Y:Ely α)(L:List α){i f:Nat}(hi:i<L.length)(hf:f<Y.n)(v:Value)(a':α)(hc:Y.cell a'=(Y.cell (L.getD i Y.z)).set f v):(Y.row L).setIfInBounds (i*Y.n+f) v=Y.row (L.set i a'):=by
 have hp:=Y.hp;apply Array.ext_getElem?;intro p;by_cases qi:p<L.length*Y.n
 ·have he:p / Y.n<L.length:=Nat.div_lt_of_lt_mul (by rw[Nat.mul_comm];exact qi)
  have hr:p % Y.n<Y.n:=Nat.mod_lt _ hp;have h1:=Y.at L (i:=p / Y.n) (j:=p % Y.n) he hr;have h2:=Y.at (L.set i a') (i:=p / Y.n) (j:=p % Y.n) (by simpa using he) hr;rw[Nat.div_add_mod']at h1 h2;rw[h2,Array.getElem?_setIfInBounds];by_cases ei:p / Y.n=i
  ·have hg:(L.set i a').getD (p / Y.n) Y.z=a':=by rw[ei];simp[hi]
   rw[hg,hc];by_cases ef:p % Y.n=f
   ·have:i*Y.n+f=p:=by rw[←ei,←ef];exact Nat.div_add_mod' p Y.n
    rw[if_pos this,ef,List.getElem?_set_self (by rw[Y.hn];exact hf)];simp[Y.size];omega
   ·have:¬i*Y.n+f=p:=fun q=>ef (by rw[←q,Nat.mul_add_mod_self_right,Nat.mod_eq_of_lt hf])
    rw[if_neg this,h1,ei,List.getElem?_set_ne (Ne.symm ef)]
  ·have hg:(L.set i a').getD (p / Y.n) Y.z=L.getD (p / Y.n) Y.z:=by
    simp only[gD,List.getElem?_set_ne (Ne.symm ei)]
   have:¬i*Y.n+f=p:=fun q=>ei (by rw[←q,Nat.mul_comm,Nat.mul_add_div hp,Nat.div_eq_of_lt hf,Nat.add_zero])
   rw[hg,if_neg this,h1]
 ·rw[Array.getElem?_eq_none (by simp[Y.size];omega),Array.getElem?_eq_none (by rw[Y.size,List.length_set];omega)]
structure SzP(w:World)(e:Ending)(w':World):Prop where
 ex:∃r:Int,e=.returned (.int .i64 r)∧r≤1048576∧-9223372036854775808≤r
 bel:Bl w w'
structure aML(w:World)(n:Nat)(e:Ending)(w':World):Prop where
 ex:∃r:Int,e=.returned (.int .i64 r)∧(0≤r→n≤1048576)
 bel:Bl w w'
theorem xK(o:TO)(L:Int)(w:World)(h0:0≤L∧L≤1048576)(h1:o.2.2.1.size≤9223372036854775807)(h2:o.2.2.2.size≤9223372036854775807):
  Calls Tryz.prog 31 #[.agg #[.int .i64 o.1,.int .i64 o.2.1,.string o.2.2.1,.string o.2.2.2],.int .i64 L] w (SzP w):=by
 obtain⟨kind,tree,key,val⟩:=o;simp only at h1 h2 ⊢;obtain⟨pb,qr⟩:=eZ (w.heap.size);obtain⟨w1,be⟩:=eZ (w.alloc (.cells #[.int .i64 kind,.int .i64 tree,.string key,.string val] 53));have B1:=bAl be;have k1:=iNw be qr;have e2:w1.cell? ⟨pb,2,none⟩=some (.string key):=k1.c rfl;have e3:w1.cell? ⟨pb,3,none⟩=some (.string val):=k1.c rfl;by_cases q1:L -(key.size:Int)<0
 ·go_enter Tryz.func31,Tryz.ntmps31
  go_wp2
  refine bodyPost_ret (v:=.int .i64 (-1)) (by simp[results,Tryz.results31,go_sem]) rfl ?_;exact⟨⟨-1,rfl,by omega,by omega⟩,B1⟩
 ·by_cases q2:L -(key.size:Int) -(val.size:Int)<0
  ·go_enter Tryz.func31,Tryz.ntmps31
   go_wp2
   refine bodyPost_ret (v:=.int .i64 (-1)) (by simp[results,Tryz.results31,go_sem]) rfl ?_;exact⟨⟨-1,rfl,by omega,by omega⟩,B1⟩
  ·go_enter Tryz.func31,Tryz.ntmps31
   go_wp2
   refine bodyPost_ret (v:=.int .i64 (L -(key.size:Int) -(val.size:Int))) (by simp[results,Tryz.results31,go_sem]) rfl ?_;exact⟨⟨_,rfl,by omega,by omega⟩,B1⟩
theorem aKS{w:World}{u:Value}{l:List TO}(h:RdL w u l)(hl:0<l.length):∃g o c,u=.slice (some ⟨g,o,none⟩) l.length c∧g<w.heap.size∧∀(w':World) (i:Nat),(w'.heap[g]?=w.heap[g]?)→i<l.length→w'.cell? ⟨g,o+i*4,none⟩=some (.int .i64 (l.getD i yO.z).1)∧w'.cell? ⟨g,o+i*4+1,none⟩=some (.int .i64 (l.getD i yO.z).2.1)∧w'.cell? ⟨g,o+i*4+2,none⟩=some (.string (l.getD i yO.z).2.2.1)∧w'.cell? ⟨g,o+i*4+3,none⟩=some (.string (l.getD i yO.z).2.2.2):=by
 obtain⟨a,c,e,hc⟩:=h;obtain⟨g,o,rfl,hg,hx⟩:=hc hl;refine⟨g,o,c,e,hg,fun w' i he hi=>?_⟩;have hw:∀k,w'.cell? ⟨g,k,none⟩=w.cell? ⟨g,k,none⟩:=fun k=>by simp[World.cell?,he]
 rw[hw,hw,hw,hw];exact hx i hi
theorem uP(l:List TO)(v:Value)(w:World)(hv:RdL w v l)(hm:l.length≤9223372036854775807)(hz:∀o∈l,o.2.2.1.size≤9223372036854775807∧o.2.2.2.size≤9223372036854775807):
  Calls Tryz.prog 7 #[v,.int .i64 1048576] w (aML w l.length):=by
 obtain⟨va,vc,iq⟩:=hv.len;have HV:=aA (aI hv iq);subst iq;clear hv;by_cases h0:l.length≤1048576
 ·have PJ:¬(1048576 -(l.length:Int))<0:=by omega
  go_enter Tryz.func7,Tryz.ntmps7
  go_wp2
  go_loopw [1,5] (fun L i wr=>∃(k:Nat) (q:Int),k≤l.length∧i=.int .i64 k∧L=.int .i64 q∧0≤q∧q≤1048576∧Bl w wr) (fun _ i _=>l.length -(intOf i).toNat)
  case atStart=>exact⟨0,_,by omega,rfl,rfl,by omega,by omega,bQ _ _⟩
  case round=>
   obtain⟨k,q,hk,rfl,rfl,ak,qt,hb⟩:=hrel;by_cases ai:k<l.length
   ·obtain⟨g,o,cc,iq,qo,aa⟩:=aKS HV.out.1 (by omega)
    simp only[Value.slice.injEq,true_and]at iq;obtain⟨rfl,rfl⟩:=iq;have lm:(k:Int) <(l.length:Int):=by omega
    obtain⟨x0,x1,x2,x3⟩:=aa wr k (hb.block g qo) ai;have R8:=hz (l.getD k yO.z) (by rw[gD,gE ai];exact List.getElem_mem ai);have kf:=aA (xK (l.getD k yO.z) q wr ⟨ak,qt⟩ R8.1 R8.2);generalize l.getD k yO.z=op at *;obtain⟨kind,tree,key,val⟩:=op;simp only at x0 x1 x2 x3 kf;clear aa R8;go_wp2_with fail;refine kf.out.mono ?_;rintro e w2 ⟨⟨r,rfl,yf,pj⟩,ba⟩;have ff:=hb.trans (ba.mono hb.size);by_cases hr:r<0
    ·go_wp2
     refine bodyPost_ret (v:=.int .i64 (-1)) (by simp[results,Tryz.results7,go_sem]) rfl ?_;exact⟨⟨-1,rfl,fun _=>h0⟩,ff⟩
    ·go_wp2
     go_roundw
     case rel=>exact⟨k+1,r,by omega,by go_num,rfl,by omega,by omega,ff⟩
     case measure=>simp[intOf];omega
   ·have lm:¬(k:Int) <(l.length:Int):=by omega
    go_wp2
    refine bodyPost_ret (v:=.int .i64 q) (by simp[results,Tryz.results7,go_sem]) rfl ?_;exact⟨⟨q,rfl,fun _=>h0⟩,hb⟩
 ·have PJ:(1048576 -(l.length:Int))<0:=by omega
  go_enter Tryz.func7,Tryz.ntmps7
  go_wp2
  refine bodyPost_ret (v:=.int .i64 (-1)) (by simp[results,Tryz.results7,go_sem]) rfl ?_;exact⟨⟨-1,rfl,fun q=>absurd q (by omega)⟩,bQ _ _⟩
end Go.Proofs.YtaahkgkdpnnhhaaGreat
namespace Go.Proofs.YtaahkgkdpnnhhaaGreat
open Go.ChangeShapes Go.WideShapes Go.ChangeAt Go.RowKit Go.Deep Go.Joins
variable{base:Nat}{H:Type}{enc:TypeId×Value→H}{w:World}
theorem aIU:Tryz.prog.cellsOf 53=4:=by kernel_rfl
theorem wB:Tryz.prog.cellsOf 2=1:=by kernel_rfl
theorem qQ:Tryz.prog.cellsOf 9=1:=by kernel_rfl
theorem zG{fuel:Nat}{cs:List Value}{y:DataW H×List MemPlace}(h:DataW.trod enc Tryz.prog w base (fun _=>true) true fuel 22 cs=some y):
  ∃a cap rs,cs=[.slice a (List.length rs) cap]∧rs.length≤9223372036854775807∧RdL w (.slice a rs.length cap) rs∧∀o∈rs,o.2.2.1.size≤9223372036854775807∧o.2.2.2.size≤9223372036854775807:=by
 rcases open_slice Tryz.underlying22 h with⟨g8,_⟩ | ⟨a,len,cap,m,n,D,Pl,rfl,hb,hl,hm,Ks,_,hx⟩
 ·exact⟨none,0,[],g8,by simp,⟨_,_,rfl,fun h=>by simp at h⟩,by simp⟩
 ·have CV:m=cap:=by simpa using Ks
  have each:∀i,i<len→∃p:TO,(p.2.2.1.size≤9223372036854775807∧p.2.2.2.size≤9223372036854775807)∧w.cell? (a.add (i*4))=some (.int .i64 p.1)∧w.cell? ((a.add (i*4)).add 1)=some (.int .i64 p.2.1)∧w.cell? ((a.add (i*4)).add 2)=some (.string p.2.2.1)∧w.cell? ((a.add (i*4)).add 3)=some (.string p.2.2.2):=fun i hi=>by
   obtain⟨cs',h1,h2⟩:=hx i (by omega);rw[aIU]at h1;obtain⟨_,ah,hc⟩:=World.cells?_some h1;match cs',ah with
   | [c0,c1,c2,c3],_=>
    obtain⟨y0,y1,y2,y3,k,_,_,e0,e1,e2,e3⟩:=trod_struct4 Tryz.underlying53 h2;have e0':DataW.trod enc Tryz.prog w base (fun _=>true) true k 2 [c0]=some y0:=by simpa [wB,qQ] using e0
    have e1':DataW.trod enc Tryz.prog w base (fun _=>true) true k 2 [c1]=some y1:=by simpa [wB,qQ] using e1
    have e2':DataW.trod enc Tryz.prog w base (fun _=>true) true k 9 [c2]=some y2:=by simpa [wB,qQ] using e2
    have e3':DataW.trod enc Tryz.prog w base (fun _=>true) true k 9 [c3]=some y3:=by simpa [wB,qQ] using e3
    obtain⟨q,hq,_,_⟩:=DataW.trod_int Tryz.underlying2 e0';obtain⟨q2,gp,_,_⟩:=DataW.trod_int Tryz.underlying2 e1';obtain⟨q3,qu,_,s3⟩:=DataW.trod_string Tryz.underlying9 e2';obtain⟨q4,Br,_,s4⟩:=DataW.trod_string Tryz.underlying9 e3';simp only[List.cons.injEq,and_true]at hq gp qu Br;subst hq gp qu Br;have c0':=hc 0 (by omega);have c1':=hc 1 (by omega);have c2':=hc 2 (by omega);have c3':=hc 3 (by omega);simp only[List.getElem?_cons_zero,List.getElem?_cons_succ,Addr.add_zero']at c0' c1' c2' c3';exact⟨(q,q2,q3,q4),⟨oY s3,oY s4⟩,c0',c1',c2',c3'⟩
  obtain⟨f,hf⟩:=choose_lt each;have bx:∀i,i<len→((List.range len).map f).getD i yO.z=f i:=fun i hi=>by simp[hi]
  have bd:((List.range len).map f).length=len:=by simp
  refine⟨some a,cap,(List.range len).map f,by rw[bd],by rw[bd];exact oY (by omega),⟨some a,cap,by rw[bd],fun hp=>?_⟩,fun o ho=>?_⟩
  ·rw[bd]at hp
   have kw:a.spot=none:=by
    obtain⟨_,e0,_⟩:=hf 0 hp;rw[Nat.zero_mul,Addr.add_zero']at e0;exact World.cell?_spot e0
   obtain⟨b,off,spot⟩:=a;simp only at kw;subst kw;refine⟨b,off,rfl,?_,fun i hi=>?_⟩
   ·obtain⟨_,e0,_⟩:=hf 0 hp
    rw[Nat.zero_mul,Addr.add_zero']at e0;exact World.block_lt_of_cell? _ _ e0
   ·rw[bd]at hi
    obtain⟨_,e0,e1,e2,e3⟩:=hf i hi;simp only[Addr.add_lit]at e0 e1 e2 e3;rw[bx i hi];exact⟨e0,e1,e2,e3⟩
  ·obtain⟨i,hi,rfl⟩:=List.mem_map.1 ho
   exact(hf i (List.mem_range.1 hi)).1
theorem aJT{b0:Nat}{r:Reach}{v:Value}{d:DataW H}{p:List MemPlace}(hv:Value.okWide Tryz.prog w r b0 22 v)(h:DataW.Trod enc Tryz.prog w base (fun _=>true) true 22 v d p):
  ∃a cap rs,v=.slice a (List.length rs) cap∧rs.length≤9223372036854775807∧RdL w v rs∧∀o∈rs,o.2.2.1.size≤9223372036854775807∧o.2.2.2.size≤9223372036854775807:=by
 obtain⟨a,len,cap,rfl⟩:=okWide_slice Tryz.underlying22 hv;obtain⟨fuel,hf⟩:=h;obtain⟨a',cap',ss,he,h1,h2,h3⟩:=zG hf;simp[Value.cells]at he;obtain⟨rfl,rfl,rfl⟩:=he;exact⟨a,cap,ss,rfl,h1,h2,h3⟩

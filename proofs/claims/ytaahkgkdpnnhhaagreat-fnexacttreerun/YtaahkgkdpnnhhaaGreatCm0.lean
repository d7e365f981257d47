import Derived.Test.YtaahkgkdpnnhhaaGreatSq1
import Derived.Test.YtaahkgkdpnnhhaaGreatPl2a
set_option maxHeartbeats 9999999
set_option maxRecDepth 99999
set_option linter.all false
namespace Go.Proofs.YtaahkgkdpnnhhaaGreat
open Go.RowKit Fo
theorem aDH{f:fZ}(h:Inv f):chk [f.cur,f.com]=0:=by
 have h8:=h.ic.n8;have h5:=h.ic.n512;have hl:=h.ic.len;have h0:∀b,b<2→cu f b=0:=fun b hb=>
  (h.ic.dom.dead b).1 (h.ic.two b hb)
 have c1:chk [f.cur]=0:=by
  rw[lV];have e1:inB f.cur.length 8 512=true:=by simp[inB];omega
  have e2:eQ f.cur=false:=oV 0 fun i hi=>by
   have hi2:=h.counts i;have e:inB (f.cur.getD i 0) 0 65535=true:=by
    unfold inB;unfold cu at hi2;simp only[Bool.and_eq_true,decide_eq_true_eq];omega
   rw[e];rfl
  have e3:fL f.cur=false:=by
   have a:=h0 0 (by omega);have b:=h0 1 (by omega);unfold cu at a b;unfold fL;rw[a,b];rfl
  simp[e1,e2,e3]
 have c2:chk [f.com]=0:=by
  rw[lV];have e1:inB f.com.length 8 512=true:=by simp[inB];omega
  have e2:eQ f.com=false:=oV 0 fun i hi=>by
   have hi2:=h.cmr i;have e:inB (f.com.getD i 0) 0 65535=true:=by
    unfold inB;unfold co at hi2;simp only[Bool.and_eq_true,decide_eq_true_eq];omega
   rw[e];rfl
  have e3:fL f.com=false:=by
   have a:=h.cm0 0 (by omega);have b:=h.cm0 1 (by omega);unfold co at a b;unfold fL;rw[a,b];rfl
  simp[e1,e2,e3]
 rw[aCO _ _ hl.symm];simp[c1,c2]
theorem qY{zs ys:List Int}:∀x∈plP zs ys,2≤x∧x<zs.length:=fun x hx=>by
 obtain⟨b,_,rfl⟩:=List.mem_map.1 hx;have:=b.2;omega
def cP(f:fZ):fZ×An:=
 if 1099511627776≤f.gen then(f,4,0,.empty)else
 if plC f.cur f.com≠0 then(f,plC f.cur f.com,0,.empty)else
 (dM f (plP f.cur f.com),0,(dY f:Int)+((plP f.cur f.com).length:Int),.empty)
structure aCJ(f g:fZ):Prop where
 inv:Inv g
 ve:VE g
 cur:g.cur.length=f.cur.length
theorem aGK{f:fZ}(h:Inv f)(hV:VE f):aCJ f (cP f).1:=by
 unfold cP;split
 ·exact⟨h,hV,rfl⟩
 ·split
  ·exact⟨h,hV,rfl⟩
  ·exact⟨h.settle (fun x hx=>(qY x hx).1) (by omega),aEY hV _,rfl⟩
end Go.Proofs.YtaahkgkdpnnhhaaGreat
namespace Go.Proofs.YtaahkgkdpnnhhaaGreat
open Go.RowKit Go.Shelf Fo
def cdM(f:fZ):Int:=if 1099511627776≤f.gen then 4 else plC f.cur f.com
theorem aJS{f:fZ}(h:cdM f≠0):cP f=(f,cdM f,0,.empty):=by
 unfold cP;unfold cdM at h ⊢;split
 ·rfl
 ·rename_i q
  rw[if_neg q]at h;rw[if_pos h]
theorem aFW{f:fZ}(h:cdM f=0):cP f=(dM f (plP f.cur f.com),0,(dY f:Int)+((plP f.cur f.com).length:Int),.empty)∧f.gen<1099511627776:=by
 unfold cP;unfold cdM at h;split
 ·rename_i q
  rw[if_pos q]at h;omega
 ·rename_i q
  rw[if_neg q]at h;rw[if_neg (by simp[h])];exact⟨rfl,by omega⟩
structure PcP(w:World)(f:fZ)(e:Ending)(w':World):Prop where
 ex:∃a0 n0 c0 a1 n1 c1 a2 n2 c2,e=.returned (.tuple #[.agg #[.slice a0 n0 c0,.slice a1 n1 c1,.slice a2 n2 c2],.int .i64 (cdM f)])∧(cdM f≠0→n0=0∧n1=0)∧(cdM f=0→n0=dY f∧n1=(plP f.cur f.com).length∧∃lo hi,w.heap.size≤lo∧aY lo hi w' (.slice a1 n1 c1) (plP f.cur f.com))
 bel:Bl w w'
theorem PcP.bad{w w':World}{f:fZ}{c:Int}(hc:cdM f=c)(h0:c≠0)(hb:Bl w w'):PcP w f (.returned (.tuple #[.agg #[.slice none 0 0,.slice none 0 0,.slice none 0 0],.int .i64 c])) w':=
 ⟨⟨none,0,0,none,0,0,none,0,0,by rw[hc],fun _=>⟨rfl,rfl⟩,fun q=>absurd (hc.symm.trans q) h0⟩,hb⟩
theorem aIL(W:World):(Instr.build 161 #[]).run Tryz.prog W=.ok (.agg #[.slice none 0 0,.slice none 0 0,.slice none 0 0]) W:=by kernel_rfl
theorem aKA(W:World)(a0 a1 a2:Option Addr)(n0 n1 n2 c0 c1 c2:Nat):(Instr.build 161 #[(0,.slice a0 n0 c0),(1,.slice a1 n1 c1),(2,.slice a2 n2 c2)]).run Tryz.prog W=.ok (.agg #[.slice a0 n0 c0,.slice a1 n1 c1,.slice a2 n2 c2]) W:=by kernel_rfl
theorem uH(w:World)(ρ:Nat→Nat)(P:Nat)(A:Adr)(f:fZ)(J:List aR)(h:St w ρ P A f J)(hI:Inv f):
  Calls Tryz.prog 128 #[.pointer (some ⟨P,0,none⟩)] w (PcP w f):=by
 have hb0:=aIL;have hb3:=aKA;have hz:=hI.sz;obtain⟨rb,hrb⟩:=eZ (w.heap.size);obtain⟨w1,hw1⟩:=eZ (w.alloc (.cells #[.slice none 0 0,.slice none 0 0,.slice none 0 0] 161));have B1:=bAl hw1;have c1:=iNw hw1 hrb;have hS1:=h.below B1;obtain⟨_,_,_,hR1,_⟩:=id hS1;have g2:w1.cell? ⟨P,2,none⟩=some (.int .i64 f.gen):=by rw[hR1.hP.cell];rfl
 obtain⟨m3,m4,m5,m7⟩:=hR1.cells;have hn1:∀w:World,IsC w A.c (cY f.cur) 2→Nts w (.slice (some ⟨A.c,0,none⟩) f.cur.length f.cur.length) f.cur:=fun w h=>by
  have:=lQ (ys:=[]) (by simpa using h:IsC w A.c (cY (f.cur++[])) 2) (fun i=>by have:=hz.cb i;unfold cu at this;omega)
  simpa using this
 have hn2:∀w:World,IsC w A.d (jE f.com A.dj) 2→Nts w (.slice (some ⟨A.d,0,none⟩) f.com.length (f.com.length+A.dj.length)) f.com:=fun w h=>wU h (fun i=>by have:=hz.mb i;unfold co at this;omega);have e0:w1.cell? ⟨rb,0,none⟩=some (.slice none 0 0):=c1.c rfl;have e1:w1.cell? ⟨rb,1,none⟩=some (.slice none 0 0):=c1.c rfl;have e2:w1.cell? ⟨rb,2,none⟩=some (.slice none 0 0):=c1.c rfl;have q0:=c1.frozen 0;have q1:=c1.frozen 1;have q2:=c1.frozen 2;have HF:Hid (∀(w8 w9:World),Bl w w8→Frm (fun x=>x=rb) w8 w9→Bl w w9):=fun w8 w9 hb hF=>hb.trans (hF.below hb.size fun g e=>by rw[e];omega);have hchk:=aDH hI;by_cases hg:1099511627776≤f.gen
 ·have HC:Hid (cdM f=4):=by unfold cdM;rw[if_pos hg];rfl
  go_enter Tryz.func128,Tryz.ntmps128
  go_wp2
  refine bodyPost_ret (v:=.tuple #[.agg #[.slice none 0 0,.slice none 0 0,.slice none 0 0],.int .i64 4]) (by simp[results,Tryz.results128,Tryz.f128,go_sem,e0,e1,e2];try rfl) rfl ?_;exact .bad HC.out (by omega) (HF.out _ _ B1 (fA _ _ _ _ _))
 ·have HC:Hid (cdM f=plC f.cur f.com):=by unfold cdM;rw[if_neg hg];rfl
  go_enter Tryz.func128,Tryz.ntmps128
  go_wp2
  go_region_held3 (fun w'=>w'.cell? ⟨P,4,none⟩=some (.slice (some ⟨A.c,0,none⟩) f.cur.length f.cur.length)∧w'.cell? ⟨P,5,none⟩=some (.slice (some ⟨A.d,0,none⟩) f.com.length (f.com.length+A.dj.length))) (first | go_keep | exact⟨m4,m5⟩ | exact⟨(hB.cell (p:=⟨P,4,none⟩) hR1.hP.lt).trans m4,(hB.cell (p:=⟨P,5,none⟩) hR1.hP.lt).trans m5⟩) ((go_at_call 146;refine(wQ _ _ _ _ f.cur f.com _ (hn1 _ ?_) (hn2 _ ?_) hchk).mono ?_;exact hR1.hc;exact hR1.hd;rintro e w2 ⟨u,v,rfl,hU,hV,hB0⟩;have hB:Bl w1 w2:=(bQ w1.heap.size w1).drew.trans hB0))
  have B2:=B1.trans (hB.mono B1.size);have d1:=c1.of (hB.block _ c1.lt);obtain⟨ua,uc,rfl⟩:=hU.shape;obtain⟨va,vc,rfl⟩:=hV.shape;have hOU:aY w1.heap.size w2.heap.size w2 (.slice ua (plP f.cur f.com).length uc) (plP f.cur f.com):=hU.own (fun i=>by
   by_cases hi:i <(plP f.cur f.com).length
   ·have:=qY (zs:=f.cur) (ys:=f.com) ((plP f.cur f.com).getD i 0) (by rw[gD,gE hi];exact List.getElem_mem hi)
    have:=hI.ic.n512
    omega
   ·rw[gD,List.getElem?_eq_none (by omega)];simp)
  have HOU:=aA hOU;have HP:Hid (plP f.cur f.com=plP f.cur f.com):=rfl;obtain⟨pc,hpc⟩:=eZ (plC f.cur f.com);obtain⟨pl,hpl⟩:=eZ ((plP f.cur f.com).length);obtain⟨rl,hrl⟩:=eZ ((plR f.cur f.com).length);have HPL:=aA hpl;rw[hpc]at HC;rw[hpl]at HOU;rw[hpc,hpl,hrl];have hS2:=h.below B2;clear hU hV hOU hB0 e0 e1 e2 q0 q1 q2 hpc hpl hrl;by_cases hc:pc=0
  ·subst hc
   go_wp2_with fail
   refine(aFT w2 ρ P A f J hS2 hI).mono ?_;rintro e w3 ⟨da,dc,rfl,hB3⟩;have B3:=B2.trans (hB3.mono B2.size);have d3:=d1.of (hB3.block _ d1.lt);have e0:w3.cell? ⟨rb,0,none⟩=some (.slice none 0 0):=d3.c rfl;have e1:w3.cell? ⟨rb,1,none⟩=some (.slice none 0 0):=d3.c rfl;have e2:w3.cell? ⟨rb,2,none⟩=some (.slice none 0 0):=d3.c rfl;have q0:=d3.frozen 0;have q1:=d3.frozen 1;have q2:=d3.frozen 2;have HO3:=aA (HOU.out.below hB3);go_wp2;refine bodyPost_ret (v:=.tuple #[.agg #[.slice da (dY f) dc,.slice ua pl uc,.slice va rl vc],.int .i64 0]) (by simp[results,Tryz.results128,Tryz.f128,go_sem,e0,e1,e2];try rfl) rfl ?_;refine⟨⟨da,dY f,dc,ua,pl,uc,va,rl,vc,by rw[HC.out],fun q=>absurd HC.out q,fun _=>⟨rfl,HPL.out.symm,w1.heap.size,w2.heap.size,B1.size,?_⟩⟩,HF.out _ _ B3 (fA _ _ _ _ _)⟩;have F3:=fA w3 rb (.slice da (dY f) dc) (.slice ua pl uc) (.slice va rl vc);exact HO3.out.kept F3.size (fun b hb1 hb2 hb3=>F3.block b hb3 (fun e=>by rw[e]at hb1;have:=c1.lt;omega))
  ·have e0:w2.cell? ⟨rb,0,none⟩=some (.slice none 0 0):=d1.c rfl
   have e1:w2.cell? ⟨rb,1,none⟩=some (.slice none 0 0):=d1.c rfl;have e2:w2.cell? ⟨rb,2,none⟩=some (.slice none 0 0):=d1.c rfl;have q0:=d1.frozen 0;have q1:=d1.frozen 1;have q2:=d1.frozen 2;go_wp2;refine bodyPost_ret (v:=.tuple #[.agg #[.slice none 0 0,.slice none 0 0,.slice none 0 0],.int .i64 pc]) (by simp[results,Tryz.results128,Tryz.f128,go_sem,e0,e1,e2];try rfl) rfl ?_;exact .bad HC.out hc (HF.out _ _ B2 (fA _ _ _ _ _))
theorem dD.isC{base:Nat}{w:World}{u:Value}{zs:List Int}(h:dD base w u zs)(hp:0<zs.length):∃g dj,u=.slice (some ⟨g,0,none⟩) zs.length (zs.length+dj.length)∧base≤g∧IsC w g (jE zs dj) 2∧zs.length+dj.length≤maxLen:=by
 obtain⟨_,h1 | ⟨g,cap,cur,rfl,h2,h3,h4,h5,h6,h7⟩⟩:=h
 ·omega
 ·rw[Nat.mul_one]at h6 h7
  have hl:(cur.toList.drop zs.length).length=cap-zs.length:=by simp[h6]
  refine⟨g,cur.toList.drop zs.length,by rw[hl];congr 1;omega,h2,?_,by rw[hl];omega⟩;have e:jE zs (cur.toList.drop zs.length)=cur:=by
   unfold jE;rw[←h7,List.take_append_drop]
  rw[e];exact h3
theorem aAE(c p:List Int)(j:Nat)(h:j<p.length):bF c (p.take (j+1))=(bF c (p.take j)).set (p.getD j 0).toNat 1:=by
 rw[List.take_succ_eq_append_getElem h];unfold bF;rw[List.foldl_append];simp[gD,h]
structure SeP(w:World)(ρ:Nat→Nat)(P:Nat)(f:fZ)(p:List Int)(J:List aR)(e:Ending)(w':World):Prop where
 e:e=.returned (.tuple #[])
 ex:∃ρ' A',St w' ρ' P A' (dM f p) J∧∀x,x<w.heap.size→ρ x=0→ρ' x=0
 frm:Frm (fun k=>ρ k≠0) w w'
theorem aFK(w:World)(ρ:Nat→Nat)(P:Nat)(A:Adr)(f:fZ)(J:List aR)(h:St w ρ P A f J)(hI:Inv f)(hg:f.gen<1099511627776)(p:List Int)(hp:∀x∈p,2≤x∧x<f.cur.length)(hpl:p.length≤512)(s0 s2:Value)(a1:Option Addr)(c1:Nat)(lo hi:Nat)(hO:aY lo hi w (.slice a1 p.length c1) p)(hlo:∀x,lo≤x→ρ x=0)(h1:s0.oneCell'=true∧s2.oneCell'=true):
  Calls Tryz.prog 129 #[.pointer (some ⟨P,0,none⟩),.agg #[s0,.slice a1 p.length c1,s2]] w (SeP w ρ P f p J):=by
 have hz:=hI.sz;obtain⟨pb,hpb⟩:=eZ (w.heap.size);obtain⟨w1,hw1⟩:=eZ (w.alloc (.cells #[s0,.slice a1 p.length c1,s2] 161));have B1:=bAl hw1;have k1:=iNw hw1 hpb;have hS1:=h.below B1;obtain⟨_,_,_,hR1,_⟩:=id hS1;obtain⟨m3,m4,m5,m7⟩:=hR1.cells;have hn1:Nts w1 (.slice (some ⟨A.c,0,none⟩) f.cur.length f.cur.length) f.cur:=by
  have:=lQ (ys:=[]) (by simpa using hR1.hc:IsC w1 A.c (cY (f.cur++[])) 2) (fun i=>by have:=hz.cb i;unfold cu at this;omega)
  simpa using this
 have h8:=hI.ic.n8;have h5:=hI.ic.n512;go_enter Tryz.func129,Tryz.ntmps129;go_wp2_with fail;refine(pJ _ _ f.cur w1 (by omega) (by omega) hn1).mono ?_;rintro e w2 ⟨u,rfl,hU,hB2⟩;obtain⟨g,dj,rfl,hgs,hgI,hgm⟩:=hU.isC (by omega);have B2:=B1.trans (hB2.mono B1.size);obtain⟨hS3,hF3⟩:=h.setCom (com:=f.cur) B2 hgI (lT B1.size hgs) hgm;have hS2:=h.below B2;obtain⟨_,_,_,hR2,_⟩:=id hS2;have k2:=k1.of (hB2.block _ k1.lt);have t5:w2.cell? ⟨P,5,none⟩=some (.slice (some ⟨A.d,0,none⟩) f.com.length (f.com.length+A.dj.length)):=by rw[hR2.hP.cell];rfl
 have z5:=hR2.hP.frozen 5;obtain⟨w3,hw3⟩:=eZ (w2.setCell ⟨P,5,none⟩ (.slice (some ⟨g,0,none⟩) f.cur.length (f.cur.length+dj.length)));rw[hw3]at hS3 hF3;have hrP:ρ P=1:=hR2.rP;have hrb:ρ pb=0:=h.no0 (Nat.le_of_eq hpb);have k3:IsC w3 pb #[s0,.slice a1 p.length c1,s2] 161:=by rw[←hw3];exact k2.set_ne _ (fun e=>by rw[e,hrP]at hrb;omega)
 have b1:w3.cell? ⟨pb,1,none⟩=some (.slice a1 p.length c1):=k3.c rfl;have HO3:Hid (∀wr:World,Frm (fun x=>x=g) w3 wr→∀k,k<p.length→∃b off,a1=some ⟨b,off,none⟩∧wr.cell? ⟨b,off+k,none⟩=some (.int .i64 (p.getD k 0))):=fun wr hF k hk=>by
  have hq:=hO.kept (w':=wr) (lT hF3.size hF.size) (fun b hb1 hb2 hb3=>by
   refine(hF.block b (lL hb3 hF3.size) (fun e=>?_)).trans (hF3.block b hb3 (fun q=>q (hlo b hb1)));have:=B1.size;omega)
  obtain⟨_,_,he,hs⟩:=hq.shape;simp only[Value.slice.injEq,true_and]at he;obtain⟨rfl,rfl⟩:=he;obtain⟨b,off,rfl,_,_,_,hc⟩:=hs (by omega);exact⟨b,off,rfl,(hc k hk).1⟩
 have HPP:=aA hp;have hpg:pb≠g:=by have:=k1.lt;omega
 have HK3:=aA k3;have HF3:=aA hF3;have HRL:Hid (∀x,x<w.heap.size→ρ x=0→tT ρ g x=0):=fun x hx h0=>by
  unfold tT;rw[if_neg (by have:=B1.size;omega)];exact h0
 clear hn1 m3 m4 m5 m7 k1 k2 k3 hU hgI hO hF3 hp hR1 hS1;go_wp2;go_loopw [17,5] (fun i _ wr=>∃k:Nat,k≤p.length∧i=.int .i64 k∧St wr (tT ρ g) P {A with d:=g,dj:=dj} {f with com:=bF f.cur (p.take k)} J∧Frm (fun x=>x=g) w3 wr) (fun i _ _=>p.length -(intOf i).toNat)
 case atStart=>exact⟨0,by omega,rfl,by simpa [bF] using hS3,Frm.refl _ _⟩
 case round=>
  obtain⟨k,hk,rfl,hS4,hF4⟩:=hrel;obtain⟨_,_,_,hR4,_⟩:=id hS4;by_cases hlt:k<p.length
  ·obtain⟨b,off,rfl,x0⟩:=HO3.out wr hF4 k hlt
   have hki:(k:Int) <(p.length:Int):=by omega
   have hpm:p.getD k 0∈p:=by rw[gD,gE hlt];exact List.getElem_mem hlt
   have hpb:=HPP.out _ hpm;have HNX:=aA (aAE f.cur p k hlt);obtain⟨bb,hbb⟩:∃bb:Nat,p.getD k 0=(bb:Int):=⟨(p.getD k 0).toNat,by omega⟩;rw[hbb]at x0 hpb HNX;simp only[Int.toNat_natCast]at HNX;have hcl:(bF f.cur (p.take k)).length=f.cur.length:=iU _ _;have y5:wr.cell? ⟨P,5,none⟩=some (.slice (some ⟨g,0,none⟩) f.cur.length (f.cur.length+dj.length)):=by rw[hR4.hP.cell];simp[dC,hcl]
   obtain⟨hS5,hF5⟩:=hS4.setComAt (b:=bb) 1 (by show bb <(bF f.cur (p.take k)).length;rw[hcl];omega);have yb:wr.cell? ⟨g,bb,none⟩=some (.int .i64 ((bF f.cur (p.take k)).getD bb 0)):=by
    rw[hR4.hd.cell];simp[jE,List.getElem?_append,hcl,show bb<f.cur.length by omega]
   have zb:wr.frozen? ⟨g,bb,none⟩=false:=hR4.hd.frozen bb;have hbi:(bb:Int) <(f.cur.length:Int):=by omega
   have HS5:Hid (St (wr.setCell ⟨g,bb,none⟩ (.int .i64 1)) (tT ρ g) P {A with d:=g,dj:=dj} {f with com:=bF f.cur (p.take (k+1))} J):=by
    rw[HNX.out];exact hS5
   have HF5:=aA hF5;generalize (bF f.cur (p.take k)).getD bb 0=cv at *;clear hS4 hR4 hS5 hF5 hpm hbb hcl HNX hS3 hS2 hR2;go_wp2;go_roundw
   case rel=>exact⟨k+1,by omega,by go_num,HS5.out,hF4.trans HF5.out⟩
   case measure=>simp[intOf];omega
  ·obtain rfl:k=p.length:=by omega
   rw[List.take_of_length_le (nR _)]at hS4;have b2:wr.cell? ⟨pb,1,none⟩=some (.slice a1 p.length c1):=by
    have:=HK3.out.frm hF4 (fun e=>hpg e)
    rw[this.cell];rfl
   have y6:wr.cell? ⟨P,6,none⟩=some A.tv:=by rw[hR4.hP.cell];rfl
   have z6:=hR4.hP.frozen 6;obtain⟨hS5,hF5⟩:=hS4.setTab (.slice a1 p.length c1) p;obtain⟨w5,hw5⟩:=eZ (wr.setCell ⟨P,6,none⟩ (.slice a1 p.length c1));rw[hw5]at hS5 hF5;obtain⟨_,_,_,hR5,_⟩:=id hS5;have y2:w5.cell? ⟨P,2,none⟩=some (.int .i64 f.gen):=by rw[hR5.hP.cell];rfl
   have z2:=hR5.hP.frozen 2;obtain⟨hS6,hM6⟩:=hS5.setNum (i:=2) (v:=f.gen+1) (f':=dM f p) ⟨rfl,rfl,rfl,rfl⟩ (fun jv=>by simp[dC,dM]);have HS6:=aA hS6;have HFF:Hid (Frm (fun k=>ρ k≠0) w (w5.setCell ⟨P,2,none⟩ (.int .i64 (f.gen+1)))):=by
    have F1:Frm (fun k=>ρ k≠0) w wr:=HF3.out.next hF4 (fun x hx q=>by have:=B1.size;omega);have F2:Frm (fun k=>ρ k≠0) w w5:=F1.next hF5 (fun x hx q=>by rw[q,hrP];omega);exact F2.next (Frm.set (S:=fun x=>x=P) w5 (p:=⟨P,2,none⟩) rfl _) (fun x hx q=>by rw[q,hrP];omega)
   have hgn:=hI.gn;clear hS4 hR4 hS5 hF5 hS6 hM6 hR5 hS3 hS2 hR2 HO3;go_wp2;go_end0;exact⟨rfl,⟨_,_,HS6.out,HRL.out⟩,HFF.out⟩
theorem wR(a0 a1 a2:Option Addr)(n0 n1 n2 c0 c1 c2:Nat)(h0:n0≤512)(h1:n1≤512)(w:World):
  Calls Tryz.prog 106 #[.agg #[.slice a0 n0 c0,.slice a1 n1 c1,.slice a2 n2 c2]] w fun e w'=>e=.returned (.int .i64 ((n0:Int)+(n1:Int)))∧Bl w w':=by
 obtain⟨pb,hpb⟩:=eZ (w.heap.size);obtain⟨w1,hw1⟩:=eZ (w.alloc (.cells #[.slice a0 n0 c0,.slice a1 n1 c1,.slice a2 n2 c2] 161));have B1:=bAl hw1;have k1:=iNw hw1 hpb;have e0:w1.cell? ⟨pb,0,none⟩=some (.slice a0 n0 c0):=k1.c rfl;have e1:w1.cell? ⟨pb,1,none⟩=some (.slice a1 n1 c1):=k1.c rfl;go_enter Tryz.func106,Tryz.ntmps106;go_wp2;go_ret;exact⟨by go_num,B1⟩
structure CoP(w:World)(ρ:Nat→Nat)(P:Nat)(f:fZ)(e:Ending)(w':World):Prop where
 ex:∃a0 n0 c0 a1 n1 c1 a2 n2 c2,e=.returned (.tuple #[.agg #[.slice a0 n0 c0,.slice a1 n1 c1,.slice a2 n2 c2],.int .i64 (cP f).2.1])∧((n0:Int)+(n1:Int))=(cP f).2.2.1∧n0≤512∧n1≤512
 st:∃ρ' A' J',St w' ρ' P A' (cP f).1 J'∧∀x,x<w.heap.size→ρ x=0→ρ' x=0
 frm:Frm (fun k=>ρ k≠0) w w'
theorem aEP(w:World)(ρ:Nat→Nat)(P:Nat)(A:Adr)(f:fZ)(J:List aR)(h:St w ρ P A f J)(hI:Inv f):
  Calls Tryz.prog 105 #[.pointer (some ⟨P,0,none⟩)] w (CoP w ρ P f):=by
 obtain⟨rb,hrb⟩:=eZ (w.heap.size);obtain⟨w1,hw1⟩:=eZ (w.alloc (.cells #[.slice none 0 0,.slice none 0 0,.slice none 0 0] 161));have B1:=bAl hw1;have k1:=iNw hw1 hrb;have hS1:=h.below B1;go_enter Tryz.func105,Tryz.ntmps105;go_wp2_with fail;refine(uH w1 ρ P A f J hS1 hI).mono ?_;rintro e w2 ⟨⟨a0,n0,c0,a1,n1,c1,a2,n2,c2,rfl,hno,hyes⟩,hB2⟩;have B2:=B1.trans (hB2.mono B1.size);obtain⟨pb,hpb⟩:=eZ (w2.heap.size);obtain⟨w3,hw3⟩:=eZ (w2.alloc (.cells #[.slice a0 n0 c0,.slice a1 n1 c1,.slice a2 n2 c2] 161));have hB3:=bAl hw3;have B3:=B2.trans (hB3.mono B2.size);have k3:=iNw hw3 hpb;have d3:IsC w3 rb #[.slice none 0 0,.slice none 0 0,.slice none 0 0] 161:=k1.of ((hB3.block _ (lL k1.lt hB2.size)).trans (hB2.block _ k1.lt));have hS3:=h.below B3;have hrr:ρ rb=0:=h.no0 (Nat.le_of_eq hrb);have hrp:ρ pb=0:=h.no0 (by rw[←hpb];exact B2.size);have hne:pb≠rb:=by have:=k1.lt;have:=hB2.size;omega
 have x0:w3.cell? ⟨pb,0,none⟩=some (.slice a0 n0 c0):=k3.c rfl;have x1:w3.cell? ⟨pb,1,none⟩=some (.slice a1 n1 c1):=k3.c rfl;have x2:w3.cell? ⟨pb,2,none⟩=some (.slice a2 n2 c2):=k3.c rfl;have HFN:Hid (∀(g:fZ) (ρ':Nat→Nat) (A':Adr) (J':List aR) (w8 w9:World),cP f=(g,(cP f).2)→((n0:Int)+(n1:Int))=(cP f).2.2.1→n0≤512→n1≤512→St w8 ρ' P A' g J'→(∀x,x<w3.heap.size→ρ x=0→ρ' x=0)→Frm (fun k=>ρ k≠0) w3 w8→Frm (fun x=>x=rb) w8 w9→CoP w ρ P f (.returned (.tuple #[.agg #[.slice a0 n0 c0,.slice a1 n1 c1,.slice a2 n2 c2],.int .i64 (cP f).2.1])) w9):=fun g ρ' A' J' w8 w9 hg hv h0 h1 hS hrol hF8 hF9=>by
  have hr9:ρ' rb=0:=hrol rb (lL k1.lt (lT hB2.size hB3.size)) hrr;have e:(cP f).1=g:=by rw[hg]
  exact⟨⟨a0,n0,c0,a1,n1,c1,a2,n2,c2,rfl,hv,h0,h1⟩,⟨ρ',A',J',by rw[e];exact hS.frm (hF9.wide fun x _ q=>by rw[q];exact hr9),fun x hx h0=>hrol x (lL hx B3.size) h0⟩,((Frm.of_below B3).trans hF8).next hF9 fun x hx q=>absurd q (by omega)⟩
 by_cases hc:cdM f=0
 ·obtain⟨hn0,hn1,lo,hi,hlo,hO⟩:=hyes hc
  obtain⟨hcm,hgn⟩:=aFW hc;have HCM:=aA hcm;have HCE:Hid ((cP f).2.1=0):=by rw[hcm];rfl
  have hp5:=sP f.cur f.com;subst hn1;have hO3:=hO.below hB3;have HSE:=aA (aFK w3 ρ P A f J hS3 hI hgn (plP f.cur f.com) (fun x hx=>qY x hx) hp5 (.slice a0 n0 c0) (.slice a2 n2 c2) a1 c1 lo hi hO3 (fun x hx=>h.no0 (by have:=B1.size;omega)) ⟨rfl,rfl⟩);have hd5:n0≤512:=by have:=vS f;have:=hI.ic.n512;omega
  have HV:Hid (((n0:Int)+((plP f.cur f.com).length:Int))=(cP f).2.2.1):=by rw[hcm,hn0];rfl
  rw[hc];obtain⟨m,hm⟩:=eZ ((plP f.cur f.com).length);rw[hm]at HSE HV HFN x1 k3 hp5 hw3;rw[hm];clear hno hyes hO hO3 hcm hm hn0;go_wp2_with fail;refine HSE.out.mono ?_;rintro e w4 ⟨rfl,⟨ρ4,A4,hS4,hrol⟩,hF4⟩;have k4:=k3.frm hF4 (fun q=>q hrp);have d4:=d3.frm hF4 (fun q=>q hrr);have y0:w4.cell? ⟨pb,0,none⟩=some (.slice a0 n0 c0):=k4.c rfl;have y1:w4.cell? ⟨pb,1,none⟩=some (.slice a1 m c1):=k4.c rfl;have y2:w4.cell? ⟨pb,2,none⟩=some (.slice a2 n2 c2):=k4.c rfl;have e0:w4.cell? ⟨rb,0,none⟩=some (.slice none 0 0):=d4.c rfl;have e1:w4.cell? ⟨rb,1,none⟩=some (.slice none 0 0):=d4.c rfl;have e2:w4.cell? ⟨rb,2,none⟩=some (.slice none 0 0):=d4.c rfl;have q0:=d4.frozen 0;have q1:=d4.frozen 1;have q2:=d4.frozen 2;clear k3 k4 d3 d4 x0 x1 x2;go_wp2;refine bodyPost_ret (v:=.tuple #[.agg #[.slice a0 n0 c0,.slice a1 m c1,.slice a2 n2 c2],.int .i64 0]) (by simp[results,Tryz.results105,Tryz.f105,go_sem,e0,e1,e2];try rfl) rfl ?_;have:=HFN.out _ ρ4 A4 J w4 _ (by rw[HCM.out]) HV.out hd5 hp5 hS4 hrol hF4 (fA w4 rb (.slice a0 n0 c0) (.slice a1 m c1) (.slice a2 n2 c2));rw[HCE.out]at this;exact this
 ·obtain⟨rfl,rfl⟩:=hno hc
  have hcm:=aJS hc;have HCM:=aA hcm;have HCE:Hid ((cP f).2.1=cdM f):=by rw[hcm];rfl
  obtain⟨c,hcc⟩:=eZ (cdM f);rw[hcc]at hc HCE HCM;rw[hcc];have e0:w3.cell? ⟨rb,0,none⟩=some (.slice none 0 0):=d3.c rfl;have e1:w3.cell? ⟨rb,1,none⟩=some (.slice none 0 0):=d3.c rfl;have e2:w3.cell? ⟨rb,2,none⟩=some (.slice none 0 0):=d3.c rfl;have q0:=d3.frozen 0;have q1:=d3.frozen 1;have q2:=d3.frozen 2;clear hno hyes hcm hcc k3 d3;go_wp2;refine bodyPost_ret (v:=.tuple #[.agg #[.slice a0 0 c0,.slice a1 0 c1,.slice a2 n2 c2],.int .i64 c]) (by simp[results,Tryz.results105,Tryz.f105,go_sem,e0,e1,e2];try rfl) rfl ?_;have:=HFN.out f ρ A J w3 _ (by rw[HCM.out]) (by rw[HCM.out];rfl) (by omega) (by omega) hS3 (fun _ _ q=>q) (Frm.refl _ _) (fA w3 rb (.slice a0 0 c0) (.slice a1 0 c1) (.slice a2 n2 c2));rw[HCE.out]at this;exact this
theorem buildA01(W:World)(c v:Int):(Instr.build 92 #[(0,.int .i64 c),(1,.int .i64 v)]).run Tryz.prog W=.ok (.agg #[.int .i64 c,.int .i64 v,.string .empty]) W:=by kernel_rfl
theorem zO(w:World)(ρ:Nat→Nat)(P:Nat)(A:Adr)(f:fZ)(J:List aR)(h:St w ρ P A f J)(hI:Inv f):
  Calls Tryz.prog 77 #[.pointer (some ⟨P,0,none⟩)] w (DoP w ρ P (cP f)):=by
 have hb0:=buildA01;obtain⟨rb,hrb⟩:=eZ (w.heap.size);obtain⟨w1,hw1⟩:=eZ (w.alloc (.cells #[.int .i64 0,.int .i64 0,.string {data:=#[]}] 92));have B1:=bAl hw1;have k1:=iNw hw1 hrb;have hS1:=h.below B1;have hrr:ρ rb=0:=h.no0 (Nat.le_of_eq hrb);go_enter Tryz.func77,Tryz.ntmps77;go_wp2_with fail;refine(aEP w1 ρ P A f J hS1 hI).mono ?_;rintro e w2 ⟨⟨a0,n0,c0,a1,n1,c1,a2,n2,c2,rfl,hv,h0,h1⟩,⟨ρ2,A2,J2,hS2,hrol⟩,hF2⟩;have k2:=k1.frm hF2 (fun q=>q hrr);obtain⟨pb,hpb⟩:=eZ (w2.heap.size);obtain⟨w3,hw3⟩:=eZ (w2.alloc (.cells #[.slice a0 n0 c0,.slice a1 n1 c1,.slice a2 n2 c2] 161));have hB3:=bAl hw3;have k3:=iNw hw3 hpb;have x0:w3.cell? ⟨pb,0,none⟩=some (.slice a0 n0 c0):=k3.c rfl;have x1:w3.cell? ⟨pb,1,none⟩=some (.slice a1 n1 c1):=k3.c rfl;have x2:w3.cell? ⟨pb,2,none⟩=some (.slice a2 n2 c2):=k3.c rfl;obtain⟨cd,hcd⟩:=eZ ((cP f).2.1);have HAN:Hid (cP f=((cP f).1,cd,(n0:Int)+(n1:Int),.empty)):=by
  rw[←hcd,hv];show cP f=((cP f).1,(cP f).2.1,(cP f).2.2.1,.empty)
  have:(cP f).2.2.2=ByteArray.empty:=by unfold cP;split;rfl;split<;>rfl
  rw[←this]
 rw[hcd];clear hv hcd;go_wp2_with fail;refine(wR a0 a1 a2 n0 n1 n2 c0 c1 c2 h0 h1 w3).mono ?_;rintro e w4 ⟨rfl,hB4⟩;have hB24:=hB3.trans (hB4.mono hB3.size);have k4:=k2.of (hB24.block _ k2.lt);have e0:w4.cell? ⟨rb,0,none⟩=some (.int .i64 0):=k4.c rfl;have e1:w4.cell? ⟨rb,1,none⟩=some (.int .i64 0):=k4.c rfl;have e2:w4.cell? ⟨rb,2,none⟩=some (.string {data:=#[]}):=k4.c rfl;have q0:=k4.frozen 0;have q1:=k4.frozen 1;have q2:=k4.frozen 2;clear k3 x0 x1 x2 k4;go_wp2;refine bodyPost_ret (v:=bO (cd,(n0:Int)+(n1:Int),.empty)) (by simp[bO,results,Tryz.results77,go_sem,e0,e1,e2];try rfl) rfl ?_;have F9:=fA w4 rb (.int .i64 cd) (.int .i64 ((n0:Int)+(n1:Int))) (.string .empty);have hS4:=hS2.below hB24;refine⟨by rw[HAN.out],ρ2,A2,J2,hS4.frm (F9.wide fun x _ q=>by rw[q];exact hrol rb k1.lt hrr),?_,fun x hx h0=>hrol x (lL hx B1.size) h0⟩;exact(((Frm.of_below B1).trans hF2).trans (Frm.of_below hB24)).next F9 fun x hx q=>absurd q (by omega)

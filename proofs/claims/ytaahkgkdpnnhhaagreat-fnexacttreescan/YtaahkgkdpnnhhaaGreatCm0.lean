import Derived.Test.YtaahkgkdpnnhhaaGreatGw
set_option maxHeartbeats 9999999
set_option maxRecDepth 99999
set_option linter.all false
namespace Go.Proofs.YtaahkgkdpnnhhaaGreat
open Go.RowKit Fo
variable{f:fZ}
theorem aCK(h:Inv f):chk [f.cur,f.com]=0:=by
 have h8:=h.ic.n8;have h5:=h.ic.n512;have hl:=h.ic.len;have h0:∀b,b<2→cu f b=0:=fun b hb=>
  (h.ic.dom.dead b).1 (h.ic.two b hb)
 have c1:chk [f.cur]=0:=by
  rw[lN];have e1:inB f.cur.length 8 512=true:=by simp[inB];omega
  have e2:eQ f.cur=false:=oK 0 fun i hi=>by
   have AM:=h.counts i;have e:inB (f.cur.getD i 0) 0 65535=true:=by
    unfold inB;unfold cu at AM;simp only[Bool.and_eq_true,decide_eq_true_eq];omega
   rw[e];rfl
  have e3:fM f.cur=false:=by
   have a:=h0 0 (by omega);have b:=h0 1 (by omega);unfold cu at a b;unfold fM;rw[a,b];rfl
  simp[e1,e2,e3]
 have c2:chk [f.com]=0:=by
  rw[lN];have e1:inB f.com.length 8 512=true:=by simp[inB];omega
  have e2:eQ f.com=false:=oK 0 fun i hi=>by
   have AM:=h.cmr i;have e:inB (f.com.getD i 0) 0 65535=true:=by
    unfold inB;unfold co at AM;simp only[Bool.and_eq_true,decide_eq_true_eq];omega
   rw[e];rfl
  have e3:fM f.com=false:=by
   have a:=h.cm0 0 (by omega);have b:=h.cm0 1 (by omega);unfold co at a b;unfold fM;rw[a,b];rfl
  simp[e1,e2,e3]
 rw[aCL _ _ hl.symm];simp[c1,c2]
theorem qO{zs ys:List Int}:∀x∈plP zs ys,2≤x∧x<zs.length:=fun x hx=>by
 obtain⟨b,_,rfl⟩:=List.mem_map.1 hx;have:=b.2;omega
def cR(f:fZ):fZ×An:=
 if 1099511627776≤f.gen then(f,4,0,.empty)else
 if plC f.cur f.com≠0 then(f,plC f.cur f.com,0,.empty)else
 (dM f (plP f.cur f.com),0,(dT f:Int)+((plP f.cur f.com).length:Int),.empty)
structure aCF(f g:fZ):Prop where
 inv:Inv g
 ve:VE g
 cur:g.cur.length=f.cur.length
theorem aHB(h:Inv f)(hV:VE f):aCF f (cR f).1:=by
 unfold cR;split
 ·exact⟨h,hV,rfl⟩
 ·split
  ·exact⟨h,hV,rfl⟩
  ·exact⟨h.settle (fun x hx=>(qO x hx).1) (by omega),aFK hV _,rfl⟩
end Go.Proofs.YtaahkgkdpnnhhaaGreat
namespace Go.Proofs.YtaahkgkdpnnhhaaGreat
open Go.RowKit Go.Shelf Fo
variable{w:World}{f:fZ}
def cdM(f:fZ):Int:=if 1099511627776≤f.gen then 4 else plC f.cur f.com
theorem aJH(h:cdM f≠0):cR f=(f,cdM f,0,.empty):=by
 unfold cR;unfold cdM at h ⊢;split
 ·rfl
 ·rename_i q
  rw[if_neg q]at h;rw[if_pos h]
theorem aGH(h:cdM f=0):cR f=(dM f (plP f.cur f.com),0,(dT f:Int)+((plP f.cur f.com).length:Int),.empty)∧f.gen<1099511627776:=by
 unfold cR;unfold cdM at h;split
 ·rename_i q
  rw[if_pos q]at h;omega
 ·rename_i q
  rw[if_neg q]at h;rw[if_neg (by simp[h])];exact⟨rfl,by omega⟩
structure PcP(w:World)(f:fZ)(e:Ending)(w':World):Prop where
 ex:∃a0 n0 c0 a1 n1 c1 a2 n2 c2,e=.returned (.tuple #[.agg #[.slice a0 n0 c0,.slice a1 n1 c1,.slice a2 n2 c2],.int .i64 (cdM f)])∧(cdM f≠0→n0=0∧n1=0)∧(cdM f=0→n0=dT f∧n1=(plP f.cur f.com).length∧∃lo hi,w.heap.size≤lo∧cF lo hi w' (.slice a1 n1 c1) (plP f.cur f.com))
 bel:Bl w w'
theorem PcP.bad{w':World}{c:Int}(hc:cdM f=c)(h0:c≠0)(hb:Bl w w'):PcP w f (.returned (.tuple #[.agg #[.slice none 0 0,.slice none 0 0,.slice none 0 0],.int .i64 c])) w':=
 ⟨⟨none,0,0,none,0,0,none,0,0,by rw[hc],fun _=>⟨rfl,rfl⟩,fun q=>absurd (hc.symm.trans q) h0⟩,hb⟩
theorem aJC(W:World):(Instr.build 161 #[]).run Tryz.prog W=.ok (.agg #[.slice none 0 0,.slice none 0 0,.slice none 0 0]) W:=by kernel_rfl
theorem aJD(W:World)(a0 a1 a2:Option Addr)(n0 n1 n2 c0 c1 c2:Nat):(Instr.build 161 #[(0,.slice a0 n0 c0),(1,.slice a1 n1 c1),(2,.slice a2 n2 c2)]).run Tryz.prog W=.ok (.agg #[.slice a0 n0 c0,.slice a1 n1 c1,.slice a2 n2 c2]) W:=by kernel_rfl
theorem uH(w:World)(ρ:Nat→Nat)(P:Nat)(A:Adr)(f:fZ)(J:List aQ)(h:St w ρ P A f J)(hI:Inv f):
  Calls Tryz.prog 128 #[.pointer (some ⟨P,0,none⟩)] w (PcP w f):=by
 have gz:=aJC;have bx:=aJD;have hz:=hI.sz;obtain⟨rb,fl⟩:=eZ (w.heap.size);obtain⟨w1,bh⟩:=eZ (w.alloc (.cells #[.slice none 0 0,.slice none 0 0,.slice none 0 0] 161));have B1:=bAl bh;have c1:=iNw bh fl;have br:=h.below B1;obtain⟨_,_,_,iq,_⟩:=id br;have g2:w1.cell? ⟨P,2,none⟩=some (.int .i64 f.gen):=by rw[iq.hP.cell];rfl
 obtain⟨m3,m4,m5,m7⟩:=iq.cells;have nk:∀w:World,IsC w A.c (dD f.cur) 2→Nts w (.slice (some ⟨A.c,0,none⟩) f.cur.length f.cur.length) f.cur:=fun w h=>by
  have:=lS (ys:=[]) (by simpa using h:IsC w A.c (dD (f.cur++[])) 2) (fun i=>by have:=hz.cb i;unfold cu at this;omega)
  simpa using this
 have C0:∀w:World,IsC w A.d (jG f.com A.dj) 2→Nts w (.slice (some ⟨A.d,0,none⟩) f.com.length (f.com.length+A.dj.length)) f.com:=fun w h=>xA h (fun i=>by have:=hz.mb i;unfold co at this;omega);have e0:w1.cell? ⟨rb,0,none⟩=some (.slice none 0 0):=c1.c rfl;have e1:w1.cell? ⟨rb,1,none⟩=some (.slice none 0 0):=c1.c rfl;have e2:w1.cell? ⟨rb,2,none⟩=some (.slice none 0 0):=c1.c rfl;have q0:=c1.frozen 0;have q1:=c1.frozen 1;have q2:=c1.frozen 2;have HF:Hid (∀(w8 w9:World),Bl w w8→Frm (fun x=>x=rb) w8 w9→Bl w w9):=fun w8 w9 hb hF=>hb.trans (hF.below hb.size fun g e=>by rw[e];omega);have QT:=aCK hI;by_cases hg:1099511627776≤f.gen
 ·have HC:Hid (cdM f=4):=by unfold cdM;rw[if_pos hg];rfl
  go_enter Tryz.func128,Tryz.ntmps128
  go_wp2
  refine bodyPost_ret (v:=.tuple #[.agg #[.slice none 0 0,.slice none 0 0,.slice none 0 0],.int .i64 4]) (by simp[results,Tryz.results128,Tryz.f128,go_sem,e0,e1,e2];try rfl) rfl ?_;exact .bad HC.out (by omega) (HF.out _ _ B1 (fB _ _ _ _ _))
 ·have HC:Hid (cdM f=plC f.cur f.com):=by unfold cdM;rw[if_neg hg];rfl
  go_enter Tryz.func128,Tryz.ntmps128
  go_wp2
  go_region_held3 (fun w'=>w'.cell? ⟨P,4,none⟩=some (.slice (some ⟨A.c,0,none⟩) f.cur.length f.cur.length)∧w'.cell? ⟨P,5,none⟩=some (.slice (some ⟨A.d,0,none⟩) f.com.length (f.com.length+A.dj.length))) (first | go_keep | exact⟨m4,m5⟩ | exact⟨(hB.cell (p:=⟨P,4,none⟩) iq.hP.lt).trans m4,(hB.cell (p:=⟨P,5,none⟩) iq.hP.lt).trans m5⟩) ((go_at_call 146;refine(wL _ _ _ _ f.cur f.com _ (nk _ ?_) (C0 _ ?_) QT).mono ?_;exact iq.hc;exact iq.hd;rintro e w2 ⟨u,v,rfl,hU,hV,cw⟩;have hB:Bl w1 w2:=(bQ w1.heap.size w1).drew.trans cw))
  have B2:=B1.trans (hB.mono B1.size);have d1:=c1.of (hB.block _ c1.lt);obtain⟨ua,uc,rfl⟩:=hU.shape;obtain⟨va,vc,rfl⟩:=hV.shape;have TE:cF w1.heap.size w2.heap.size w2 (.slice ua (plP f.cur f.com).length uc) (plP f.cur f.com):=hU.own (fun i=>by
   by_cases hi:i <(plP f.cur f.com).length
   ·have:=qO (zs:=f.cur) (ys:=f.com) ((plP f.cur f.com).getD i 0) (by rw[gD,gE hi];exact List.getElem_mem hi)
    have:=hI.ic.n512
    omega
   ·rw[gD,List.getElem?_eq_none (by omega)];simp)
  have SZ:=aA TE;have HP:Hid (plP f.cur f.com=plP f.cur f.com):=rfl;obtain⟨pc,wn⟩:=eZ (plC f.cur f.com);obtain⟨pl,qf⟩:=eZ ((plP f.cur f.com).length);obtain⟨rl,qu⟩:=eZ ((plR f.cur f.com).length);have Es:=aA qf;rw[wn]at HC;rw[qf]at SZ;rw[wn,qf,qu];have ax:=h.below B2;clear hU hV TE cw e0 e1 e2 q0 q1 q2 wn qf qu;by_cases hc:pc=0
  ·subst hc
   go_wp2_with fail
   refine(aGK w2 ρ P A f J ax hI).mono ?_;rintro e w3 ⟨da,dc,rfl,fk⟩;have B3:=B2.trans (fk.mono B2.size);have d3:=d1.of (fk.block _ d1.lt);have e0:w3.cell? ⟨rb,0,none⟩=some (.slice none 0 0):=d3.c rfl;have e1:w3.cell? ⟨rb,1,none⟩=some (.slice none 0 0):=d3.c rfl;have e2:w3.cell? ⟨rb,2,none⟩=some (.slice none 0 0):=d3.c rfl;have q0:=d3.frozen 0;have q1:=d3.frozen 1;have q2:=d3.frozen 2;have Nx:=aA (SZ.out.below fk);go_wp2;refine bodyPost_ret (v:=.tuple #[.agg #[.slice da (dT f) dc,.slice ua pl uc,.slice va rl vc],.int .i64 0]) (by simp[results,Tryz.results128,Tryz.f128,go_sem,e0,e1,e2];try rfl) rfl ?_;refine⟨⟨da,dT f,dc,ua,pl,uc,va,rl,vc,by rw[HC.out],fun q=>absurd HC.out q,fun _=>⟨rfl,Es.out.symm,w1.heap.size,w2.heap.size,B1.size,?_⟩⟩,HF.out _ _ B3 (fB _ _ _ _ _)⟩;have F3:=fB w3 rb (.slice da (dT f) dc) (.slice ua pl uc) (.slice va rl vc);exact Nx.out.kept F3.size (fun b ao ba bx=>F3.block b bx (fun e=>by rw[e]at ao;have:=c1.lt;omega))
  ·have e0:w2.cell? ⟨rb,0,none⟩=some (.slice none 0 0):=d1.c rfl
   have e1:w2.cell? ⟨rb,1,none⟩=some (.slice none 0 0):=d1.c rfl;have e2:w2.cell? ⟨rb,2,none⟩=some (.slice none 0 0):=d1.c rfl;have q0:=d1.frozen 0;have q1:=d1.frozen 1;have q2:=d1.frozen 2;go_wp2;refine bodyPost_ret (v:=.tuple #[.agg #[.slice none 0 0,.slice none 0 0,.slice none 0 0],.int .i64 pc]) (by simp[results,Tryz.results128,Tryz.f128,go_sem,e0,e1,e2];try rfl) rfl ?_;exact .bad HC.out hc (HF.out _ _ B2 (fB _ _ _ _ _))
theorem dE.isC{base:Nat}{u:Value}{zs:List Int}(h:dE base w u zs)(hp:0<zs.length):∃g dj,u=.slice (some ⟨g,0,none⟩) zs.length (zs.length+dj.length)∧base≤g∧IsC w g (jG zs dj) 2∧zs.length+dj.length≤maxLen:=by
 obtain⟨_,h1 | ⟨g,cap,cur,rfl,h2,h3,h4,h5,h6,h7⟩⟩:=h
 ·omega
 ·rw[Nat.mul_one]at h6 h7
  have hl:(cur.toList.drop zs.length).length=cap-zs.length:=by simp[h6]
  refine⟨g,cur.toList.drop zs.length,by rw[hl];congr 1;omega,h2,?_,by rw[hl];omega⟩;have e:jG zs (cur.toList.drop zs.length)=cur:=by
   unfold jG;rw[←h7,List.take_append_drop]
  rw[e];exact h3
theorem zY(c p:List Int)(j:Nat)(h:j<p.length):bH c (p.take (j+1))=(bH c (p.take j)).set (p.getD j 0).toNat 1:=by
 rw[List.take_succ_eq_append_getElem h];unfold bH;rw[List.foldl_append];simp[gD,h]
structure SeP(w:World)(ρ:Nat→Nat)(P:Nat)(f:fZ)(p:List Int)(J:List aQ)(e:Ending)(w':World):Prop where
 e:e=.returned (.tuple #[])
 ex:∃ρ' A',St w' ρ' P A' (dM f p) J∧∀x,x<w.heap.size→ρ x=0→ρ' x=0
 frm:Frm (fun k=>ρ k≠0) w w'
theorem aFC(w:World)(ρ:Nat→Nat)(P:Nat)(A:Adr)(f:fZ)(J:List aQ)(h:St w ρ P A f J)(hI:Inv f)(hg:f.gen<1099511627776)(p:List Int)(hp:∀x∈p,2≤x∧x<f.cur.length)(qf:p.length≤512)(s0 s2:Value)(a1:Option Addr)(c1:Nat)(lo hi:Nat)(hO:cF lo hi w (.slice a1 p.length c1) p)(mw:∀x,lo≤x→ρ x=0)(h1:s0.oneCell'=true∧s2.oneCell'=true):
  Calls Tryz.prog 129 #[.pointer (some ⟨P,0,none⟩),.agg #[s0,.slice a1 p.length c1,s2]] w (SeP w ρ P f p J):=by
 have hz:=hI.sz;obtain⟨pb,qt⟩:=eZ (w.heap.size);obtain⟨w1,bh⟩:=eZ (w.alloc (.cells #[s0,.slice a1 p.length c1,s2] 161));have B1:=bAl bh;have k1:=iNw bh qt;have br:=h.below B1;obtain⟨_,_,_,iq,_⟩:=id br;obtain⟨m3,m4,m5,m7⟩:=iq.cells;have nk:Nts w1 (.slice (some ⟨A.c,0,none⟩) f.cur.length f.cur.length) f.cur:=by
  have:=lS (ys:=[]) (by simpa using iq.hc:IsC w1 A.c (dD (f.cur++[])) 2) (fun i=>by have:=hz.cb i;unfold cu at this;omega)
  simpa using this
 have h8:=hI.ic.n8;have h5:=hI.ic.n512;go_enter Tryz.func129,Tryz.ntmps129;go_wp2_with fail;refine(pI _ _ f.cur w1 (by omega) (by omega) nk).mono ?_;rintro e w2 ⟨u,rfl,hU,db⟩;obtain⟨g,dj,rfl,Bf,Mi,AK⟩:=hU.isC (by omega);have B2:=B1.trans (db.mono B1.size);obtain⟨cy,bu⟩:=h.setCom (com:=f.cur) B2 Mi (lT B1.size Bf) AK;have ax:=h.below B2;obtain⟨_,_,_,gi,_⟩:=id ax;have k2:=k1.of (db.block _ k1.lt);have t5:w2.cell? ⟨P,5,none⟩=some (.slice (some ⟨A.d,0,none⟩) f.com.length (f.com.length+A.dj.length)):=by rw[gi.hP.cell];rfl
 have z5:=gi.hP.frozen 5;obtain⟨w3,dw⟩:=eZ (w2.setCell ⟨P,5,none⟩ (.slice (some ⟨g,0,none⟩) f.cur.length (f.cur.length+dj.length)));rw[dw]at cy bu;have Bu:ρ P=1:=gi.rP;have fl:ρ pb=0:=h.no0 (Nat.le_of_eq qt);have k3:IsC w3 pb #[s0,.slice a1 p.length c1,s2] 161:=by rw[←dw];exact k2.set_ne _ (fun e=>by rw[e,Bu]at fl;omega)
 have b1:w3.cell? ⟨pb,1,none⟩=some (.slice a1 p.length c1):=k3.c rfl;have Nx:Hid (∀wr:World,Frm (fun x=>x=g) w3 wr→∀k,k<p.length→∃b off,a1=some ⟨b,off,none⟩∧wr.cell? ⟨b,off+k,none⟩=some (.int .i64 (p.getD k 0))):=fun wr hF k hk=>by
  have hq:=hO.kept (w':=wr) (lT bu.size hF.size) (fun b ao ba bx=>by
   refine(hF.block b (lL bx bu.size) (fun e=>?_)).trans (bu.block b bx (fun q=>q (mw b ao)));have:=B1.size;omega)
  obtain⟨_,_,he,hs⟩:=hq.shape;simp only[Value.slice.injEq,true_and]at he;obtain⟨rfl,rfl⟩:=he;obtain⟨b,off,rfl,_,_,_,hc⟩:=hs (by omega);exact⟨b,off,rfl,(hc k hk).1⟩
 have O7:=aA hp;have LA:pb≠g:=by have:=k1.lt;omega
 have Ug:=aA k3;have Oo:=aA bu;have N1:Hid (∀x,x<w.heap.size→ρ x=0→tA ρ g x=0):=fun x hx h0=>by
  unfold tA;rw[if_neg (by have:=B1.size;omega)];exact h0
 clear nk m3 m4 m5 m7 k1 k2 k3 hU Mi hO bu hp iq br;go_wp2;go_loopw [17,5] (fun i _ wr=>∃k:Nat,k≤p.length∧i=.int .i64 k∧St wr (tA ρ g) P {A with d:=g,dj:=dj} {f with com:=bH f.cur (p.take k)} J∧Frm (fun x=>x=g) w3 wr) (fun i _ _=>p.length -(intOf i).toNat)
 case atStart=>exact⟨0,by omega,rfl,by simpa [bH] using cy,Frm.refl _ _⟩
 case round=>
  obtain⟨k,hk,rfl,aw,jl⟩:=hrel;obtain⟨_,_,_,lj,_⟩:=id aw;by_cases ai:k<p.length
  ·obtain⟨b,off,rfl,x0⟩:=Nx.out wr jl k ai
   have lq:(k:Int) <(p.length:Int):=by omega
   have Bq:p.getD k 0∈p:=by rw[gD,gE ai];exact List.getElem_mem ai
   have qt:=O7.out _ Bq;have xd:=aA (zY f.cur p k ai);obtain⟨bb,E7⟩:∃bb:Nat,p.getD k 0=(bb:Int):=⟨(p.getD k 0).toNat,by omega⟩;rw[E7]at x0 qt xd;simp only[Int.toNat_natCast]at xd;have au:(bH f.cur (p.take k)).length=f.cur.length:=iV _ _;have y5:wr.cell? ⟨P,5,none⟩=some (.slice (some ⟨g,0,none⟩) f.cur.length (f.cur.length+dj.length)):=by rw[lj.hP.cell];simp[dC,au]
   obtain⟨cq,er⟩:=aw.setComAt (b:=bb) 1 (by show bb <(bH f.cur (p.take k)).length;rw[au];omega);have yb:wr.cell? ⟨g,bb,none⟩=some (.int .i64 ((bH f.cur (p.take k)).getD bb 0)):=by
    rw[lj.hd.cell];simp[jG,List.getElem?_append,au,show bb<f.cur.length by omega]
   have zb:wr.frozen? ⟨g,bb,none⟩=false:=lj.hd.frozen bb;have DN:(bb:Int) <(f.cur.length:Int):=by omega
   have CB:Hid (St (wr.setCell ⟨g,bb,none⟩ (.int .i64 1)) (tA ρ g) P {A with d:=g,dj:=dj} {f with com:=bH f.cur (p.take (k+1))} J):=by
    rw[xd.out];exact cq
   have uz:=aA er;generalize (bH f.cur (p.take k)).getD bb 0=cv at *;clear aw lj cq er Bq E7 au xd cy ax gi;go_wp2;go_roundw
   case rel=>exact⟨k+1,by omega,by go_num,CB.out,jl.trans uz.out⟩
   case measure=>simp[intOf];omega
  ·obtain rfl:k=p.length:=by omega
   rw[List.take_of_length_le (nR _)]at aw;have b2:wr.cell? ⟨pb,1,none⟩=some (.slice a1 p.length c1):=by
    have:=Ug.out.frm jl (fun e=>LA e)
    rw[this.cell];rfl
   have y6:wr.cell? ⟨P,6,none⟩=some A.tv:=by rw[lj.hP.cell];rfl
   have z6:=lj.hP.frozen 6;obtain⟨cq,er⟩:=aw.setTab (.slice a1 p.length c1) p;obtain⟨w5,sf⟩:=eZ (wr.setCell ⟨P,6,none⟩ (.slice a1 p.length c1));rw[sf]at cq er;obtain⟨_,_,_,CJ,_⟩:=id cq;have y2:w5.cell? ⟨P,2,none⟩=some (.int .i64 f.gen):=by rw[CJ.hP.cell];rfl
   have z2:=CJ.hP.frozen 2;obtain⟨kv,BM⟩:=cq.setNum (i:=2) (v:=f.gen+1) (f':=dM f p) ⟨rfl,rfl,rfl,rfl⟩ (fun jv=>by simp[dC,dM]);have N3:=aA kv;have GW:Hid (Frm (fun k=>ρ k≠0) w (w5.setCell ⟨P,2,none⟩ (.int .i64 (f.gen+1)))):=by
    have F1:Frm (fun k=>ρ k≠0) w wr:=Oo.out.next jl (fun x hx q=>by have:=B1.size;omega);have F2:Frm (fun k=>ρ k≠0) w w5:=F1.next er (fun x hx q=>by rw[q,Bu];omega);exact F2.next (Frm.set (S:=fun x=>x=P) w5 (p:=⟨P,2,none⟩) rfl _) (fun x hx q=>by rw[q,Bu];omega)
   have Qq:=hI.gn;clear aw lj cq er kv BM CJ cy ax gi Nx;go_wp2;go_end0;exact⟨rfl,⟨_,_,N3.out,N1.out⟩,GW.out⟩
theorem xE(a0 a1 a2:Option Addr)(n0 n1 n2 c0 c1 c2:Nat)(h0:n0≤512)(h1:n1≤512)(w:World):
  Calls Tryz.prog 106 #[.agg #[.slice a0 n0 c0,.slice a1 n1 c1,.slice a2 n2 c2]] w fun e w'=>e=.returned (.int .i64 ((n0:Int)+(n1:Int)))∧Bl w w':=by
 obtain⟨pb,qt⟩:=eZ (w.heap.size);obtain⟨w1,bh⟩:=eZ (w.alloc (.cells #[.slice a0 n0 c0,.slice a1 n1 c1,.slice a2 n2 c2] 161));have B1:=bAl bh;have k1:=iNw bh qt;have e0:w1.cell? ⟨pb,0,none⟩=some (.slice a0 n0 c0):=k1.c rfl;have e1:w1.cell? ⟨pb,1,none⟩=some (.slice a1 n1 c1):=k1.c rfl;go_enter Tryz.func106,Tryz.ntmps106;go_wp2;go_ret;exact⟨by go_num,B1⟩
structure CoP(w:World)(ρ:Nat→Nat)(P:Nat)(f:fZ)(e:Ending)(w':World):Prop where
 ex:∃a0 n0 c0 a1 n1 c1 a2 n2 c2,e=.returned (.tuple #[.agg #[.slice a0 n0 c0,.slice a1 n1 c1,.slice a2 n2 c2],.int .i64 (cR f).2.1])∧((n0:Int)+(n1:Int))=(cR f).2.2.1∧n0≤512∧n1≤512
 st:∃ρ' A' J',St w' ρ' P A' (cR f).1 J'∧∀x,x<w.heap.size→ρ x=0→ρ' x=0
 frm:Frm (fun k=>ρ k≠0) w w'
theorem aDT(w:World)(ρ:Nat→Nat)(P:Nat)(A:Adr)(f:fZ)(J:List aQ)(h:St w ρ P A f J)(hI:Inv f):
  Calls Tryz.prog 105 #[.pointer (some ⟨P,0,none⟩)] w (CoP w ρ P f):=by
 obtain⟨rb,fl⟩:=eZ (w.heap.size);obtain⟨w1,bh⟩:=eZ (w.alloc (.cells #[.slice none 0 0,.slice none 0 0,.slice none 0 0] 161));have B1:=bAl bh;have k1:=iNw bh fl;have br:=h.below B1;go_enter Tryz.func105,Tryz.ntmps105;go_wp2_with fail;refine(uH w1 ρ P A f J br hI).mono ?_;rintro e w2 ⟨⟨a0,n0,c0,a1,n1,c1,a2,n2,c2,rfl,kq,ft⟩,db⟩;have B2:=B1.trans (db.mono B1.size);obtain⟨pb,qt⟩:=eZ (w2.heap.size);obtain⟨w3,dw⟩:=eZ (w2.alloc (.cells #[.slice a0 n0 c0,.slice a1 n1 c1,.slice a2 n2 c2] 161));have fk:=bAl dw;have B3:=B2.trans (fk.mono B2.size);have k3:=iNw dw qt;have d3:IsC w3 rb #[.slice none 0 0,.slice none 0 0,.slice none 0 0] 161:=k1.of ((fk.block _ (lL k1.lt db.size)).trans (db.block _ k1.lt));have cy:=h.below B3;have nn:ρ rb=0:=h.no0 (Nat.le_of_eq fl);have XG:ρ pb=0:=h.no0 (by rw[←qt];exact B2.size);have av:pb≠rb:=by have:=k1.lt;have:=db.size;omega
 have x0:w3.cell? ⟨pb,0,none⟩=some (.slice a0 n0 c0):=k3.c rfl;have x1:w3.cell? ⟨pb,1,none⟩=some (.slice a1 n1 c1):=k3.c rfl;have x2:w3.cell? ⟨pb,2,none⟩=some (.slice a2 n2 c2):=k3.c rfl;have vb:Hid (∀(g:fZ) (ρ':Nat→Nat) (A':Adr) (J':List aQ) (w8 w9:World),cR f=(g,(cR f).2)→((n0:Int)+(n1:Int))=(cR f).2.2.1→n0≤512→n1≤512→St w8 ρ' P A' g J'→(∀x,x<w3.heap.size→ρ x=0→ρ' x=0)→Frm (fun k=>ρ k≠0) w3 w8→Frm (fun x=>x=rb) w8 w9→CoP w ρ P f (.returned (.tuple #[.agg #[.slice a0 n0 c0,.slice a1 n1 c1,.slice a2 n2 c2],.int .i64 (cR f).2.1])) w9):=fun g ρ' A' J' w8 w9 hg hv h0 h1 hS gy y7 wj=>by
  have XC:ρ' rb=0:=gy rb (lL k1.lt (lT db.size fk.size)) nn;have e:(cR f).1=g:=by rw[hg]
  exact⟨⟨a0,n0,c0,a1,n1,c1,a2,n2,c2,rfl,hv,h0,h1⟩,⟨ρ',A',J',by rw[e];exact hS.frm (wj.wide fun x _ q=>by rw[q];exact XC),fun x hx h0=>gy x (lL hx B3.size) h0⟩,((Frm.of_below B3).trans y7).next wj fun x hx q=>absurd q (by omega)⟩
 by_cases hc:cdM f=0
 ·obtain⟨M2,nk,lo,hi,mw,hO⟩:=ft hc
  obtain⟨Ct,Qq⟩:=aGH hc;have DC:=aA Ct;have tq:Hid ((cR f).2.1=0):=by rw[Ct];rfl
  have RY:=sN f.cur f.com;subst nk;have vw:=hO.below fk;have yv:=aA (aFC w3 ρ P A f J cy hI Qq (plP f.cur f.com) (fun x hx=>qO x hx) RY (.slice a0 n0 c0) (.slice a2 n2 c2) a1 c1 lo hi vw (fun x hx=>h.no0 (by have:=B1.size;omega)) ⟨rfl,rfl⟩);have Fv:n0≤512:=by have:=uU f;have:=hI.ic.n512;omega
  have HV:Hid (((n0:Int)+((plP f.cur f.com).length:Int))=(cR f).2.2.1):=by rw[Ct,M2];rfl
  rw[hc];obtain⟨m,hm⟩:=eZ ((plP f.cur f.com).length);rw[hm]at yv HV vb x1 k3 RY dw;rw[hm];clear kq ft hO vw Ct hm M2;go_wp2_with fail;refine yv.out.mono ?_;rintro e w4 ⟨rfl,⟨ρ4,A4,aw,gy⟩,jl⟩;have k4:=k3.frm jl (fun q=>q XG);have d4:=d3.frm jl (fun q=>q nn);have y0:w4.cell? ⟨pb,0,none⟩=some (.slice a0 n0 c0):=k4.c rfl;have y1:w4.cell? ⟨pb,1,none⟩=some (.slice a1 m c1):=k4.c rfl;have y2:w4.cell? ⟨pb,2,none⟩=some (.slice a2 n2 c2):=k4.c rfl;have e0:w4.cell? ⟨rb,0,none⟩=some (.slice none 0 0):=d4.c rfl;have e1:w4.cell? ⟨rb,1,none⟩=some (.slice none 0 0):=d4.c rfl;have e2:w4.cell? ⟨rb,2,none⟩=some (.slice none 0 0):=d4.c rfl;have q0:=d4.frozen 0;have q1:=d4.frozen 1;have q2:=d4.frozen 2;clear k3 k4 d3 d4 x0 x1 x2;go_wp2;refine bodyPost_ret (v:=.tuple #[.agg #[.slice a0 n0 c0,.slice a1 m c1,.slice a2 n2 c2],.int .i64 0]) (by simp[results,Tryz.results105,Tryz.f105,go_sem,e0,e1,e2];try rfl) rfl ?_;have:=vb.out _ ρ4 A4 J w4 _ (by rw[DC.out]) HV.out Fv RY aw gy jl (fB w4 rb (.slice a0 n0 c0) (.slice a1 m c1) (.slice a2 n2 c2));rw[tq.out]at this;exact this
 ·obtain⟨rfl,rfl⟩:=kq hc
  have Ct:=aJH hc;have DC:=aA Ct;have tq:Hid ((cR f).2.1=cdM f):=by rw[Ct];rfl
  obtain⟨c,kz⟩:=eZ (cdM f);rw[kz]at hc tq DC;rw[kz];have e0:w3.cell? ⟨rb,0,none⟩=some (.slice none 0 0):=d3.c rfl;have e1:w3.cell? ⟨rb,1,none⟩=some (.slice none 0 0):=d3.c rfl;have e2:w3.cell? ⟨rb,2,none⟩=some (.slice none 0 0):=d3.c rfl;have q0:=d3.frozen 0;have q1:=d3.frozen 1;have q2:=d3.frozen 2;clear kq ft Ct kz k3 d3;go_wp2;refine bodyPost_ret (v:=.tuple #[.agg #[.slice a0 0 c0,.slice a1 0 c1,.slice a2 n2 c2],.int .i64 c]) (by simp[results,Tryz.results105,Tryz.f105,go_sem,e0,e1,e2];try rfl) rfl ?_;have:=vb.out f ρ A J w3 _ (by rw[DC.out]) (by rw[DC.out];rfl) (by omega) (by omega) cy (fun _ _ q=>q) (Frm.refl _ _) (fB w3 rb (.slice a0 0 c0) (.slice a1 0 c1) (.slice a2 n2 c2));rw[tq.out]at this;exact this
theorem buildA01(W:World)(c v:Int):(Instr.build 92 #[(0,.int .i64 c),(1,.int .i64 v)]).run Tryz.prog W=.ok (.agg #[.int .i64 c,.int .i64 v,.string .empty]) W:=by kernel_rfl
theorem yH(w:World)(ρ:Nat→Nat)(P:Nat)(A:Adr)(f:fZ)(J:List aQ)(h:St w ρ P A f J)(hI:Inv f):
  Calls Tryz.prog 77 #[.pointer (some ⟨P,0,none⟩)] w (DoP w ρ P (cR f)):=by
 have gz:=buildA01;obtain⟨rb,fl⟩:=eZ (w.heap.size);obtain⟨w1,bh⟩:=eZ (w.alloc (.cells #[.int .i64 0,.int .i64 0,.string {data:=#[]}] 92));have B1:=bAl bh;have k1:=iNw bh fl;have br:=h.below B1;have nn:ρ rb=0:=h.no0 (Nat.le_of_eq fl);go_enter Tryz.func77,Tryz.ntmps77;go_wp2_with fail;refine(aDT w1 ρ P A f J br hI).mono ?_;rintro e w2 ⟨⟨a0,n0,c0,a1,n1,c1,a2,n2,c2,rfl,hv,h0,h1⟩,⟨ρ2,A2,J2,ax,gy⟩,du⟩;have k2:=k1.frm du (fun q=>q nn);obtain⟨pb,qt⟩:=eZ (w2.heap.size);obtain⟨w3,dw⟩:=eZ (w2.alloc (.cells #[.slice a0 n0 c0,.slice a1 n1 c1,.slice a2 n2 c2] 161));have fk:=bAl dw;have k3:=iNw dw qt;have x0:w3.cell? ⟨pb,0,none⟩=some (.slice a0 n0 c0):=k3.c rfl;have x1:w3.cell? ⟨pb,1,none⟩=some (.slice a1 n1 c1):=k3.c rfl;have x2:w3.cell? ⟨pb,2,none⟩=some (.slice a2 n2 c2):=k3.c rfl;obtain⟨cd,sx⟩:=eZ ((cR f).2.1);have Ht:Hid (cR f=((cR f).1,cd,(n0:Int)+(n1:Int),.empty)):=by
  rw[←sx,hv];show cR f=((cR f).1,(cR f).2.1,(cR f).2.2.1,.empty)
  have:(cR f).2.2.2=ByteArray.empty:=by unfold cR;split;rfl;split<;>rfl
  rw[←this]
 rw[sx];clear hv sx;go_wp2_with fail;refine(xE a0 a1 a2 n0 n1 n2 c0 c1 c2 h0 h1 w3).mono ?_;rintro e w4 ⟨rfl,dq⟩;have IF:=fk.trans (dq.mono fk.size);have k4:=k2.of (IF.block _ k2.lt);have e0:w4.cell? ⟨rb,0,none⟩=some (.int .i64 0):=k4.c rfl;have e1:w4.cell? ⟨rb,1,none⟩=some (.int .i64 0):=k4.c rfl;have e2:w4.cell? ⟨rb,2,none⟩=some (.string {data:=#[]}):=k4.c rfl;have q0:=k4.frozen 0;have q1:=k4.frozen 1;have q2:=k4.frozen 2;clear k3 x0 x1 x2 k4;go_wp2;refine bodyPost_ret (v:=bN (cd,(n0:Int)+(n1:Int),.empty)) (by simp[bN,results,Tryz.results77,go_sem,e0,e1,e2];try rfl) rfl ?_;have F9:=fB w4 rb (.int .i64 cd) (.int .i64 ((n0:Int)+(n1:Int))) (.string .empty);have aw:=ax.below IF;refine⟨by rw[Ht.out],ρ2,A2,J2,aw.frm (F9.wide fun x _ q=>by rw[q];exact gy rb k1.lt nn),?_,fun x hx h0=>gy x (lL hx B1.size) h0⟩;exact(((Frm.of_below B1).trans du).trans (Frm.of_below IF)).next F9 fun x hx q=>absurd q (by omega)

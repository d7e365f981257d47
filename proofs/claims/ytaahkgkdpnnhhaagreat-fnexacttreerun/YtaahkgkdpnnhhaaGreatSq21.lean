import Derived.Test.YtaahkgkdpnnhhaaGreatSq20
set_option maxHeartbeats 9999999
set_option maxRecDepth 99999
set_option linter.all false
namespace Go.Proofs.YtaahkgkdpnnhhaaGreat
open Go.RowKit Fo
def stV(A:SA)(f:fZ):Value:=.agg (aL A f)
structure Cpy(w:World)(n NS RS nx gn cv tv:Value)(B1 B2 B3:Nat)(nv rv:Value)(wr:World):Prop where
 b1:IsC wr B1 #[n,NS,RS,nx,gn,cv,tv] 57
 b2:IsC wr B2 #[.int .i64 0,.slice none 0 0,.slice none 0 0,.int .i64 0,.int .i64 0,.slice none 0 0,.slice none 0 0] 57
 b3:IsC wr B3 #[n,nv,rv,nx,gn,cv,tv] 57
 bel:Bl w wr
 n12:B1≠B3∧B2≠B3∧w.heap.size≤B3
 lo2:w.heap.size≤B2
structure CpR{α:Type}(Y:Ely α)(w:World)(n NS RS nx gn cv tv:Value)(B1 B2 B3:Nat)(fst:Bool)(ov:Value)(l:List α)(j:Nat)(wr:World):Prop where
 ex:∃ag jk,Cpy w n NS RS nx gn cv tv B1 B2 B3 (if fst then .slice (adr ag) j (j+jk.length)else ov) (if fst then ov else .slice (adr ag) j (j+jk.length)) wr∧Y.Rw wr ag (l.take j) jk∧∀g,ag=some g→w.heap.size≤g
theorem Cpy.frm{w:World}{n NS RS nx gn cv tv:Value}{B1 B2 B3:Nat}{nv rv:Value}{wr w':World}{S:Nat→Prop}(h:Cpy w n NS RS nx gn cv tv B1 B2 B3 nv rv wr)(k:Frm S wr w')(hS:∀g,S g→w.heap.size≤g∧g≠B1∧g≠B2∧g≠B3):Cpy w n NS RS nx gn cv tv B1 B2 B3 nv rv w':=
 ⟨h.b1.frm k fun q=>(hS _ q).2.1 rfl,h.b2.frm k fun q=>(hS _ q).2.2.1 rfl,h.b3.frm k fun q=>(hS _ q).2.2.2 rfl,h.bel.trans (k.below h.bel.size fun g q=>(hS g q).1),h.n12,h.lo2⟩
theorem Cpy.set1{w:World}{n NS RS nx gn cv tv:Value}{B1 B2 B3:Nat}{nv rv:Value}{wr:World}(h:Cpy w n NS RS nx gn cv tv B1 B2 B3 nv rv wr)(v:Value):Cpy w n NS RS nx gn cv tv B1 B2 B3 v rv (wr.setCell ⟨B3,1,none⟩ v):=
 ⟨h.b1.set_ne v h.n12.1,h.b2.set_ne v h.n12.2.1,h.b3.set 1 v,h.bel.trans ((bQ _ wr).setCell (p:=⟨B3,1,none⟩) h.n12.2.2 v),h.n12,h.lo2⟩
theorem Cpy.set2'{w:World}{n NS RS nx gn cv tv:Value}{B1 B2 B3:Nat}{nv rv:Value}{wr:World}(h:Cpy w n NS RS nx gn cv tv B1 B2 B3 nv rv wr)(v:Value):Cpy w n NS RS nx gn cv tv B1 B2 B3 nv v (wr.setCell ⟨B3,2,none⟩ v):=
 ⟨h.b1.set_ne v h.n12.1,h.b2.set_ne v h.n12.2.1,h.b3.set 2 v,h.bel.trans ((bQ _ wr).setCell (p:=⟨B3,2,none⟩) h.n12.2.2 v),h.n12,h.lo2⟩
theorem mM{f:fZ}(w:World)(A:SA)(hS:SpV w A f)(h8:0<f.cur.length)(h5:f.cur.length≤512)(h1:0<f.roots.length)(h16:f.roots.length≤100)(htv:∃a n c,A.tv=.slice a n c):
  Calls Tryz.prog 65 #[stV A f] w fun r w'=>∃A',r=.returned (stV A' f)∧SpV w' A' f∧A'.tv=A.tv∧w.heap.size≤A'.ga∧w.heap.size≤A'.gr∧Bl w w':=by
 have HNS:=aA hS.ln;obtain⟨B1,hB1⟩:=eZ (w.heap.size);obtain⟨ta,tn,tc,htv⟩:=htv;obtain⟨ma,mc,hcv⟩:=hS.com.len;have HPS:Hid (∀(r:Ending) (w':World) (A':SA),r=.returned (stV A' f)→SpV w' A' f→A'.tv=A.tv→w.heap.size≤A'.ga→w.heap.size≤A'.gr→Bl w w'→∃A',r=.returned (stV A' f)∧SpV w' A' f∧A'.tv=A.tv∧w.heap.size≤A'.ga∧w.heap.size≤A'.gr∧Bl w w'):=fun r w' A' a b c d e g=>⟨A',a,b,c,d,e,g⟩;obtain⟨PS,hPS⟩:∃PS:Ending→World→Prop,PS=fun r w'=>∃A',r=.returned (stV A' f)∧SpV w' A' f∧A'.tv=A.tv∧w.heap.size≤A'.ga∧w.heap.size≤A'.gr∧Bl w w':=⟨_,rfl⟩;rw[←hPS];have HPP:=aA hPS;clear hPS;have hst:stV A f=.agg #[.int .i64 f.cur.length,.slice (some ⟨A.ga,0,none⟩) A.ns.length (A.ns.length+A.nj.length),.slice (some ⟨A.gr,0,none⟩) f.roots.length (f.roots.length+A.rj.length),.int .i64 f.next,.int .i64 f.gen,.slice ma f.com.length mc,.slice ta tn tc]:=by unfold stV aL;rw[hcv,htv]
 rw[hst];have HCV:=aA (aI hcv (aI htv hst));clear hcv htv hst;obtain⟨w1,hw1⟩:=eZ (w.alloc (.cells #[.int .i64 f.cur.length,.slice (some ⟨A.ga,0,none⟩) A.ns.length (A.ns.length+A.nj.length),.slice (some ⟨A.gr,0,none⟩) f.roots.length (f.roots.length+A.rj.length),.int .i64 f.next,.int .i64 f.gen,.slice ma f.com.length mc,.slice ta tn tc] 57));obtain⟨B2,hB2⟩:=eZ (w1.heap.size);obtain⟨w2,hw2⟩:=eZ (w1.alloc (.cells #[.int .i64 0,.slice none 0 0,.slice none 0 0,.int .i64 0,.int .i64 0,.slice none 0 0,.slice none 0 0] 57));obtain⟨B3,hB3⟩:=eZ (w2.heap.size);obtain⟨w3,hw3⟩:=eZ (w2.alloc (.cells #[.int .i64 f.cur.length,.slice none 0 0,.slice (some ⟨A.gr,0,none⟩) f.roots.length (f.roots.length+A.rj.length),.int .i64 f.next,.int .i64 f.gen,.slice ma f.com.length mc,.slice ta tn tc] 57));have e1:=bAl hw1;have e2:=bAl hw2;have e3:=bAl hw3;have c1:=iNw hw1 hB1;have c2:=iNw hw2 hB2;have c3:=iNw hw3 hB3;have c12:=c1.of (e2.block _ c1.lt);have q0:w2.cell? ⟨B1,0,none⟩=some (.int .i64 f.cur.length):=c12.c rfl;have q1:w2.cell? ⟨B1,1,none⟩=some (.slice (some ⟨A.ga,0,none⟩) A.ns.length (A.ns.length+A.nj.length)):=c12.c rfl;have q2:w2.cell? ⟨B1,2,none⟩=some (.slice (some ⟨A.gr,0,none⟩) f.roots.length (f.roots.length+A.rj.length)):=c12.c rfl;have q3:w2.cell? ⟨B1,3,none⟩=some (.int .i64 f.next):=c12.c rfl;have q4:w2.cell? ⟨B1,4,none⟩=some (.int .i64 f.gen):=c12.c rfl;have q5:w2.cell? ⟨B1,5,none⟩=some (.slice ma f.com.length mc):=c12.c rfl;have q6:w2.cell? ⟨B1,6,none⟩=some (.slice ta tn tc):=c12.c rfl;have hCp:Cpy w (.int .i64 f.cur.length) (.slice (some ⟨A.ga,0,none⟩) A.ns.length (A.ns.length+A.nj.length)) (.slice (some ⟨A.gr,0,none⟩) f.roots.length (f.roots.length+A.rj.length)) (.int .i64 f.next) (.int .i64 f.gen) (.slice ma f.com.length mc) (.slice ta tn tc) B1 B2 B3 (.slice none 0 0) (.slice (some ⟨A.gr,0,none⟩) f.roots.length (f.roots.length+A.rj.length)) w3:=
  ⟨(c1.of (e2.block _ c1.lt)).of (e3.block _ (lL c1.lt e2.size)),c2.of (e3.block _ c2.lt),c3,e1.trans ((e2.trans (e3.mono e2.size)).mono e1.size),by have:=c1.lt;have:=c2.lt;have:=e1.size;have:=e2.size;omega,by have:=e1.size;omega⟩
 have HCp:=aA hCp;have HSV:=aA fun(w':World) (hb:Bl w w')=>hS.below hb;have hga0:=hS.nds.arr.lt;have hgr0:=hS.rts.lt;clear e1 e2 e3 c1 c2 c3 c12 hCp hS;go_enter Tryz.func65,Tryz.ntmps65;go_wp2;go_loopw [4] (fun i wr=>∃j:Nat,j≤A.ns.length∧i=.int .i64 j∧CpR yN w (.int .i64 f.cur.length) (.slice (some ⟨A.ga,0,none⟩) A.ns.length (A.ns.length+A.nj.length)) (.slice (some ⟨A.gr,0,none⟩) f.roots.length (f.roots.length+A.rj.length)) (.int .i64 f.next) (.int .i64 f.gen) (.slice ma f.com.length mc) (.slice ta tn tc) B1 B2 B3 true (.slice (some ⟨A.gr,0,none⟩) f.roots.length (f.roots.length+A.rj.length)) A.ns j wr) (fun i _=>A.ns.length -(intOf i).toNat)
 case atStart=>exact⟨0,by omega,rfl,⟨none,[],HCp.out,⟨fun g e=>(by cases e),fun _=>⟨by simp,rfl⟩,by simp⟩,fun g e=>(by cases e)⟩⟩
 case round=>
  clear HCp hw1 hw2 hw3;obtain⟨j,hj,rfl,⟨ag,jk,hC,hrw,hbs⟩⟩:=hrel;simp only[if_true]at hC;have m1:wr.cell? ⟨B1,1,none⟩=some (.slice (some ⟨A.ga,0,none⟩) A.ns.length (A.ns.length+A.nj.length)):=by rw[hC.b1.cell];rfl
  have m2:wr.cell? ⟨B3,1,none⟩=some (.slice (adr ag) j (j+jk.length)):=by rw[hC.b3.cell];rfl
  have hSr:=HSV.out wr hC.bel;by_cases hlt:j<A.ns.length
  ·have hjI:(j:Int) <(A.ns.length:Int):=by omega
   have hj6:j<600:=by have:=HNS.out;omega
   have hcell:∀(W:World),W.heap[A.ga]?=wr.heap[A.ga]?→W.cell? ⟨A.ga,j*2,none⟩=some (.int .i64 (A.ns.getD j nv0).1)∧W.cell? ⟨A.ga,j*2+1,none⟩=some (.slice (A.ns.getD j nv0).2.1 (A.ns.getD j nv0).2.2.1 (A.ns.getD j nv0).2.2.2):=fun W he=>by
    have hx:∀i,i<2→W.cell? ⟨A.ga,j*2+i,none⟩=(aCX (A.ns.getD j nv0))[i]?:=fun i hi=>by
     have h0:W.cell? ⟨A.ga,j*2+i,none⟩=wr.cell? ⟨A.ga,j*2+i,none⟩:=by simp[World.cell?,he]
     rw[h0,hSr.nds.arr.cell];have:=yN.at (A.ns++A.nj) (i:=j) (j:=i) (by simp;omega) hi;have e2:(A.ns++A.nj).getD j yN.z=A.ns.getD j nv0:=by rw[cV,if_pos hlt];rfl
     rw[e2]at this;exact this
    exact⟨hx 0 (by omega),hx 1 (by omega)⟩
   have HTN:=aA (cG A.ns j nv0 hlt);have hlenj:(A.ns.take j).length=j:=by simp;omega
   obtain⟨m3,m4⟩:=hcell wr rfl;obtain⟨⟨x1,x2,x3,x4⟩,hxe⟩:∃x,A.ns.getD j nv0=x:=⟨_,rfl⟩;rw[hxe]at m3 m4 hcell HTN;simp only at m3 m4 hcell;have hq0:wr.drew.cell? ⟨B1,1,none⟩=some (.slice (some ⟨A.ga,0,none⟩) A.ns.length (A.ns.length+A.nj.length))∧wr.drew.cell? ⟨B3,1,none⟩=some (.slice (adr ag) j (j+jk.length))∧wr.drew.cell? ⟨A.ga,j*2,none⟩=some (.int .i64 x1)∧wr.drew.cell? ⟨A.ga,j*2+1,none⟩=some (.slice x2 x3 x4):=⟨m1,m2,m3,m4⟩;have HC:=aA hC;have HRW:=aA hrw;have HBS:=aA hbs;have HCE:=aA hcell;have HLJ:=aA hlenj;have HJ1:Hid (j+1≤A.ns.length):=hlt;clear hcell hxe hC hrw hbs hSr hlenj;go_wp2;refine aZ (fun W=>W.cell? ⟨B1,1,none⟩=some (.slice (some ⟨A.ga,0,none⟩) A.ns.length (A.ns.length+A.nj.length))∧W.cell? ⟨B3,1,none⟩=some (.slice (adr ag) j (j+jk.length))∧W.cell? ⟨A.ga,j*2,none⟩=some (.int .i64 x1)∧W.cell? ⟨A.ga,j*2+1,none⟩=some (.slice x2 x3 x4)) 10 (by kernel_rfl) ?_;refine tJ 0 15 (.pointer (some ⟨B3,1,none⟩)) rfl hq0 ?_;simp only[Act.put,sB,sZ,sS];refine tJ 1 16 (.slice (adr ag) j (j+jk.length)) rfl hq0 ?_;simp only[Act.put,sB,sZ,sS];refine tJ 2 17 (.pointer (some ⟨B1,1,none⟩)) rfl hq0 ?_;simp only[Act.put,sB,sZ,sS];refine tJ 3 18 (.slice (some ⟨A.ga,0,none⟩) A.ns.length (A.ns.length+A.nj.length)) rfl hq0 ?_;simp only[Act.put,sB,sZ,sS];refine tJ 4 19 (.int .i64 j) rfl hq0 ?_;simp only[Act.put,sB,sZ,sS];refine tJ 5 20 (.pointer (some ⟨A.ga,j*2,none⟩)) rfl hq0 ?_;simp only[Act.put,sB,sZ,sS];refine tJ 6 21 (.agg #[.int .i64 x1,.slice x2 x3 x4]) rfl hq0 ?_;simp only[Act.put,sB,sZ,sS];refine oE 7 rfl fun K2 hK2=>?_;go_simp;obtain⟨G,HG⟩:=exH (wr.heap.size);obtain⟨W1,HW1⟩:=exH ((wr.alloc (.cells #[.int .i64 x1,.slice x2 x3 x4] 108)).drew);rw[←HW1.out,←HG.out];have hBW:Bl wr W1:=by rw[HW1.out];exact((bQ _ wr).alloc (nR _) _).drew
   have hF1:Frm (fun _=>False) wr W1:=Frm.of_below hBW;have hsl1:yN.Sl W1 (.slice (some ⟨G,0,none⟩) 1 1) [(x1,x2,x3,x4)]:=by
    rw[HW1.out,HG.out];exact(Ely.Sl.new (Y:=yN) wr (x1,x2,x3,x4) rfl).below (bQ _ _).drew
   have hC1:=HC.out.frm hF1 (fun _ q=>q.elim);have hrw1:=HRW.out.frm hF1 (fun _ _=>id);have hgaR:A.ga<wr.heap.size:=lL hga0 HC.out.bel.size;have hx1:=HCE.out W1 (hF1.block _ hgaR id);have hq1:W1.cell? ⟨B1,1,none⟩=some (.slice (some ⟨A.ga,0,none⟩) A.ns.length (A.ns.length+A.nj.length))∧W1.cell? ⟨B3,1,none⟩=some (.slice (adr ag) j (j+jk.length))∧W1.cell? ⟨A.ga,j*2,none⟩=some (.int .i64 x1)∧W1.cell? ⟨A.ga,j*2+1,none⟩=some (.slice x2 x3 x4):=⟨by rw[hC1.b1.cell];rfl,by rw[hC1.b3.cell];rfl,hx1.1,hx1.2⟩;obtain⟨u,W2,a2,jk2,hap,hu,hrw2,hnew,hF2⟩:=yN.append ag (A.ns.take j) jk [(x1,x2,x3,x4)] _ W1 hrw1 hsl1 (by have:=HNS.out;rw[HLJ.out];simp;omega);rw[HLJ.out]at hap hu;have hu2:u=.slice (adr a2) (j+1) (j+1+jk2.length):=hu;have hne:∀g,ag=some g→g≠B1∧g≠B2∧g≠B3:=fun g e=>⟨(hrw1.arr g e).type_ne hC1.b1 (by decide),(hrw1.arr g e).type_ne hC1.b2 (by decide),(hrw1.arr g e).type_ne hC1.b3 (by decide)⟩;have hC2:=hC1.frm hF2 (fun g e=>⟨HBS.out g e,hne g e⟩);have hx2:=HCE.out W2 ((hF2.block A.ga (lL hgaR hBW.size) (fun e=>by have:=HBS.out _ e;omega)).trans (hF1.block _ hgaR id));have c3:W2.cell? ⟨B3,1,none⟩=some (.slice (adr ag) j (j+jk.length)):=by rw[hC2.b3.cell];rfl
   have z3:=hC2.b3.frozen 1;have hq2:W2.cell? ⟨B1,1,none⟩=some (.slice (some ⟨A.ga,0,none⟩) A.ns.length (A.ns.length+A.nj.length))∧W2.cell? ⟨B3,1,none⟩=some (.slice (adr ag) j (j+jk.length))∧W2.cell? ⟨A.ga,j*2,none⟩=some (.int .i64 x1)∧W2.cell? ⟨A.ga,j*2+1,none⟩=some (.slice x2 x3 x4):=⟨by rw[hC2.b1.cell];rfl,c3,hx2.1,hx2.2⟩;have hnb:∀g,a2=some g→w.heap.size≤g:=fun g e=>(hnew g e).elim (HBS.out g) fun q=>lT hC1.bel.size q;have hn3:∀g,a2=some g→¬g=B3:=fun g e=>(hrw2.arr g e).type_ne hC2.b3 (by decide);have HREL:Hid (CpR yN w (.int .i64 f.cur.length) (.slice (some ⟨A.ga,0,none⟩) A.ns.length (A.ns.length+A.nj.length)) (.slice (some ⟨A.gr,0,none⟩) f.roots.length (f.roots.length+A.rj.length)) (.int .i64 f.next) (.int .i64 f.gen) (.slice ma f.com.length mc) (.slice ta tn tc) B1 B2 B3 true (.slice (some ⟨A.gr,0,none⟩) f.roots.length (f.roots.length+A.rj.length)) A.ns (j+1) (W2.setCell ⟨B3,1,none⟩ (.slice (adr a2) (j+1) (j+1+jk2.length)))):=by
    refine⟨a2,jk2,hC2.set1 _,?_,hnb⟩;rw[HTN.out];exact hrw2.frm (Frm.set (S:=fun k=>k=B3) W2 (p:=⟨B3,1,none⟩) rfl _) hn3
   refine hK2 _ _ (fun _=>hq1) ?_;clear hK2 K2 hq0;refine oE 8 rfl fun K2 hK2=>?_;refine lC _ _ _ _ rfl 23 rfl _ _ rfl rfl u W2 (hap _) ?_;simp only[Act.put,sB,sZ,sS];subst hu2;refine hK2 _ _ (fun _=>hq2) ?_;clear hK2 K2 hq1 hu hap;refine oE 9 rfl fun K2 hK2=>?_;go_simp;refine hK2 _ _ (fun _=>hq2) ?_;clear hK2 K2;refine oE 10 rfl fun K2 hK2=>?_;go_simp;refine hK2 _ _ (fun q=>absurd rfl q) ?_;clear hK2 K2;refine aV (by kernel_rfl) ?_ _;clear hC1 hC2 hrw1 hrw2 hF1 hF2 hx1 hx2 hnew hne hnb hn3 hsl1 hBW;obtain⟨w3,hw3⟩:=eZ (W2.setCell ⟨B3,1,none⟩ (.slice (adr a2) (j+1) (j+1+jk2.length)));rw[hw3]at HREL;rw[hw3];clear hw3 c3 z3;go_wp2;go_roundw
   case rel=>exact⟨j+1,HJ1.out,by go_num,HREL.out⟩
   case measure=>have:=HJ1.out;simp[intOf];omega
  ·obtain rfl:j=A.ns.length:=by omega
   have hag:∃g,ag=some g:=by
    cases ag with
    | none=>have e:=(hrw.nil rfl).1;rw[List.take_of_length_le (nR _)]at e;have:=HNS.out;rw[e]at this;simp at this;omega
    | some g=>exact⟨g,rfl⟩
   obtain⟨g1,rfl⟩:=hag;obtain⟨jn,rfl⟩:∃jn,jn=jk:=⟨_,rfl⟩;rw[List.take_of_length_le (nR _)]at hrw;have z3:=hC.b3.frozen 2;have c3:wr.cell? ⟨B3,2,none⟩=some (.slice (some ⟨A.gr,0,none⟩) f.roots.length (f.roots.length+A.rj.length)):=by rw[hC.b3.cell];rfl
   have hC2:=hC.set2' (.slice none 0 0);have hrw':=hrw.frm (Frm.set (S:=fun k=>k=B3) wr (p:=⟨B3,2,none⟩) rfl (.slice none 0 0)) (fun g e=>(hrw.arr g e).type_ne hC.b3 (by decide));have hg1:=hbs g1 rfl;obtain⟨w4,hw4⟩:=eZ (wr.setCell ⟨B3,2,none⟩ (.slice none 0 0));obtain⟨NV1,hNV⟩:=eZ (Value.slice (adr (some g1)) A.ns.length (A.ns.length+jn.length));rw[hw4]at hC2 hrw';rw[hNV]at hC2;have HC2:=aA hC2;have HR2:=aA hrw';have HNV:=aA hNV;have HG1:=aA hg1;clear hC2 hrw' hNV hrw hC hSr hbs hg1;go_wp2;go_loopw [5] (fun i wr=>∃j:Nat,j≤f.roots.length∧i=.int .i64 j∧CpR yT w (.int .i64 f.cur.length) (.slice (some ⟨A.ga,0,none⟩) A.ns.length (A.ns.length+A.nj.length)) (.slice (some ⟨A.gr,0,none⟩) f.roots.length (f.roots.length+A.rj.length)) (.int .i64 f.next) (.int .i64 f.gen) (.slice ma f.com.length mc) (.slice ta tn tc) B1 B2 B3 false NV1 f.roots j wr∧yN.Rw wr (some g1) A.ns jn) (fun i _=>f.roots.length -(intOf i).toNat)
   case atStart=>exact⟨0,by omega,rfl,⟨none,[],HC2.out,⟨fun g e=>(by cases e),fun _=>⟨by simp,rfl⟩,by simp⟩,fun g e=>(by cases e)⟩,HR2.out⟩
   case round=>
    clear HC2 HR2 hw4 z3 c3;obtain⟨j,hj,rfl,⟨ag,jk,hC,hrw,hbs⟩,hrn⟩:=hrel;simp only[if_false,Bool.false_eq_true]at hC;have m1:wr.cell? ⟨B1,2,none⟩=some (.slice (some ⟨A.gr,0,none⟩) f.roots.length (f.roots.length+A.rj.length)):=by rw[hC.b1.cell];rfl
    have m2:wr.cell? ⟨B3,2,none⟩=some (.slice (adr ag) j (j+jk.length)):=by rw[hC.b3.cell];rfl
    have hSr:=HSV.out wr hC.bel;by_cases hlt:j<f.roots.length
    ·have hjI:(j:Int) <(f.roots.length:Int):=by omega
     have hcell:∀(W:World),W.heap[A.gr]?=wr.heap[A.gr]?→W.cell? ⟨A.gr,j*2,none⟩=some (.int .i64 (f.roots.getD j (0,0)).1)∧W.cell? ⟨A.gr,j*2+1,none⟩=some (.int .i64 (f.roots.getD j (0,0)).2):=fun W he=>by
      have hx:∀i,W.cell? ⟨A.gr,i,none⟩=wr.cell? ⟨A.gr,i,none⟩:=fun i=>by simp[World.cell?,he]
      rw[hx,hx];exact hSr.root hlt
     have HTN:=aA (cG f.roots j (0,0) hlt);have hlenj:(f.roots.take j).length=j:=by simp;omega
     obtain⟨m3,m4⟩:=hcell wr rfl;obtain⟨⟨x1,x2⟩,hxe⟩:∃x,f.roots.getD j (0,0)=x:=⟨_,rfl⟩;rw[hxe]at m3 m4 hcell HTN;simp only at m3 m4 hcell;have hq0:wr.drew.cell? ⟨B1,2,none⟩=some (.slice (some ⟨A.gr,0,none⟩) f.roots.length (f.roots.length+A.rj.length))∧wr.drew.cell? ⟨B3,2,none⟩=some (.slice (adr ag) j (j+jk.length))∧wr.drew.cell? ⟨A.gr,j*2,none⟩=some (.int .i64 x1)∧wr.drew.cell? ⟨A.gr,j*2+1,none⟩=some (.int .i64 x2):=⟨m1,m2,m3,m4⟩;have HC:=aA hC;have HRW:=aA hrw;have HRN:=aA hrn;have HBS:=aA hbs;have HCE:=aA hcell;have HLJ:=aA hlenj;have HJ1:Hid (j+1≤f.roots.length):=hlt;clear hcell hxe hC hrw hbs hSr hlenj hrn;go_wp2;refine aZ (fun W=>W.cell? ⟨B1,2,none⟩=some (.slice (some ⟨A.gr,0,none⟩) f.roots.length (f.roots.length+A.rj.length))∧W.cell? ⟨B3,2,none⟩=some (.slice (adr ag) j (j+jk.length))∧W.cell? ⟨A.gr,j*2,none⟩=some (.int .i64 x1)∧W.cell? ⟨A.gr,j*2+1,none⟩=some (.int .i64 x2)) 10 (by kernel_rfl) ?_;refine tJ 0 33 (.pointer (some ⟨B3,2,none⟩)) rfl hq0 ?_;simp only[Act.put,sB,sZ,sS];refine tJ 1 34 (.slice (adr ag) j (j+jk.length)) rfl hq0 ?_;simp only[Act.put,sB,sZ,sS];refine tJ 2 35 (.pointer (some ⟨B1,2,none⟩)) rfl hq0 ?_;simp only[Act.put,sB,sZ,sS];refine tJ 3 36 (.slice (some ⟨A.gr,0,none⟩) f.roots.length (f.roots.length+A.rj.length)) rfl hq0 ?_;simp only[Act.put,sB,sZ,sS];refine tJ 4 37 (.int .i64 j) rfl hq0 ?_;simp only[Act.put,sB,sZ,sS];refine tJ 5 38 (.pointer (some ⟨A.gr,j*2,none⟩)) rfl hq0 ?_;simp only[Act.put,sB,sZ,sS];refine tJ 6 39 (.agg #[.int .i64 x1,.int .i64 x2]) rfl hq0 ?_;simp only[Act.put,sB,sZ,sS];refine oE 7 rfl fun K2 hK2=>?_;go_simp;obtain⟨G,HG⟩:=exH (wr.heap.size);obtain⟨W1,HW1⟩:=exH ((wr.alloc (.cells #[.int .i64 x1,.int .i64 x2] 77)).drew);rw[←HW1.out,←HG.out];have hBW:Bl wr W1:=by rw[HW1.out];exact((bQ _ wr).alloc (nR _) _).drew
     have hF1:Frm (fun _=>False) wr W1:=Frm.of_below hBW;have hsl1:yT.Sl W1 (.slice (some ⟨G,0,none⟩) 1 1) [(x1,x2)]:=by
      rw[HW1.out,HG.out];exact(Ely.Sl.new (Y:=yT) wr (x1,x2) rfl).below (bQ _ _).drew
     have hC1:=HC.out.frm hF1 (fun _ q=>q.elim);have hrw1:=HRW.out.frm hF1 (fun _ _=>id);have hgaR:A.gr<wr.heap.size:=lL hgr0 HC.out.bel.size;have hx1:=HCE.out W1 (hF1.block _ hgaR id);have hq1:W1.cell? ⟨B1,2,none⟩=some (.slice (some ⟨A.gr,0,none⟩) f.roots.length (f.roots.length+A.rj.length))∧W1.cell? ⟨B3,2,none⟩=some (.slice (adr ag) j (j+jk.length))∧W1.cell? ⟨A.gr,j*2,none⟩=some (.int .i64 x1)∧W1.cell? ⟨A.gr,j*2+1,none⟩=some (.int .i64 x2):=⟨by rw[hC1.b1.cell];rfl,by rw[hC1.b3.cell];rfl,hx1.1,hx1.2⟩;obtain⟨u,W2,a2,jk2,hap,hu,hrw2,hnew,hF2⟩:=yT.append ag (f.roots.take j) jk [(x1,x2)] _ W1 hrw1 hsl1 (by have:=HNS.out;rw[HLJ.out];simp;omega);rw[HLJ.out]at hap hu;have hu2:u=.slice (adr a2) (j+1) (j+1+jk2.length):=hu;have hne:∀g,ag=some g→g≠B1∧g≠B2∧g≠B3:=fun g e=>⟨(hrw1.arr g e).type_ne hC1.b1 (by decide),(hrw1.arr g e).type_ne hC1.b2 (by decide),(hrw1.arr g e).type_ne hC1.b3 (by decide)⟩;have hC2:=hC1.frm hF2 (fun g e=>⟨HBS.out g e,hne g e⟩);have hx2:=HCE.out W2 ((hF2.block A.gr (lL hgaR hBW.size) (fun e=>by have:=HBS.out _ e;omega)).trans (hF1.block _ hgaR id));have c3:W2.cell? ⟨B3,2,none⟩=some (.slice (adr ag) j (j+jk.length)):=by rw[hC2.b3.cell];rfl
     have z3:=hC2.b3.frozen 2;have hq2:W2.cell? ⟨B1,2,none⟩=some (.slice (some ⟨A.gr,0,none⟩) f.roots.length (f.roots.length+A.rj.length))∧W2.cell? ⟨B3,2,none⟩=some (.slice (adr ag) j (j+jk.length))∧W2.cell? ⟨A.gr,j*2,none⟩=some (.int .i64 x1)∧W2.cell? ⟨A.gr,j*2+1,none⟩=some (.int .i64 x2):=⟨by rw[hC2.b1.cell];rfl,c3,hx2.1,hx2.2⟩;have hnb:∀g,a2=some g→w.heap.size≤g:=fun g e=>(hnew g e).elim (HBS.out g) fun q=>lT hC1.bel.size q;have hn3:∀g,a2=some g→¬g=B3:=fun g e=>(hrw2.arr g e).type_ne hC2.b3 (by decide);have HREL:Hid (CpR yT w (.int .i64 f.cur.length) (.slice (some ⟨A.ga,0,none⟩) A.ns.length (A.ns.length+A.nj.length)) (.slice (some ⟨A.gr,0,none⟩) f.roots.length (f.roots.length+A.rj.length)) (.int .i64 f.next) (.int .i64 f.gen) (.slice ma f.com.length mc) (.slice ta tn tc) B1 B2 B3 false NV1 f.roots (j+1) (W2.setCell ⟨B3,2,none⟩ (.slice (adr a2) (j+1) (j+1+jk2.length)))):=by
      refine⟨a2,jk2,hC2.set2' _,?_,hnb⟩;rw[HTN.out];exact hrw2.frm (Frm.set (S:=fun k=>k=B3) W2 (p:=⟨B3,2,none⟩) rfl _) hn3
     refine hK2 _ _ (fun _=>hq1) ?_;clear hK2 K2 hq0;refine oE 8 rfl fun K2 hK2=>?_;refine lC _ _ _ _ rfl 41 rfl _ _ rfl rfl u W2 (hap _) ?_;simp only[Act.put,sB,sZ,sS];subst hu2;refine hK2 _ _ (fun _=>hq2) ?_;clear hK2 K2 hq1 hu hap;refine oE 9 rfl fun K2 hK2=>?_;go_simp;refine hK2 _ _ (fun _=>hq2) ?_;clear hK2 K2;refine oE 10 rfl fun K2 hK2=>?_;go_simp;refine hK2 _ _ (fun q=>absurd rfl q) ?_;clear hK2 K2;refine aV (by kernel_rfl) ?_ _;have HRN2:Hid (yN.Rw (W2.setCell ⟨B3,2,none⟩ (.slice (adr a2) (j+1) (j+1+jk2.length))) (some g1) A.ns jn):=by
      have k1:=HRN.out.frm hF1 (fun _ _=>id);have k2:=k1.frm hF2 (fun g e q=>(k1.arr g e).type_ne (hrw1.arr g q) (by decide) rfl);exact k2.frm (Frm.set (S:=fun k=>k=B3) W2 (p:=⟨B3,2,none⟩) rfl _) (fun g e=>(k2.arr g e).type_ne hC2.b3 (by decide))
     clear hC1 hC2 hrw1 hrw2 hF1 hF2 hx1 hx2 hnew hne hnb hn3 hsl1 hBW;obtain⟨w3,hw3⟩:=eZ (W2.setCell ⟨B3,2,none⟩ (.slice (adr a2) (j+1) (j+1+jk2.length)));rw[hw3]at HREL HRN2;rw[hw3];clear hw3 c3 z3;go_wp2;go_roundw
     case rel=>exact⟨j+1,HJ1.out,by go_num,HREL.out,HRN2.out⟩
     case measure=>have:=HJ1.out;simp[intOf];omega
    ·obtain rfl:j=f.roots.length:=by omega
     obtain⟨g2,rfl⟩:∃g,ag=some g:=by
      cases ag with
      | none=>have e:=(hrw.nil rfl).1;rw[List.take_of_length_le (nR _)]at e;rw[e]at h1;simp at h1
      | some g=>exact⟨g,rfl⟩
     rw[List.take_of_length_le (nR _)]at hrw;have hg2:=hbs g2 rfl;have hnv:=HNV.out;subst hnv;have K0:IsC wr B2 #[.int .i64 0,.slice none 0 0,.slice none 0 0,.int .i64 0,.int .i64 0,.slice none 0 0,.slice none 0 0] 57:=hC.b2;have v0:wr.cell? ⟨B3,0,none⟩=some (.int .i64 f.cur.length):=by rw[hC.b3.cell];rfl
     have v1:wr.cell? ⟨B3,1,none⟩=some (.slice (some ⟨g1,0,none⟩) A.ns.length (A.ns.length+jn.length)):=by rw[hC.b3.cell];rfl
     have v2:wr.cell? ⟨B3,2,none⟩=some (.slice (some ⟨g2,0,none⟩) f.roots.length (f.roots.length+jk.length)):=by rw[hC.b3.cell];rfl
     have v3:wr.cell? ⟨B3,3,none⟩=some (.int .i64 f.next):=by rw[hC.b3.cell];rfl
     have v4:wr.cell? ⟨B3,4,none⟩=some (.int .i64 f.gen):=by rw[hC.b3.cell];rfl
     have v5:wr.cell? ⟨B3,5,none⟩=some (.slice ma f.com.length mc):=by rw[hC.b3.cell];rfl
     have v6:wr.cell? ⟨B3,6,none⟩=some (.slice ta tn tc):=by rw[hC.b3.cell];rfl
     have y0:wr.cell? ⟨B2,0,none⟩=some (.int .i64 0):=K0.c rfl;have z0:=K0.frozen 0;have K1:=K0.set 0 (.int .i64 f.cur.length);have F1:Frm (fun k=>k=B2) wr (wr.setCell ⟨B2,0,none⟩ (.int .i64 f.cur.length)):=Frm.set (S:=fun k=>k=B2) wr (p:=⟨B2,0,none⟩) rfl _;obtain⟨W1,hW1⟩:=eZ (wr.setCell ⟨B2,0,none⟩ (.int .i64 f.cur.length));rw[hW1]at K1 F1;have y1:W1.cell? ⟨B2,1,none⟩=some (.slice none 0 0):=K1.c rfl;have z1:=K1.frozen 1;have K2:=K1.set 1 (.slice (some ⟨g1,0,none⟩) A.ns.length (A.ns.length+jn.length));have F2:Frm (fun k=>k=B2) W1 (W1.setCell ⟨B2,1,none⟩ (.slice (some ⟨g1,0,none⟩) A.ns.length (A.ns.length+jn.length))):=Frm.set (S:=fun k=>k=B2) W1 (p:=⟨B2,1,none⟩) rfl _;obtain⟨W2,hW2⟩:=eZ (W1.setCell ⟨B2,1,none⟩ (.slice (some ⟨g1,0,none⟩) A.ns.length (A.ns.length+jn.length)));rw[hW2]at K2 F2;have y2:W2.cell? ⟨B2,2,none⟩=some (.slice none 0 0):=K2.c rfl;have z2:=K2.frozen 2;have K3:=K2.set 2 (.slice (some ⟨g2,0,none⟩) f.roots.length (f.roots.length+jk.length));have F3:Frm (fun k=>k=B2) W2 (W2.setCell ⟨B2,2,none⟩ (.slice (some ⟨g2,0,none⟩) f.roots.length (f.roots.length+jk.length))):=Frm.set (S:=fun k=>k=B2) W2 (p:=⟨B2,2,none⟩) rfl _;obtain⟨W3,hW3⟩:=eZ (W2.setCell ⟨B2,2,none⟩ (.slice (some ⟨g2,0,none⟩) f.roots.length (f.roots.length+jk.length)));rw[hW3]at K3 F3;have y3:W3.cell? ⟨B2,3,none⟩=some (.int .i64 0):=K3.c rfl;have z3:=K3.frozen 3;have K4:=K3.set 3 (.int .i64 f.next);have F4:Frm (fun k=>k=B2) W3 (W3.setCell ⟨B2,3,none⟩ (.int .i64 f.next)):=Frm.set (S:=fun k=>k=B2) W3 (p:=⟨B2,3,none⟩) rfl _;obtain⟨W4,hW4⟩:=eZ (W3.setCell ⟨B2,3,none⟩ (.int .i64 f.next));rw[hW4]at K4 F4;have y4:W4.cell? ⟨B2,4,none⟩=some (.int .i64 0):=K4.c rfl;have z4:=K4.frozen 4;have K5:=K4.set 4 (.int .i64 f.gen);have F5:Frm (fun k=>k=B2) W4 (W4.setCell ⟨B2,4,none⟩ (.int .i64 f.gen)):=Frm.set (S:=fun k=>k=B2) W4 (p:=⟨B2,4,none⟩) rfl _;obtain⟨W5,hW5⟩:=eZ (W4.setCell ⟨B2,4,none⟩ (.int .i64 f.gen));rw[hW5]at K5 F5;have y5:W5.cell? ⟨B2,5,none⟩=some (.slice none 0 0):=K5.c rfl;have z5:=K5.frozen 5;have K6:=K5.set 5 (.slice ma f.com.length mc);have F6:Frm (fun k=>k=B2) W5 (W5.setCell ⟨B2,5,none⟩ (.slice ma f.com.length mc)):=Frm.set (S:=fun k=>k=B2) W5 (p:=⟨B2,5,none⟩) rfl _;obtain⟨W6,hW6⟩:=eZ (W5.setCell ⟨B2,5,none⟩ (.slice ma f.com.length mc));rw[hW6]at K6 F6;have y6:W6.cell? ⟨B2,6,none⟩=some (.slice none 0 0):=K6.c rfl;have z6:=K6.frozen 6;have K7:=K6.set 6 (.slice ta tn tc);have F7:Frm (fun k=>k=B2) W6 (W6.setCell ⟨B2,6,none⟩ (.slice ta tn tc)):=Frm.set (S:=fun k=>k=B2) W6 (p:=⟨B2,6,none⟩) rfl _;obtain⟨W7,hW7⟩:=eZ (W6.setCell ⟨B2,6,none⟩ (.slice ta tn tc));rw[hW7]at K7 F7;have u0:W7.cell? ⟨B2,0,none⟩=some (.int .i64 f.cur.length):=K7.c rfl;have u1:W7.cell? ⟨B2,1,none⟩=some (.slice (some ⟨g1,0,none⟩) A.ns.length (A.ns.length+jn.length)):=K7.c rfl;have u2:W7.cell? ⟨B2,2,none⟩=some (.slice (some ⟨g2,0,none⟩) f.roots.length (f.roots.length+jk.length)):=K7.c rfl;have u3:W7.cell? ⟨B2,3,none⟩=some (.int .i64 f.next):=K7.c rfl;have u4:W7.cell? ⟨B2,4,none⟩=some (.int .i64 f.gen):=K7.c rfl;have u5:W7.cell? ⟨B2,5,none⟩=some (.slice ma f.com.length mc):=K7.c rfl;have u6:W7.cell? ⟨B2,6,none⟩=some (.slice ta tn tc):=K7.c rfl;have F:Frm (fun k=>k=B2) wr W7:=(((((F1.trans F2).trans F3).trans F4).trans F5).trans F6).trans F7;have hb7:Bl w W7:=hC.bel.trans (F.below hC.bel.size fun g e=>by subst e;have:=hC.n12;exact hC.lo2);have hS7:=HSV.out W7 hb7;have r7:=hrw.frm F (fun g e=>(hrw.arr g e).type_ne K0 (by decide));have n7:=hrn.frm F (fun g e=>(hrn.arr g e).type_ne K0 (by decide));have HPO:Hid (PS (.returned (.agg #[.int .i64 f.cur.length,.slice (some ⟨g1,0,none⟩) A.ns.length (A.ns.length+jn.length),.slice (some ⟨g2,0,none⟩) f.roots.length (f.roots.length+jk.length),.int .i64 f.next,.int .i64 f.gen,.slice ma f.com.length mc,.slice ta tn tc])) W7):=by
      show PS _ _
      rw[HPP.out];refine HPS.out _ _ {A with ga:=g1,nj:=jn,gr:=g2,rj:=jk} ?_ ⟨⟨n7.arr g1 rfl,fun b d hd=>hS7.nds.nd b d hd,n7.small⟩,hS7.ln,r7.arr g2 rfl,r7.small,hS7.com⟩ rfl HG1.out hg2 hb7;unfold stV aL;rw[HCV.out.1,HCV.out.2.1]
     clear m2 hC hrw hrn hbs hSr hS7 r7 n7 F F1 F2 F3 F4 F5 F6 F7 K0 K1 K2 K3 K4 K5 K6 K7 hb7;go_wp2;refine bodyPost_ret (v:=.agg #[.int .i64 f.cur.length,.slice (some ⟨g1,0,none⟩) A.ns.length (A.ns.length+jn.length),.slice (some ⟨g2,0,none⟩) f.roots.length (f.roots.length+jk.length),.int .i64 f.next,.int .i64 f.gen,.slice ma f.com.length mc,.slice ta tn tc]) (by simp[results,Tryz.results65,Tryz.f65,go_sem,u0,u1,u2,u3,u4,u5,u6];try rfl) rfl ?_;exact HPO.out
theorem rK(v:Value)(l:List Int)(w:World)(hv:y64.Sl w v l)(hl:l.length≤1000):Calls Tryz.prog 34 #[v] w fun e w'=>∃u,e=.returned u∧y64.Own w.heap.size w' u l∧Bl w w':=by
 have HV:=aA fun(w':World) (hb:Bl w w')=>hv.below hb;obtain⟨va,vc,rfl⟩:=hv.len;clear hv;go_enter Tryz.func34,Tryz.ntmps34;go_wp2;go_loopw [3,4] (fun u i wr=>∃k:Nat,k≤l.length∧i=.int .i64 k∧y64.Own w.heap.size wr u (l.take k)∧Bl w wr) (fun _ i _=>l.length -(intOf i).toNat)
 case atStart=>exact⟨0,Nat.zero_le _,rfl,Ely.Own.lit _ _ (nR _) _ rfl,(bQ _ _).alloc (nR _) _⟩
 case round=>
  obtain⟨k,hk,rfl,hown,hb⟩:=hrel;have hsz:=hb.size;by_cases hlt:k<l.length
  ·have hki:(k:Int) <(l.length:Int):=by omega
   obtain⟨g,o,c,e,hg,hc⟩:=(HV.out wr hb).at (by omega:0<l.length);cases e;have x0:=hc k 0 hlt (by decide);have e0:o+k*y64.n+0=o+k:=by show o+k*1+0=o+k;omega
   have x1:wr.cell? ⟨g,o+k,none⟩=some (.int .i64 (l.getD k 0)):=by rw[e0]at x0;exact x0
   have HSN:=aA (cG l k 0 hlt);have hfl:(l.take k).length<1000000:=by simp;omega
   clear x0 e0 hc hg HV;generalize l.take k=ys at *;generalize l.getD k 0=x at *;go_wp2_with (first | (at_builtin;refine y64.wpApp1 rfl _ _ rfl hown rfl x rfl rfl hfl hsz ?_;intro v' w1 hown1 hbel1 k3) | go_in);rw[←HSN.out]at hown1;go_roundw
   case rel=>exact⟨k+1,by omega,by go_num,hown1,hb.trans hbel1⟩
   case measure=>simp[intOf];omega
  ·obtain rfl:k=l.length:=by omega
   rw[List.take_of_length_le (nR _)]at hown;go_wp2;go_ret;exact⟨_,rfl,hown,hb⟩
theorem aBV{f:fZ}{t:Nat}(hq:16≤f.roots.length∨65535≤f.next)(w:World)(S:Nat)(A:SA)(hS:Sp w S A f):
  Calls Tryz.prog 66 #[.pointer (some ⟨S,0,none⟩),.int .i64 t] w fun r w'=>r=.returned (.tuple #[.int .i64 0,.int .i64 4])∧w'=w:=by
 obtain⟨_,_,s2,s3,_⟩:=hS.cells;by_cases q:16≤f.roots.length
 ·have h16I:(16:Int)≤(f.roots.length:Int):=by omega
  clear hS hq q;go_enter Tryz.func66,Tryz.ntmps66;go_wp2;refine bodyPost_ret (v:=.tuple #[.int .i64 0,.int .i64 4]) (by simp[results,Tryz.f66,go_sem]) rfl ?_;exact⟨rfl,rfl⟩
 ·have h16I:¬((16:Int)≤(f.roots.length:Int)):=by omega
  have hnI:(65535:Int)≤f.next:=hq.resolve_left q;clear hS hq q;go_enter Tryz.func66,Tryz.ntmps66;go_wp2;refine bodyPost_ret (v:=.tuple #[.int .i64 0,.int .i64 4]) (by simp[results,Tryz.f66,go_sem]) rfl ?_;exact⟨rfl,rfl⟩
theorem aEQ{f:fZ}{t:Nat}(h1:f.roots.length=1)(w:World)(S:Nat)(A:SA)(hS:Sp w S A f):
  Calls Tryz.prog 67 #[.pointer (some ⟨S,0,none⟩),.int .i64 t] w fun r w'=>r=.returned (.tuple #[.int .i64 0,.int .i64 18])∧w'=w:=by
 obtain⟨_,_,s2,_⟩:=hS.cells;rw[h1]at s2;clear hS;go_enter Tryz.func67,Tryz.ntmps67;go_wp2;refine bodyPost_ret (v:=.tuple #[.int .i64 0,.int .i64 18]) (by simp[results,Tryz.f67,go_sem]) rfl ?_;exact⟨rfl,rfl⟩
def opM(f:fZ)(kind tree:Int)(key val:ByteArray):fZ×An:=
 if(aX f kind tree key val).2≠0 then(f,(aX f kind tree key val).2,0,.empty)else
 if kind=1 then lY f (aX f kind tree key val).1 key val else
 if kind=2 then mW f (aX f kind tree key val).1 key else
 if kind=3 then lZ f (aX f kind tree key val).1 else
 if kind=4 then oN f (aX f kind tree key val).1 else nZ f (aX f kind tree key val).1 key
structure pR(f g:fZ):Prop where
 inv:Inv g
 ve:VE g
 gen:g.gen=f.gen
 com:g.com=f.com
 table:g.table=f.table
 cur:g.cur.length=f.cur.length
theorem pR.refl{f:fZ}(h:Inv f)(hV:VE f):pR f f:=⟨h,hV,rfl,rfl,rfl,rfl⟩
theorem aFS{f:fZ}(h:Inv f)(hV:VE f){t:Nat}(ht:t<f.roots.length)(key val:ByteArray):pR f (lY f t key val).1:=by
 obtain⟨hW,hrt,_⟩:=h.hOf ht;unfold lY;split
 ·exact .refl h hV
 ·rename_i g th hp
  split
  ·exact .refl h hV
  ·obtain⟨H',a,b,c⟩:=aAK hW hrt hp
   exact⟨h.after a b c,aLE hW hV hp,c.gen,c.com,c.table,c.cur⟩
theorem aGB{f:fZ}(h:Inv f)(hV:VE f){t:Nat}(ht:t<f.roots.length)(key:ByteArray):pR f (mW f t key).1:=by
 obtain⟨hW,hrt,_⟩:=h.hOf ht;unfold mW;split
 ·exact .refl h hV
 ·rename_i v hf
  have hm:=kS hW.ok hf;split
  ·exact .refl h hV
  ·rename_i g hp
   split
   ·exact .refl h hV
   ·obtain⟨H',a,b,c⟩:=vW hW hrt hm hp
    exact⟨h.after a b c,aDQ hW hrt hm hV hp,c.gen,c.com,c.table,c.cur⟩
theorem aID{f:fZ}(h:Inv f)(hV:VE f){t:Nat}(ht:t<f.roots.length):pR f (lZ f t).1:=by
 unfold lZ;split
 ·exact .refl h hV
 ·rename_i hq
  exact⟨h.clone ht (by omega) (by omega),aHT hV t,rfl,rfl,rfl,by simp[cS]⟩
theorem aHD{f:fZ}(h:Inv f)(hV:VE f){t:Nat}(ht:t<f.roots.length):pR f (oN f t).1:=by
 obtain⟨hW,hrt,_⟩:=h.hOf ht;unfold oN;split
 ·exact .refl h hV
 ·obtain⟨a,_,_,b,_,_,c,d,e,_⟩:=xA h ht (by omega) hW.ok
  exact⟨a,aIO h hV ht (by omega) hW.ok,c,d,e,b⟩
theorem aHG{f:fZ}(h:Inv f)(hV:VE f)(t:Nat)(key:ByteArray):pR f (nZ f t key).1:=by
 unfold nZ;split
 ·exact .refl h hV
 ·exact .refl h hV
theorem xX{f:fZ}(h:Inv f){kind tree:Int}{key val:ByteArray}:(aX f kind tree key val).1<f.roots.length:=by
 have:=h.ne
 unfold aX;split
 ·exact this
 ·split
  ·exact this
  ·split
   ·exact this
   ·rename_i t ht
    split
    ·exact this
    ·exact(xH ht).1
theorem aJX{f:fZ}(h:Inv f)(hV:VE f)(kind tree:Int)(key val:ByteArray):pR f (opM f kind tree key val).1:=by
 have ht:=xX h (kind:=kind) (tree:=tree) (key:=key) (val:=val);unfold opM;split
 ·exact .refl h hV
 ·split
  ·exact aFS h hV ht key val
  ·split
   ·exact aGB h hV ht key
   ·split
    ·exact aID h hV ht
    ·split
     ·exact aHD h hV ht
     ·exact aHG h hV _ key

import Derived.Stop.RegionWithIn
import Derived.Test.YtaahkgkdpnnhhaaGreatHq13
set_option maxHeartbeats 9999999
set_option maxRecDepth 99999
set_option linter.all false
namespace Go.Proofs.YtaahkgkdpnnhhaaGreat
open Go.RowKit Go.Shelf Fo
variable{K:Int}{m t:Nat}{w:World}{f:fZ}
attribute [local go_sem] Oper.semAt_some
theorem UC.pos{h:Nat}{b:Nat}(u:UC h f b)(x:Nat):0≤cu f x:=by
 obtain⟨g,S,ht,E,ab,ip,-⟩:=u;rw[nC ab];exact ip.dom.pos x
theorem Sz.uk{g:fZ}(h:Sz K f)(u:UK f g)(hp:∀x,0≤cu g x):Sz K g:=by
 have hn:∀b d,g.nodes b=some d→f.nodes b=some d:=fun b d hb=>by
  rcases u.nodes b with q | q
  ·rw[q]at hb;exact hb
  ·rw[q]at hb;cases hb
 exact⟨by rw[u.len];exact h.n512,by rw[u.len];exact h.n8,by rw[u.len,u.com];exact h.com,fun b d hb=>h.ent b d (hn b d hb),fun b d hb=>by rw[u.len];exact h.lt b d (hn b d hb),fun i=>⟨hp i,Int.le_trans (u.cu i) (h.cb i).2⟩,fun i=>by unfold co;rw[u.com];exact h.mb i⟩
theorem Frm.own{S:Nat→Prop}{w0 w':World}{row:Option Nat}(h:Frm S w0 w)(hg:w.grownBy w' row)(hr:∀r,row=some r→w0.heap.size≤r):Frm S w0 w':=
 ⟨hg.os.trans h.os,hg.tape.trans h.tape,hg.output.trans h.output,lT h.size hg.size,fun k hk hn=>(hg.block k (lL hk h.size) fun e=>by have:=hr k e.symm;omega).trans (h.block k hk hn)⟩
structure UnP(w:World)(ρ:Nat→Nat)(P:Nat)(A:Adr)(J:List aQ)(r:fZ×Int)(e:Ending)(w':World):Prop where
 e:e=.returned (.int .i64 r.2)
 ex:∃φ',St w' ρ P {A with φ:=φ'} r.1 J
 frm:Frm (fun k=>k=A.c∨k=A.m) w w'
theorem vQ(F:Fence)(n:Nat)(hW:∀{f:FuncId} {args:Array Value} {w:World} {R:Ending→World→Prop} {m:Nat},Calls Tryz.prog f args w R→CallsIn F m Tryz.prog f args w R)(pa:∀k,F.fn k)(c9:F.round=none)(hn:5≤n)
  (h:Nat) (w:World) (ρ:Nat→Nat) (P:Nat) (A:Adr) (f:fZ) (J:List aQ) (b:Nat) (hS:St w ρ P A f J) (hz:Sz K f) (hK:K≤900000) (hu:UC h f b) (r:List Nat→fZ×Int) (d:Nd) (hd:f.nodes b=some d) (KF:r []=(dec f b,1))
  (fl:¬0<cu f b-1→∀(pre post:List Nat),kids d=pre++post→1≤(r pre).2∧(r pre).2≤600)
  (IH:¬0<cu f b-1→∀(pre:List Nat) (x:Nat) (post:List Nat),kids d=pre++x :: post→∀(W:World) (φ1:Nat→Option Nat),St W ρ P {A with φ:=φ1} (r pre).1 J→Calls Tryz.prog 127 #[.pointer (some ⟨P,0,none⟩),.int .i64 (x:Int)] W (UnP W ρ P {A with φ:=φ1} J ((r (pre++[x])).1,(r (pre++[x])).2 -(r pre).2))):
  CallsIn F n Tryz.prog 127 #[.pointer (some ⟨P,0,none⟩),.int .i64 b] w (UnP w ρ P A J (if 0<cu f b-1 then(dec f b,0)else(delN (r (kids d)).1 b,(r (kids d)).2))):=by
 have nk:1≤n:=by omega
 obtain⟨d',gd,d9,ed,kf,-⟩:=hu.live;rw[hd]at gd;cases gd;have DN:(b:Int) <(f.cur.length:Int):=by omega
 have fj:d.2.length≤10:=hz.ent b d hd;obtain⟨ja,jp,jj,hR,hJ⟩:=id hS;obtain⟨m3,m4,m5,m7⟩:=hR.cells;have kz:=hR.count d9;have DL:=hR.hP.lt;have au:=hR.hc.lt;have CV:=hR.hm.lt;have sc:=hz.cb b;have wt:IntKind.i64.wrap (cu f b-1)=cu f b-1:=IntWalk.i64_in _ ⟨by omega,by omega⟩;refine callsIn_of_wp_marks Tryz.func127 rfl (pa _) ?_ c9;simp only[Tryz.ntmps127,List.size_toArray,List.length_cons,List.length_nil,Nat.reduceAdd,Nat.reduceSub,Array.replicate_succ,Array.replicate_zero,List.push_toArray,List.append_toArray,List.nil_append,List.cons_append];have eX:Bl w (w.alloc (.cells #[.pointer (some ⟨P,0,none⟩)] 65)):=(bQ _ w).alloc (nR _) _;have br:=hS.below eX;have iq:=Boxed.new w 65 (.pointer (some ⟨P,0,none⟩));have jx:(w.alloc (.cells #[.pointer (some ⟨P,0,none⟩)] 65)).heap.size=w.heap.size+1:=by simp
 have k1:=iq.cell;have av:w.heap.size≠A.c:=by omega
 obtain⟨w1,bh⟩:=eZ (w.alloc (.cells #[.pointer (some ⟨P,0,none⟩)] 65));rw[bh]at eX br iq jx k1;obtain⟨ja1,jp1,jj1,Fm,oy⟩:=id br;obtain⟨n3,n4,n5,n7⟩:=Fm.cells;have QP:=Fm.count d9;have Qh:w1.frozen? ⟨A.c,b,none⟩=false:=Fm.hc.frozen b;obtain⟨ax,sk⟩:=br.setC (b:=b) d9 (cu f b-1);have fv:Boxed (w1.setCell ⟨A.c,b,none⟩ (.int .i64 (cu f b-1))) w.heap.size 65 (.pointer (some ⟨P,0,none⟩)):=(aZ _ _ av).trans iq;have k2:=fv.cell;obtain⟨w2,ci⟩:=eZ (w1.setCell ⟨A.c,b,none⟩ (.int .i64 (cu f b-1)));have du:Frm (fun k=>k=A.c∨k=A.m) w w2:=by
  rw[←ci];exact(Frm.of_below eX).trans (Frm.set w1 (p:=⟨A.c,b,none⟩) (.inl rfl) _)
 have ti:w2.heap.size=w.heap.size+1:=by rw[←ci,←jx];exact cZ (g:=A.c) [_] w1 b
 rw[ci]at ax sk fv k2;obtain⟨ja2,jp2,jj2,BO,nu⟩:=id ax;obtain⟨o3,o4,o5,o7⟩:=BO.cells;have o4':w2.cell? ⟨P,4,none⟩=some (.slice (some ⟨A.c,0,none⟩) f.cur.length f.cur.length):=by
  rw[o4];simp[Fo.setC]
 have JF:w2.cell? ⟨A.c,b,none⟩=some (.int .i64 (cu f b-1)):=by
  rw[BO.hc.cell];simp[dD,Fo.setC,d9]
 clear o4 o5 o7 n5 n7 m3 m4 m5 m7;by_cases hc:0<cu f b-1
 ·rw[if_pos hc]
  have QR:(0:Int)<cu f b-1:=hc;gi_wp2;exact⟨.int .i64 0,by simp[results,Tryz.f127,go_sem],⟨rfl,⟨A.φ,ax⟩,du⟩⟩
 ·rw[if_neg hc]
  have QR:¬(0:Int)<cu f b-1:=hc;obtain⟨q,hφ,ww,wu,junk,hN⟩:=BO.nd b d hd;have gx:=BO.hm.lookup b (by have:=hz.n512;omega);rw[hφ]at gx;simp only[eT,Option.map_some]at gx;obtain⟨w3,dw⟩:=eZ (w2.alloc (.cells #[.int .i64 1] 2));obtain⟨D1,Gc⟩:=eZ (w2.heap.size);have fk:=bAl dw;have Hf:w3.heap.size=D1+1:=by rw[←dw,←Gc];simp
  have JW:Boxed w3 D1 2 (.int .i64 1):=by rw[←dw,←Gc];exact Boxed.new _ _ _
  have ki:Boxed w3 w.heap.size 65 (.pointer (some ⟨P,0,none⟩)):=(fk.block _ (by omega)).trans fv;have cy:=ax.below fk;have qz:=hN.below fk;obtain⟨ja3,jp3,jj3,Dq,vf⟩:=id cy;have p3:=Dq.cells.m3;have k3:=ki.cell;have RK:(Instr.lookup 68 (.map (some A.m)) (.int .i64 b) false).run Tryz.prog w3=.ok (.pointer (some ⟨q,0,none⟩)) w3:=by
   have:=Dq.hm.lookup b (by have:=hz.n512;omega)
   rw[hφ]at this;simpa only[eT,Option.map_some] using this
  have WY:w3.cell? ⟨D1,0,none⟩=some (.int .i64 1):=JW.cell;have lh:=aA (aI jx (aI ti Hf));clear gx jx ti Hf;gi_wp2_with (gi_at_call 59;refine(kO F (n-1) (pa _) c9 _ _).mono ?_;rintro e w' ⟨rfl,rfl⟩);obtain⟨jx,ti,Xa⟩:=lh.out;clear lh;have dq:Bl w3 (w3.alloc (.cells #[.pointer (some ⟨q,0,none⟩)] 112)):=(bQ _ w3).alloc (nR _) _;have Cr:IsC (w3.alloc (.cells #[.pointer (some ⟨q,0,none⟩)] 112)) w3.heap.size #[.pointer (some ⟨q,0,none⟩)] 112:=IsC.new _ _ _;have Rt:(w3.alloc (.cells #[.pointer (some ⟨q,0,none⟩)] 112)).heap.size=w3.heap.size+1:=by simp
  generalize In:w3.alloc (.cells #[.pointer (some ⟨q,0,none⟩)] 112)=w4 at *;have aw:=cy.below dq;have Dp:=qz.below dq;have kj:Boxed w4 w.heap.size 65 (.pointer (some ⟨P,0,none⟩)):=(dq.block _ (by omega)).trans ki;have Qc:Boxed w4 D1 2 (.int .i64 1):=(dq.block _ (by omega)).trans JW;have C1:q<w4.heap.size:=Dp.box.lt;have Av:d.1=2→∀e∈d.2,0≤e.2.2:=fun h2 e he=>by
   rcases kf with q | ⟨_,_,q⟩
   ·omega
   ·exact(q e he).1
  have jl:Frm (fun k=>k=A.c∨k=A.m) w w4:=(du.trans (Frm.of_below fk)).trans (Frm.of_below dq);have VN:w.heap.size<D1:=by omega
  have JD:A.c<w.heap.size:=au;have YL:A.m<w.heap.size:=CV;have LE:q≠A.c∧q≠A.m∧q≠D1∧∀g,A.α b=some g→g≠A.c∧g≠A.m∧g≠D1:=by
   have z1:=Dq.rc;have z2:=Dq.rm;have z3:ρ D1=0:=Nat.eq_zero_of_not_pos fun q=>absurd (BO.own D1 (by omega)) (by omega);refine⟨fun e=>?_,fun e=>?_,fun e=>?_,fun g hg=>⟨fun e=>?_,fun e=>?_,fun e=>?_⟩⟩
   ·rw[←e,ww]at z1;unfold cE at z1;omega
   ·rw[←e,ww]at z2;unfold cE at z2;omega
   ·rw[←e,ww]at z3;unfold cE at z3;omega
   ·rw[←e,wu g hg]at z1;unfold cB at z1;omega
   ·rw[←e,wu g hg]at z2;unfold cB at z2;omega
   ·rw[←e,wu g hg]at z3;unfold cB at z3;omega
  have Xq:ρ D1=0:=Nat.eq_zero_of_not_pos fun q=>absurd (BO.own D1 (by omega)) (by omega);have Py:St w4 ρ P {A with φ:=A.φ} (r []).1 J:=by rw[KF];exact aw
  have Re:(r []).2=1:=by rw[KF]
  clear cy ax br Dq BO Fm vf nu oy qz hN ki JW k3 WY p3 RK k2 k1 o3 o4' JF QP Qh n3 n4 aw sk eX iq bh ci dw;refine jB c9 nk (gf:=82) (lb:=#[.pointer (some ⟨w3.heap.size,0,none⟩)]) rfl (pa _) (enters_of Tryz.func82 (by kernel_rfl) rfl)
   (jT F (n-1) (pa _) c9 (by omega) w3.heap.size q d (A.α b) junk fj Av w4 Cr Dp) KpC.trans (KpC.put Cr.lt C1 (fun g e=>(Dp.arr g e).1.lt)) (bQ _ _) rfl
   (fun pre W=>(∃φ1,St W ρ P {A with φ:=φ1} (r pre).1 J)∧Frm (fun k=>k=A.c∨k=A.m∨k=D1) w4 W∧Boxed W w.heap.size 65 (.pointer (some ⟨P,0,none⟩))∧Boxed W D1 2 (.int .i64 (r pre).2))
   ?_ ⟨⟨A.φ,Py⟩,Frm.refl _ _,kj,by rw[Re];exact Qc⟩ ?_ ?_
  ·refine fun pre X Y row hs hg jo=>?_
   obtain⟨⟨φ1,h1⟩,h2,h3,h4⟩:=hs;have CW:∀x,row=some x→w4.heap.size≤x:=fun x e=>(jo x e).1;refine⟨⟨φ1,h1.own hg fun x e=>⟨by have:=CW x e;show x≠A.m;omega,(jo x e).2⟩⟩,h2.own hg CW,h3.kept hg fun e=>?_,h4.kept hg fun e=>?_⟩
   ·have:=CW _ e.symm;omega
   ·have:=CW _ e.symm;omega
  ·intro l pre x W hi lg
   gi_wp2
   refine⟨trivial,?_⟩;clear hi;rintro W ⟨⟨φ1,h1⟩,h2,h3,h4⟩;obtain⟨post,KD⟩:=lg;have AO:kids d=pre++x :: post:=by rw[←KD];simp
   obtain⟨ao,ba⟩:=fl hc pre (x :: post) AO;obtain⟨bx,kw⟩:=fl hc (pre++[x]) post (by rw[AO];simp);have L1:=IH hc pre x post AO;have nz:=h3.cell;have i9:=h4.cell;have AI:=h4.frozen;have LO:IntKind.i64.wrap ((r pre).2+((r (pre++[x])).2 -(r pre).2))=(r (pre++[x])).2:=by
    rw[IntWalk.i64_in _ ⟨by omega,by omega⟩];omega
   have Vi:St W.drew ρ P {A with φ:=φ1} (r pre).1 J:=h1.below (bQ W.heap.size W).drew;have HH:=aA (aI h2 (aI h3 h4));have HB:=aA (aI ao (aI ba (aI bx kw)));clear h1 h2 h3 h4 ao ba bx kw KD AO;gi_wp2;gi_region_with (refine⟨fun _=>by omega,(CallsIn.inRound l (hW (L1 _ φ1 Vi))).mono ?_⟩;rintro e W2 ⟨rfl,⟨φ2,h5⟩,h6⟩;have q4:Boxed W2 D1 2 (.int .i64 (r pre).2):=(h6.block D1 HH.out.2.2.lt (fun e=>by rcases e with e | e<;>(have e':=e;simp only at e';omega))).trans HH.out.2.2;have q5:=q4.cell;have q6:=q4.frozen)
   all_goals (
    obtain⟨h2,h3,h4⟩:=HH.out;have io:∀k,k<W.heap.size→k≠A.c→k≠A.m→k≠D1→(W2.setCell ⟨D1,0,none⟩ (.int .i64 (r (pre++[x])).2)).heap[k]?=W.heap[k]?:=fun k hk e1 e2 e3=>(aZ W2 _ e3).trans (h6.block k hk fun e=>by rcases e with e | e;exact e1 e;exact e2 e);have bu:Frm (fun k=>k=A.c∨k=A.m∨k=D1) w4 (W2.setCell ⟨D1,0,none⟩ (.int .i64 (r (pre++[x])).2)):=((h2.trans (Frm.drew _ W)).trans (h6.wide fun k _ e=>by rcases e with e | e;exact .inl e;exact .inr (.inl e))).trans (Frm.set W2 (p:=⟨D1,0,none⟩) (.inr (.inr rfl)) _);have cy:=h5.frm (w':=W2.setCell ⟨D1,0,none⟩ (.int .i64 (r (pre++[x])).2)) (Frm.set W2 (p:=⟨D1,0,none⟩) Xq _);have FG:w4.heap.size≤W.heap.size:=h2.size;have bx:Boxed (W2.setCell ⟨D1,0,none⟩ (.int .i64 (r (pre++[x])).2)) w.heap.size 65 (.pointer (some ⟨P,0,none⟩)):=(io _ h3.lt (by omega) (by omega) (by omega)).trans h3;have EM:=q4.set (.int .i64 (r (pre++[x])).2);have bd:W.heap.size≤(W2.setCell ⟨D1,0,none⟩ (.int .i64 (r (pre++[x])).2)).heap.size:=lT h6.size (Nat.le_of_eq (cZ (g:=D1) [_] W2 0).symm);have lc:KeepsFrom w4.heap.size W (W2.setCell ⟨D1,0,none⟩ (.int .i64 (r (pre++[x])).2)):=⟨bd,fun k o hk ze _=>(io k (Array.getElem?_eq_some_iff.1 ze).1 (by omega) (by omega) (by omega)).trans ze⟩;have vn:KpC w3.heap.size q (A.α b) W (W2.setCell ⟨D1,0,none⟩ (.int .i64 (r (pre++[x])).2)):=⟨bd,io _ (by omega) (by omega) (by omega) (by omega),io q (by omega) LE.1 LE.2.1 LE.2.2.1,fun g e=>io g (by have:=(Dp.arr g e).1.lt;omega) (LE.2.2.2 g e).1 (LE.2.2.2 g e).2.1 (LE.2.2.2 g e).2.2⟩;have HF:=aA (aI lc (aI vn (aI cy (aI bu (aI bx EM)))));clear lc vn cy bu bx EM io h5 h6 h2 h3 h4 q4 q5 q6;gi_wp2;obtain⟨lc,vn,cy,bu,bx,EM⟩:=HF.out;exact⟨lc,vn,⟨φ2,cy⟩,bu,bx,EM⟩)
  ·rintro D W hD ⟨⟨φ1,h1⟩,h2,h3,h4⟩ hK
   obtain⟨jae,jpe,jje,Pw,VV⟩:=id h1;obtain⟨w5,FD,ng,er⟩:=Pw.hm.del b (by have:=hz.n512;omega) 0;have p3:=Pw.cells.m3;have nz:=h3.cell;have Th:D≠A.m:=by omega
   have CF:w5.heap[D]?=some (.deferred (some [])):=(er.block D (Array.getElem?_eq_some_iff.1 hK).1 Th).trans hK;have Fv:Boxed w5 D1 2 (.int .i64 (r (kids d)).2):=(er.block D1 h4.lt (by show D1≠A.m;omega)).trans h4;have WG:=Fv.cell;obtain⟨cq,Ik⟩:=h1.del (b:=b) ng er;have Fa:Frm (fun k=>k=A.c∨k=A.m) w w5:=(jl.next h2 (fun x hx e=>by rcases e with e | e | e;exact .inl e;exact .inr e;omega)).next er (fun x _ e=>.inr e);have HF:=aA (aI cq (aI Fa CF));clear cq Ik Fa ng er h1 h2 h3 h4 Pw VV hK CF Fv;gi_wp2;obtain⟨cq,Fa,CF⟩:=HF.out;have bm:w5.grownBy (w5.putObj D (.deferred none)) (some D):=grownBy_putObj' w5 D _;refine⟨by simp,.inl ⟨_,_,rfl,run_takeDeferred CF,?_⟩⟩;refine⟨.int .i64 (r (kids d)).2,by simp[results,Tryz.f127,go_sem],⟨rfl,⟨upd φ1 b none,?_⟩,Fa.own bm fun x e=>by cases e;have:=jl.size;omega⟩⟩;exact cq.own bm fun x e=>by cases e;exact⟨Th,_,CF,rfl⟩
theorem aFI(hK:K≤900000):∀(h:Nat) (w:World) (ρ:Nat→Nat) (P:Nat) (A:Adr) (f:fZ) (J:List aQ) (b:Nat),St w ρ P A f J→Sz K f→UC h f b→
  Calls Tryz.prog 127 #[.pointer (some ⟨P,0,none⟩),.int .i64 b] w (UnP w ρ P A J (unname h f b)):=by
 intro h;induction h with
 | zero=>
  intro w ρ P A f J b hS hz hu;obtain⟨d,hd,-,-,-,hk⟩:=hu.live;have gp:=hk rfl;have:=(callsIn_wide (n:=5)).1 (vQ (K:=K) Fence.wide 5 (fun h=>callsIn_wide.2 h) (fun _=>trivial) rfl (nR _) 0 w ρ P A f J b hS hz hK hu (fun _=>(dec f b,1)) d hd rfl (fun _ _ _ _=>⟨by show(1:Int)≤1;omega,by show(1:Int)≤600;omega⟩) (fun _ pre x post e=>by rw[gp]at e;simp at e));exact this
 | succ h ih=>
  intro w ρ P A f J b hS hz hu;obtain⟨d,hd,-,-,-,-⟩:=hu.live;have:=(callsIn_wide (n:=5)).1 (vQ (K:=K) Fence.wide 5 (fun h=>callsIn_wide.2 h) (fun _=>trivial) rfl (nR _) (h+1) w ρ P A f J b hS hz hK hu (fun l=>unL h l (dec f b,1)) d hd rfl (fun hc=>(hu.next hd hc).2) (fun hc pre x post e W φ1 hW=>by
   have UE:=(hu.next hd hc).1 pre x post e;have Xn:Sz K (unL h pre (dec f b,1)).1:=hz.uk ((UK.dec f b).trans (UK.unL h pre (dec f b,1))) (UC.pos UE);have hC:=ih W ρ P {A with φ:=φ1} _ J x hW Xn UE;have FH:((unL h (pre++[x]) (dec f b,1)).1,(unL h (pre++[x]) (dec f b,1)).2 -(unL h pre (dec f b,1)).2)=unname h (unL h pre (dec f b,1)).1 x:=by
    rw[aIN];refine Prod.ext rfl ?_;simp only;omega
   show Calls _ _ _ _ (UnP W ρ P {A with φ:=φ1} J ((unL h (pre++[x]) (dec f b,1)).1,(unL h (pre++[x]) (dec f b,1)).2 -(unL h pre (dec f b,1)).2))
   rw[FH];exact hC))
  have GM:unname (h+1) f b=if 0<cu f b-1 then(dec f b,0)else(delN (unL h (kids d) (dec f b,1)).1 b,(unL h (kids d) (dec f b,1)).2):=by
   conv=>lhs;unfold unname
   rw[hd];rfl
  rw[GM];exact this
theorem kE{g:Nat}{xs:List (Int×Int)}(h:IsC w g (cS xs) 77){i:Nat}(hi:i<xs.length):w.cell? ⟨g,i*2,none⟩=some (.int .i64 (xs.getD i (0,0)).1)∧w.cell? ⟨g,i*2+1,none⟩=some (.int .i64 (xs.getD i (0,0)).2):=by
 rw[h.cell,h.cell];exact lE xs hi
theorem mI(x y g1 g2:Int)(B:Nat)(w:World)(hB:IsC w B #[.int .i64 g1,.int .i64 g2] 77):
  Calls Tryz.prog 126 #[.agg #[.int .i64 x,.int .i64 y],.pointer (some ⟨B,0,none⟩)] w fun e w'=>e=.returned (.bool (decide ((x,y)=(g1,g2))))∧Bl w w':=by
 have Kf:=(bQ w.heap.size w).alloc (nR _) (.cells #[.int .i64 x,.int .i64 y] 77);have eX:=hB.alloc (.cells #[.int .i64 x,.int .i64 y] 77);have c0:(w.alloc (.cells #[.int .i64 x,.int .i64 y] 77)).cell? ⟨B,0,none⟩=some (.int .i64 g1):=eX.c rfl;have c1:(w.alloc (.cells #[.int .i64 x,.int .i64 y] 77)).cell? ⟨B,1,none⟩=some (.int .i64 g2):=eX.c rfl;go_enter Tryz.func126,Tryz.ntmps126;by_cases h1:x=g1
 ·subst h1
  by_cases h2:y=g2
  ·subst h2
   go_wp2
   go_ret
   exact⟨by simp,Kf⟩
  ·go_wp2
   go_ret
   exact⟨by simp[h2],Kf⟩
 ·go_wp2
  go_ret
  exact⟨by simp[h1],Kf⟩
theorem tZ(g B cap t:Nat)(rs rj:List (Int×Int))(g1 g2:Int)(w:World)(hg:IsC w g (cS (rs++rj)) 77)(hB:IsC w B #[.int .i64 g1,.int .i64 g2] 77)(ht:t<rs.length)(he:rs.getD t (0,0)=(g1,g2))(av:∀i,i<t→rs.getD i (0,0)≠(g1,g2))(hl:rs.length≤100):
  Calls Tryz.prog 145 #[.slice (some ⟨g,0,none⟩) rs.length cap,.func (.func 126) #[] #[.pointer (some ⟨B,0,none⟩)]] w fun e w'=>e=.returned (.int .i64 t)∧Bl w w':=by
 go_enter Tryz.func145,Tryz.ntmps145
 go_wp2
 go_loopw [8] (fun i wr=>∃k:Nat,k≤t∧i=.int .i64 k∧Bl w wr) (fun i _=>t+1 -(intOf i).toNat)
 case atStart=>exact⟨0,Nat.zero_le _,rfl,bQ _ _⟩
 case round=>
  obtain⟨k,hk,rfl,hb⟩:=hrel;have lq:(k:Int) <(rs.length:Int):=by omega
  have rf:IsC wr g (cS (rs++rj)) 77:=hg.of (hb.block g hg.lt);have Dc:IsC wr B #[.int .i64 g1,.int .i64 g2] 77:=hB.of (hb.block B hB.lt);obtain⟨c1,c2⟩:=kE rf (i:=k) (by simp;omega);have e1:(rs++rj).getD k (0,0)=rs.getD k (0,0):=by rw[gD,List.getElem?_append_left (by omega),←gD]
  rw[e1]at c1 c2;obtain⟨⟨x,y⟩,FL⟩:∃xy,rs.getD k (0,0)=xy:=⟨_,rfl⟩;rw[FL]at c1 c2;simp only at c1 c2;clear e1;by_cases Mt:k=t
  ·subst Mt
   rw[he]at FL;cases FL;go_wp2_with fail;refine(mI g1 g2 g1 g2 B wr Dc).mono ?_;rintro e w2 ⟨rfl,ba⟩;have JV:decide ((g1,g2)=(g1,g2))=true:=by simp
   rw[JV];go_wp2;go_ret;exact⟨rfl,hb.trans (ba.mono hb.size)⟩
  ·have hn:=av k (by omega)
   rw[FL]at hn;go_wp2_with fail;refine(mI x y g1 g2 B wr Dc).mono ?_;rintro e w2 ⟨rfl,ba⟩;have JV:decide ((x,y)=(g1,g2))=false:=by simpa using hn
   rw[JV];clear JV hn;go_wp2;go_roundw
   case rel=>exact⟨k+1,by omega,by go_num,hb.trans (ba.mono hb.size)⟩
   case measure=>simp[intOf];omega
theorem tC(w:World)(ty:TypeId)(b o n cap:Nat)(hn:0<n)(hc:∀j,j<n*2→(w.cell? ⟨b,o+j,none⟩).isSome=true)(hf:∀j,j<n*2→w.frozen? ⟨b,o+j,none⟩=false):
  (Builtin.clear_ #[55] ty #[.slice (some ⟨b,o,none⟩) n cap]).run Tryz.prog w=.ok (.tuple #[]) (w.setCells b o ((List.replicate n t0).flatMap aT)):=by
 have hl:((List.replicate n t0).flatMap aT).length=n*2:=by rw[bL];simp
 have qh:=run_storeCells_cells (P:=Tryz.prog) b o ((List.replicate n t0).flatMap aT) 0 w (by rw[hl];simpa using hc) (by rw[hl];simpa using hf) (lM _);obtain⟨i,hi,h3,_,hz⟩:=aCS;have ru:(zeroValue 77).run Tryz.prog w=.ok (.agg #[.int .i64 0,.int .i64 0]) w:=by
  simp[zeroValue,typeInfo,hi,hz]
 have au:(Value.agg #[.int .i64 0,.int .i64 0]).cells=#[.int .i64 0,.int .i64 0]:=by kernel_rfl
 have Nj:(Builtin.zeroCells (Value.agg #[.int .i64 0,.int .i64 0]).cells n).toList=(List.replicate n t0).flatMap aT:=by rw[au,aIR]
 generalize (Value.agg #[.int .i64 0,.int .i64 0])=Z at ru Nj;generalize (List.replicate n t0).flatMap aT=L at *;obtain⟨m,rfl⟩:∃m,n=m+1:=⟨n-1,by omega⟩;simp at qh;simp[Builtin.clear_,run_underlying Tryz.underlying55,ru,Nj,qh]
theorem vK(l:List (Int×Int))(t:Nat)(x y:Int)(ht:t<l.length):((cS l).setIfInBounds (t*2) (.int .i64 x)).setIfInBounds (t*2+1) (.int .i64 y)=cS (l.set t (x,y)):=by
 have key:∀(l:List (Int×Int)) (t:Nat),t<l.length→((l.flatMap aT).set (t*2) (.int .i64 x)).set (t*2+1) (.int .i64 y)=(l.set t (x,y)).flatMap aT:=by
  intro l;induction l with
  | nil=>intro t ht;simp at ht
  | cons e l ih=>
   intro t ht;have l2:(aT e).length=2:=rfl;cases t with
   | zero=>simp[aT]
   | succ t=>
    simp only[List.flatMap_cons,List.set_cons_succ];rw[List.set_append_right _ _ (by rw[l2];omega),l2,List.set_append_right _ _ (by rw[l2];omega),l2,show(t+1)*2-2=t*2 by omega,show(t+1)*2+1-2=t*2+1 by omega,ih t (by simpa using ht)]
 unfold cS;rw[←key l t ht];simp
def sh(rs:List (Int×Int))(t m:Nat):List (Int×Int):=(delE rs t).take (t+m)++rs.drop (t+m)
theorem aBP(rs:List (Int×Int))(ht:t<rs.length)(hm:t+m+1≤rs.length):(sh rs t m).length=rs.length:=by
 have:=bI rs t ht
 unfold sh;simp only[lP,List.length_take,List.length_drop];omega
theorem aNA(rs:List (Int×Int))(ht:t<rs.length):sh rs t 0=rs:=by
 unfold sh delE;rw[Nat.add_zero,List.take_append,List.length_take,show t-min t rs.length=0 by omega,List.take_take,show min t t=t by omega];simp
theorem aGU{l l':List (Int×Int)}(h:l.length=l'.length)(h2:∀j,j<l.length→l.getD j (0,0)=l'.getD j (0,0)):l=l':=by
 refine List.ext_getElem h fun i h1 h3=>?_;have:=h2 i h1;rw[gD,gD,gE h1,gE h3]at this;exact this
theorem aBO(rs:List (Int×Int))(ht:t<rs.length)(hm:t+m+1≤rs.length)(j:Nat):(sh rs t m).getD j (0,0)=if j<t then rs.getD j (0,0)else if j<t+m then rs.getD (j+1) (0,0)else rs.getD j (0,0):=by
 have hl:=bI rs t ht;unfold sh;rw[gD];by_cases h1:j<t+m
 ·rw[List.getElem?_append_left (by rw[List.length_take];omega),List.getElem?_take,if_pos h1,←gD,gZ _ _ _ (by omega)]
  by_cases h2:j<t
  ·rw[if_pos h2,if_pos h2]
  ·rw[if_neg h2,if_neg h2,if_pos h1]
 ·rw[List.getElem?_append_right (by rw[List.length_take];omega),List.length_take,show min (t+m) (delE rs t).length=t+m by omega,List.getElem?_drop,show t+m+(j -(t+m))=j by omega,←gD,if_neg (by omega),if_neg h1]
theorem aKL(rs:List (Int×Int))(ht:t<rs.length)(hm:t+m+1<rs.length):(sh rs t m).set (t+m) (rs.getD (t+m+1) (0,0))=sh rs t (m+1):=by
 have h1:=aBP rs (m:=m) ht (by omega);have h2:=aBP rs (m:=m+1) ht (by omega);refine aGU (by simp;omega) fun j hj=>?_;rw[bB _ _ _ _ _ (by omega),aBO rs ht (by omega),aBO rs ht (by omega)];by_cases e:j=t+m
 ·rw[if_pos e,if_neg (by omega),if_pos (by omega),e]
 ·rw[if_neg e]
  by_cases e1:j<t
  ·rw[if_pos e1,if_pos e1]
  ·rw[if_neg e1,if_neg e1]
   by_cases e2:j<t+m
   ·rw[if_pos e2,if_pos (by omega)]
   ·rw[if_neg e2,if_neg (by omega)]
theorem aMB(rs:List (Int×Int))(ht:t<rs.length)(rj:List (Int×Int)):(sh rs t (rs.length-1-t)++rj).set (rs.length-1) (0,0)=delE rs t++((0,0) :: rj):=by
 have hl:=bI rs t ht;unfold sh;rw[show t+(rs.length-1-t)=rs.length-1 by omega,List.take_of_length_le (by omega),List.append_assoc,List.set_append_right _ _ (by omega),show rs.length-1 -(delE rs t).length=0 by omega];have:rs.drop (rs.length-1)=[rs.getD (rs.length-1) (0,0)]:=by
  have Au:rs.length-1<rs.length:=by omega
  rw[List.drop_eq_getElem_cons Au,List.drop_of_length_le (by omega),gD,gE Au];rfl
 rw[this];rfl
theorem rA(g B t:Nat)(rs rj:List (Int×Int))(g1 g2:Int)(w:World)(hg:IsC w g (cS (rs++rj)) 77)(hB:IsC w B #[.int .i64 g1,.int .i64 g2] 77)(Kt:g≠B)(ht:t<rs.length)(he:rs.getD t (0,0)=(g1,g2))(av:∀i,i<rs.length→i≠t→rs.getD i (0,0)≠(g1,g2))(hl:rs.length≤100)(hm:rs.length+rj.length≤maxLen):
  Calls Tryz.prog 125 #[.slice (some ⟨g,0,none⟩) rs.length (rs.length+rj.length),.func (.func 126) #[] #[.pointer (some ⟨B,0,none⟩)]] w fun e w'=>e=.returned (.slice (some ⟨g,0,none⟩) (rs.length-1) (rs.length+rj.length))∧IsC w' g (cS (delE rs t++((0,0) :: rj))) 77∧Frm (fun k=>k=g) w w':=by
 have g9:rs.length+rj.length≤9223372036854775807:=by simp[maxLen]at hm;omega
 go_enter Tryz.func125,Tryz.ntmps125
 go_wp2_with fail
 refine(tZ g B _ t rs rj g1 g2 w hg hB ht he (fun i hi=>av i (by omega) (by omega)) hl).mono ?_;rintro e w1 ⟨rfl,ao⟩;have Qi:IsC w1 g (cS (rs++rj)) 77:=hg.of (ao.block g hg.lt);have eX:IsC w1 B #[.int .i64 g1,.int .i64 g2] 77:=hB.of (ao.block B hB.lt);have DS:¬((t:Int)=-1):=by omega
 have Yc:IntKind.i64.wrap ((t:Int)+1)=((t+1:Nat):Int):=(IntWalk.i64_in _ ⟨by omega,by omega⟩).trans (by omega);have Rx:(-1:Int) <(t:Int):=by omega
 go_wp2
 go_loopw [5,6] (fun u v wr=>∃m:Nat,t+m+1≤rs.length∧u=.int .i64 (t+m:Nat)∧v=.int .i64 (t+m+1:Nat)∧IsC wr g (cS (sh rs t m++rj)) 77∧IsC wr B #[.int .i64 g1,.int .i64 g2] 77∧Frm (fun k=>k=g) w wr) (fun _ v _=>rs.length -(intOf v).toNat)
 case atStart=>exact⟨0,by omega,by simp,by simp,by rw[aNA rs ht];exact Qi,eX,Frm.of_below ao⟩
 case round=>
  obtain⟨m,vo,rfl,rfl,AK,Lr,hF⟩:=hrel;have KO:=aBP rs (m:=m) ht vo;by_cases ai:t+m+1<rs.length
  ·have dm:((t+m+1:Nat):Int) <(rs.length:Int):=by omega
   have FA:((t+m:Nat):Int) <(rs.length:Int):=by omega
   obtain⟨c1,c2⟩:=kE AK (i:=t+m+1) (by simp;omega);have e1:(sh rs t m++rj).getD (t+m+1) (0,0)=rs.getD (t+m+1) (0,0):=by
    rw[gD,List.getElem?_append_left (by omega),←gD,aBO rs ht vo,if_neg (by omega),if_neg (by omega)]
   rw[e1]at c1 c2;obtain⟨⟨x,y⟩,FL⟩:∃xy,rs.getD (t+m+1) (0,0)=xy:=⟨_,rfl⟩;rw[FL]at c1 c2;simp only at c1 c2;have hn:=av (t+m+1) ai (by omega);rw[FL]at hn;have qh:=aKL rs ht ai;rw[FL]at qh;have HX:=aA (aI FL (aI hn qh));clear FL hn qh e1;obtain⟨ji,Jl⟩:=eZ (t+m+1);obtain⟨ii,Jj⟩:=eZ (t+m);have HI:=aA (aI Jl Jj);rw[Jl]at c1 c2 dm ⊢;rw[Jj]at FA ⊢;clear Jl Jj;obtain⟨W2,vg⟩:=eZ (wr.alloc (.cells #[.int .i64 x,.int .i64 y] 77));obtain⟨V,hV⟩:=eZ (wr.heap.size);have ba:=bAl vg;have E4:=iNw vg hV;have v1:W2.cell? ⟨V,0,none⟩=some (.int .i64 x):=E4.c rfl;have v2:W2.cell? ⟨V,1,none⟩=some (.int .i64 y):=E4.c rfl;have db:IsC W2 B #[.int .i64 g1,.int .i64 g2] 77:=Lr.of (ba.block B Lr.lt);go_wp2_with fail;refine(mI x y g1 g2 B W2 db).mono ?_;rintro e W3 ⟨rfl,bx⟩;have JV:decide ((x,y)=(g1,g2))=false:=by simpa using HX.out.2.1
   rw[JV];have CT:IsC W3 g (cS (sh rs t m++rj)) 77:=(AK.of (ba.block g AK.lt)).of (bx.block g (lL AK.lt ba.size));have fk:IsC W3 B #[.int .i64 g1,.int .i64 g2] 77:=db.of (bx.block B db.lt);have E2:IsC W3 V #[.int .i64 x,.int .i64 y] 77:=E4.of (bx.block V E4.lt);have y1:W3.cell? ⟨V,0,none⟩=some (.int .i64 x):=E2.c rfl;have y2:W3.cell? ⟨V,1,none⟩=some (.int .i64 y):=E2.c rfl;obtain⟨z1,z2⟩:=kE CT (i:=ii) (by simp;omega);have f1:=CT.frozen (ii*2);have f2:=CT.frozen (ii*2+1);have bu:Frm (fun k=>k=g) w ((W3.setCell ⟨g,ii*2,none⟩ (.int .i64 x)).setCell ⟨g,ii*2+1,none⟩ (.int .i64 y)):=(((hF.trans (Frm.of_below ba)).trans (Frm.of_below bx)).trans (Frm.set (S:=fun k=>k=g) W3 (p:=⟨g,ii*2,none⟩) rfl _)).trans (Frm.set (S:=fun k=>k=g) _ (p:=⟨g,ii*2+1,none⟩) rfl _);have dq:IsC ((W3.setCell ⟨g,ii*2,none⟩ (.int .i64 x)).setCell ⟨g,ii*2+1,none⟩ (.int .i64 y)) B #[.int .i64 g1,.int .i64 g2] 77:=(fk.set_ne _ (Ne.symm Kt)).set_ne _ (Ne.symm Kt);have Jf:IsC ((W3.setCell ⟨g,ii*2,none⟩ (.int .i64 x)).setCell ⟨g,ii*2+1,none⟩ (.int .i64 y)) g (cS (sh rs t (m+1)++rj)) 77:=by
    have h5:=(CT.set (ii*2) (.int .i64 x)).set (ii*2+1) (.int .i64 y);have OS:ii <(sh rs t m).length:=by rw[KO];omega
    rw[vK _ ii x y (by rw[lP];omega),List.set_append_left _ _ OS,←HI.out.2,HX.out.2.2]at h5;rw[←HI.out.2];exact h5
   have HF:=aA (aI Jf (aI dq bu));have Tv:ii+1=t+(m+1)∧ji+1=t+(m+1)+1:=by have:=HI.out;omega
   have HJ:=aA Tv;clear JV ba c1 c2 v1 v2 vg hV bu dq Jf Tv;go_wp2;go_roundw
   case rel=>
    obtain⟨Jf,dq,bu⟩:=HF.out;obtain⟨j1,j2⟩:=HJ.out;exact⟨_,_,_,_,_,_,_,_,_,_,_,_,_,_,_,_,_,_,_,_,_,_,_,⟨m+1,by omega,by rw[←j1];go_num,by rw[←j2];go_num,Jf,dq,bu⟩,rfl⟩
   case measure=>simp[intOf];omega
  ·have RP:m=rs.length-1-t:=by omega
   have FA:t+m=rs.length-1:=by omega
   have Q7:t+m+1=rs.length:=by omega
   obtain⟨lo,mw⟩:∃lo,lo=rs.length-1:=⟨_,rfl⟩;have Mm:IsC wr g (cS (sh rs t (rs.length-1-t)++rj)) 77:=by rw[←RP];exact AK
   have au:=tC (n:=1) (b:=g) (o:=lo*2) wr;have MZ:∀ty c,(Builtin.clear_ #[55] ty #[.slice (some ⟨g,lo*2,none⟩) 1 c]).run Tryz.prog wr=.ok (.tuple #[]) (wr.setCells g (lo*2) ((List.replicate 1 t0).flatMap aT)):=fun ty c=>
    tC wr ty g (lo*2) 1 c (by omega) (fun k hk=>by rw[AK.cell,Array.getElem?_eq_getElem (by rw[vL,lP,KO];omega)];rfl) (fun k hk=>AK.frozen _)
   clear au;have Hg:wr.setCells g (lo*2) ((List.replicate 1 t0).flatMap aT)=(wr.setCell ⟨g,lo*2,none⟩ (.int .i64 0)).setCell ⟨g,lo*2+1,none⟩ (.int .i64 0):=rfl;have At:IsC (wr.setCells g (lo*2) ((List.replicate 1 t0).flatMap aT)) g (cS (delE rs t++((0,0) :: rj))) 77:=by
    rw[Hg];have h5:=(Mm.set (lo*2) (.int .i64 0)).set (lo*2+1) (.int .i64 0);rw[vK _ lo 0 0 (by rw[lP,←RP,KO];omega),mw,aMB rs ht rj]at h5;rw[mw];exact h5
   have Fa:Frm (fun k=>k=g) w (wr.setCells g (lo*2) ((List.replicate 1 t0).flatMap aT)):=hF.trans (Frm.sets (S:=fun k=>k=g) wr rfl _ _);rw[Q7,FA,←mw];have HF:=aA (aI At Fa);have HL:=aA mw;obtain⟨Wf,TY⟩:=eZ (wr.setCells g (lo*2) ((List.replicate 1 t0).flatMap aT));rw[TY]at MZ HF;have q1:¬rs.length+rj.length=lo:=by omega
   have q2:(lo:Int)≤(rs.length:Int):=by omega
   have q3:(rs.length:Int)≤(rs.length:Int)+(rj.length:Int):=by omega
   have q4:rs.length-lo=1:=by omega
   have q5:lo≤rs.length+rj.length:=by omega
   have q6:(lo:Int)≤(rs.length:Int)+(rj.length:Int):=by omega
   clear At Fa Hg Mm AK TY mw FA Q7 RP;go_wp2;go_ret;obtain⟨At,Fa⟩:=HF.out;rw[←HL.out];exact⟨rfl,At,Fa⟩
structure DpP(w:World)(ρ:Nat→Nat)(P:Nat)(J:List aQ)(r:fZ×Int)(e:Ending)(w':World):Prop where
 e:e=.returned (.int .i64 r.2)
 ex:∃ρ' A',St w' ρ' P A' r.1 J∧Mv (fun _=>False) w ρ w' ρ'
theorem aJM(w:World)(ρ:Nat→Nat)(P:Nat)(A:Adr)(f:fZ)(J:List aQ)(t H:Nat)(x:Int)(h:St w ρ P A f J)(hI:Inv f)(hz:Sz K f)(hK:K≤900000)(ht:t<f.roots.length)(hk:Ok f.nodes H (aB f t) none none)(hx:f.roots.getD t (0,0)=(x,(aB f t:Int))):
  Calls Tryz.prog 104 #[.pointer (some ⟨P,0,none⟩),.agg #[.int .i64 x,.int .i64 (aB f t)]] w (DpP w ρ P J (drop f t H)):=by
 have Kz:∀(fn:Fn) (first cap:Array Value) (w:World),(Instr.makeFunc fn first cap).run Tryz.prog w=.ok (.func fn first cap) w:=fun _ _ _ _=>rfl;obtain⟨B,hB⟩:=eZ (w.heap.size);obtain⟨w0,mz⟩:=eZ (w.alloc (.cells #[.int .i64 x,.int .i64 (aB f t)] 77));have cw:Bl w w0:=by rw[←mz];exact(bQ w.heap.size w).alloc (nR _) _
 have bj:=iNw mz hB;have kg:=h.below cw;obtain⟨ja,jp,jj,hR,hJ⟩:=id kg;have Od:ρ B=0:=Nat.eq_zero_of_not_pos fun q=>by
  obtain⟨_,_,_,E0,_⟩:=id h;have:=E0.own B (by omega);omega
 have NB:A.ra≠B:=fun e=>by have:=hR.rr;rw[e,Od]at this;omega
 have r0:w0.cell? ⟨P,0,none⟩=some (.slice (some ⟨A.ra,0,none⟩) f.roots.length (f.roots.length+A.rj.length)):=by rw[hR.hP.cell];rfl
 have jr:=hI.r16;have AP:=bI f.roots t ht;have Rf:A.ra≠P:=fun e=>by have e1:=hR.rr;have e2:=hR.rP;rw[e]at e1;omega
 have Vd:B≠P:=fun e=>by have e2:=hR.rP;rw[←e,Od]at e2;omega
 have HE:=aA (aI hB mz);go_enter Tryz.func104,Tryz.ntmps104;go_wp2_with fail;refine(rA A.ra B t f.roots A.rj x (aB f t) w0 hR.hr bj NB ht hx (fun i hi av=>by rw[←hx];exact zR hI ht hi av) (by omega) hR.rs).mono ?_;rintro e w1 ⟨rfl,iv,ij⟩;obtain⟨ax,li⟩:=kg.setRoots ij iv (.inl rfl) (by have:=hR.rs;simp only[List.length_cons];omega);have c9:oB ρ A.ra=ρ:=funext fun y=>by
  unfold oB;split
  ·rename_i e;rw[e];exact hR.rr.symm
  ·rfl
 rw[c9]at ax li;have ah:(delE f.roots t).length+((0,0) :: A.rj:List (Int×Int)).length=f.roots.length+A.rj.length:=by rw[AP];simp only[List.length_cons];omega
 rw[ah,AP]at ax li;have Km:IsC w1 P _ _:=hR.hP.frm ij (fun e=>Rf e.symm);have r1:w1.cell? ⟨P,0,none⟩=some (.slice (some ⟨A.ra,0,none⟩) f.roots.length (f.roots.length+A.rj.length)):=Km.c rfl;have z1:=Km.frozen 0;have fv:IsC (w1.setCell ⟨P,0,none⟩ (.slice (some ⟨A.ra,0,none⟩) (f.roots.length-1) (f.roots.length+A.rj.length))) B #[.int .i64 x,.int .i64 (aB f t)] 77:=(bj.frm ij (Ne.symm NB)).set_ne _ Vd;have b2:(w1.setCell ⟨P,0,none⟩ (.slice (some ⟨A.ra,0,none⟩) (f.roots.length-1) (f.roots.length+A.rj.length))).cell? ⟨B,1,none⟩=some (.int .i64 (aB f t)):=fv.c rfl;have qy:Mv (fun _=>False) w ρ (w1.setCell ⟨P,0,none⟩ (.slice (some ⟨A.ra,0,none⟩) (f.roots.length-1) (f.roots.length+A.rj.length))) ρ:=((Mv.of_below (X:=fun y=>y=A.ra∧ρ y=0) cw).trans li (fun _ _ e=>e)).up fun y _ e=>by
  obtain⟨e1,e2⟩:=e;rw[e1,hR.rr]at e2;omega
 have XW:=aJN hI ht hk;have Oc:Sz K (fO f t):=hz.of rfl rfl hz.cb fun _ _ q=>.inl q;obtain⟨w2,ci⟩:=eZ (w1.setCell ⟨P,0,none⟩ (.slice (some ⟨A.ra,0,none⟩) (f.roots.length-1) (f.roots.length+A.rj.length)));rw[ci]at ax li qy b2 fv;go_wp2_with fail;refine(aFI hK H w2 ρ P {A with ra:=A.ra,rj:=(0,0) :: A.rj} (fO f t) J (aB f t) ax Oc XW).mono ?_;rintro e w3 ⟨rfl,⟨φ',cy⟩,bu⟩;have Ex:Mv (fun _=>False) w ρ w3 ρ:=by
  refine qy.trans (Y:=fun _=>False) ⟨bu.wide fun y _ e=>.inl ?_,fun _ _ _=>rfl⟩ (fun _ _ e=>e);rcases e with e | e
  ·rw[e];have:=hR.rc;show ρ A.c≠0;omega
  ·rw[e];have:=hR.rm;show ρ A.m≠0;omega
 have HF:=aA (aI cy Ex);clear cy Ex bu;go_wp2;go_ret;exact⟨rfl,ρ,_,HF.out.1,HF.out.2⟩
end Go.Proofs.YtaahkgkdpnnhhaaGreat
namespace Go.Proofs.YtaahkgkdpnnhhaaGreat
open Go.RowKit Fo
def RdT(w:World)(v:Value)(rs:List (Int×Int)):Prop:=
 ∃a cap,v=.slice a rs.length cap∧(0<rs.length→∃b off,a=some ⟨b,off,none⟩∧∀i,i<rs.length→w.cell? ⟨b,off+i*2,none⟩=some (.int .i64 (rs.getD i (0,0)).1)∧w.cell? ⟨b,off+i*2+1,none⟩=some (.int .i64 (rs.getD i (0,0)).2))
theorem RdT.of{w:World}{g cap:Nat}{rs rj:List (Int×Int)}(h:IsC w g (cS (rs++rj)) 77):RdT w (.slice (some ⟨g,0,none⟩) rs.length cap) rs:=
 ⟨_,cap,rfl,fun _=>⟨g,0,rfl,fun i hi=>by
  have:=kE h (i:=i) (by simp;omega)
  rw[gD,List.getElem?_append_left hi,←gD]at this;simpa using this⟩⟩
def pY(x y:Int):Int:=if x<y then -1 else if x>y then 1 else 0
theorem uZ(x:Int)(w:World):Calls Tryz.prog 107 #[.int .i64 x] w fun e w'=>e=.returned (.bool false)∧w=w':=by
 have h:(x != x)=false:=by simp
 go_enter Tryz.func107,Tryz.ntmps107
 go_wp2
 go_ret
 exact⟨rfl,rfl⟩
theorem yD(x y:Int)(w:World):Calls Tryz.prog 81 #[.int .i64 x,.int .i64 y] w fun e w'=>e=.returned (.int .i64 (pY x y))∧w=w':=by
 have HC:Hid (pY x y=if x<y then -1 else if x>y then 1 else 0):=rfl;go_enter Tryz.func81,Tryz.ntmps81;go_wp2_with fail;refine(uZ _ _).mono ?_;rintro e w1 ⟨rfl,rfl⟩;go_wp2_with fail;refine(uZ _ _).mono ?_;rintro e w1 ⟨rfl,rfl⟩;by_cases h1:x<y
 ·have HE:Hid (pY x y=-1):=by rw[HC.out,if_pos h1];rfl
  go_wp2
  go_ret
  exact⟨by rw[HE.out];rfl,rfl⟩
 ·by_cases h2:y<x
  ·have HE:Hid (pY x y=1):=by rw[HC.out,if_neg h1,if_pos h2];rfl
   go_wp2
   go_ret
   exact⟨by rw[HE.out];rfl,rfl⟩
  ·have HE:Hid (pY x y=0):=by rw[HC.out,if_neg h1,if_neg h2];rfl
   go_wp2
   go_ret
   exact⟨by rw[HE.out];rfl,rfl⟩
theorem xK(x y:Int)(w:World):Calls Tryz.prog 192 #[.agg #[.int .i64 x,.int .i64 y]] w fun e w'=>e=.returned (.int .i64 x)∧Bl w w':=by
 have hB:=(bQ w.heap.size w).alloc (nR _) (.cells #[.int .i64 x,.int .i64 y] 77);go_enter Tryz.func192,Tryz.ntmps192;go_wp2;go_ret;exact⟨rfl,hB⟩
theorem sH(v:Value)(w:World):(Go.method 344 77 v "loop.example/s01595/impl.sortKey").run Tryz.prog w=.ok (192,v) w:=by kernel_rfl
theorem nZ(x y k:Int)(w:World):Calls Tryz.prog 80 #[.agg #[.int .i64 x,.int .i64 y],.int .i64 k] w fun e w'=>e=.returned (.int .i64 (pY x k))∧Bl w w':=by
 have hB:=(bQ w.heap.size w).alloc (nR _) (.cells #[.int .i64 x,.int .i64 y] 77);have mS:=sH;go_enter Tryz.func80,Tryz.ntmps80;go_wp2_with fail;refine(xK x y _).mono ?_;rintro e w1 ⟨rfl,ao⟩;have eX:=hB.trans (ao.mono hB.size);clear ao;go_wp2_with fail;refine(yD _ _ _).mono ?_;rintro e w2 ⟨rfl,rfl⟩;go_wp2;go_ret;exact⟨rfl,eX⟩
def aFO(rs:List (Int×Int)):Prop:=∀i j,i≤j→j<rs.length→(rs.getD i (0,0)).1≤(rs.getD j (0,0)).1
def aFS(rs:List (Int×Int))(key:Int)(e:Ending):Prop:=∃i:Nat,∃b,e=.returned (.tuple #[.int .i64 i,.bool b])∧i≤rs.length∧(∀a,a<i→(rs.getD a (0,0)).1<key)∧(∀a,i≤a→a<rs.length→key≤(rs.getD a (0,0)).1)∧(b=true↔i<rs.length∧(rs.getD i (0,0)).1=key)
theorem zW(v:Value)(rs:List (Int×Int))(key:Int)(w:World)(hv:RdT w v rs)(hn:rs.length≤1048576)(hm:aFO rs):
  Calls Tryz.prog 79 #[v,.int .i64 key,.func (.func 80) #[] #[]] w fun e w'=>Bl w w'∧aFS rs key e:=by
 obtain⟨a,cap,rfl,hc⟩:=hv;go_enter Tryz.func79,Tryz.ntmps79;go_wp2;go_loopw [9,10] (fun u v wr=>∃i j:Nat,i≤j∧j≤rs.length∧u=.int .i64 i∧v=.int .i64 j∧Bl w wr∧(∀a,a<i→(rs.getD a (0,0)).1<key)∧∀a,j≤a→a<rs.length→key≤(rs.getD a (0,0)).1) (fun u v _=>(intOf v).toNat -(intOf u).toNat)
 case atStart=>exact⟨0,rs.length,Nat.zero_le _,nR _,rfl,rfl,bQ _ _,fun a ha=>by omega,fun a h1 h2=>by omega⟩
 case round=>
  obtain⟨i,j,g8,hj,rfl,rfl,hb,mw,uf⟩:=hrel;by_cases ai:i<j
  ·obtain⟨b,off,rfl,aa⟩:=hc (by omega)
   have Tr:i≤(i+j) / 2∧(i+j) / 2<j:=by omega
   obtain⟨g1,g2⟩:=aa ((i+j) / 2) (by omega);have lm:b<w.heap.size:=World.block_lt_of_cell? _ _ g1;rw[←hb.cell (p:=⟨b,off+(i+j) / 2*2,none⟩) lm]at g1;rw[←hb.cell (p:=⟨b,off+(i+j) / 2*2+1,none⟩) lm]at g2;have Bi:(i:Int) <(j:Int):=by omega
   obtain⟨p,HP⟩:∃p,Hid (rs.getD ((i+j) / 2) (0,0)=p):=⟨_,rfl⟩;rw[HP.out]at g1 g2;obtain⟨x,y⟩:=p;simp only at g1 g2;have vd:Hid (∀a,a<i→(rs.getD a (0,0)).1<key):=mw;have DF:Hid (∀a,j≤a→a<rs.length→key≤(rs.getD a (0,0)).1):=uf;clear hc aa mw uf;go_wp2_with fail;refine(nZ x y key _).mono ?_;rintro e w1 ⟨rfl,ao⟩;have ba:=hb.trans (ao.mono hb.size);have HC:Hid (pY x key=if x<key then -1 else if x>key then 1 else 0):=rfl;clear g1 g2 ao hb;by_cases hx:x<key
   ·rw[HC.out,if_pos hx]
    have La:Hid (∀a,a <(i+j) / 2+1→(rs.getD a (0,0)).1<key):=fun a ha=>by
     have:=hm a ((i+j) / 2) (by omega) (by omega)
     rw[HP.out]at this;simp only at this;omega
    go_wp2
    go_roundw
    case rel=>exact⟨(i+j) / 2+1,j,by omega,hj,by go_num,rfl,ba,La.out,DF.out⟩
    case measure=>simp[intOf];omega
   ·have Gm:¬pY x key<0:=by rw[HC.out,if_neg hx];split<;>omega
    have LX:Hid (∀a,(i+j) / 2≤a→a<rs.length→key≤(rs.getD a (0,0)).1):=fun a h1 h2=>by
     have:=hm ((i+j) / 2) a h1 h2
     rw[HP.out]at this;simp only at this;omega
    generalize pY x key=cv at *;clear hx;go_wp2;go_roundw
    case rel=>exact⟨i,(i+j) / 2,by omega,by omega,rfl,by go_num,ba,vd.out,LX.out⟩
    case measure=>simp[intOf];omega
  ·have ES:i=j:=by omega
   subst ES;have vd:Hid (∀a,a<i→(rs.getD a (0,0)).1<key):=mw;have DF:Hid (∀a,i≤a→a<rs.length→key≤(rs.getD a (0,0)).1):=uf;clear mw uf;by_cases jm:i<rs.length
   ·obtain⟨b,off,rfl,aa⟩:=hc (by omega)
    obtain⟨g1,g2⟩:=aa i jm;have lm:b<w.heap.size:=World.block_lt_of_cell? _ _ g1;rw[←hb.cell (p:=⟨b,off+i*2,none⟩) lm]at g1;rw[←hb.cell (p:=⟨b,off+i*2+1,none⟩) lm]at g2;have ET:(i:Int) <(rs.length:Int):=by omega
    obtain⟨p,HP⟩:∃p,Hid (rs.getD i (0,0)=p):=⟨_,rfl⟩;rw[HP.out]at g1 g2;obtain⟨x,y⟩:=p;simp only at g1 g2;clear hc aa;go_wp2_with fail;refine(nZ x y key _).mono ?_;rintro e w1 ⟨rfl,ao⟩;have ba:=hb.trans (ao.mono hb.size);have HB:Hid ((pY x key == 0)=true↔i<rs.length∧(rs.getD i (0,0)).1=key):=by
     show _↔_
     rw[HP.out];unfold pY;split
     ·simp;omega
     ·split
      ·simp;omega
      ·simp;omega
    generalize pY x key=cv at *;clear g1 g2 ao hb;go_wp2;exact bodyPost_ret (v:=.tuple #[.int .i64 i,.bool (cv == 0)]) (by simp[results,Tryz.results79,go_sem]) rfl ⟨ba,i,_,rfl,hj,vd.out,DF.out,HB.out⟩
   ·clear hc
    have ET:¬(i:Int) <(rs.length:Int):=by omega
    go_wp2
    exact bodyPost_ret (v:=.tuple #[.int .i64 i,.bool false]) (by simp[results,Tryz.results79,go_sem]) rfl ⟨hb,i,_,rfl,hj,vd.out,DF.out,by simp;omega⟩
theorem oA(v:Value)(rs:List (Int×Int))(key:Int)(w:World)(hv:RdT w v rs)(hn:rs.length≤1048576)(hm:aFO rs):
  Calls Tryz.prog 58 #[v,.int .i64 key] w fun e w'=>Bl w w'∧aFS rs key e:=by
 obtain⟨a,cap,ig,hc⟩:=id hv;subst ig;have Kz:∀(fn:Fn) (first cap:Array Value) (w:World),(Instr.makeFunc fn first cap).run Tryz.prog w=.ok (.func fn first cap) w:=fun _ _ _ _=>rfl;clear hc;go_enter Tryz.func58,Tryz.ntmps58;go_wp2_with fail;refine(zW _ rs key _ hv hn hm).mono ?_;rintro e w1 ⟨ao,i,b,rfl,h1,h2,h3,h4⟩;have HS:Hid (aFS rs key (.returned (.tuple #[.int .i64 i,.bool b]))):=⟨i,b,rfl,h1,h2,h3,h4⟩;clear h1 h2 h3 h4;go_wp2;exact bodyPost_ret (v:=.tuple #[.int .i64 i,.bool b]) (by simp[results,Tryz.results58,go_sem]) rfl ⟨ao,HS.out⟩
end Go.Proofs.YtaahkgkdpnnhhaaGreat
namespace Go.Proofs.YtaahkgkdpnnhhaaGreat
open Go.RowKit Go.Shelf Fo
def atT(f:fZ)(tree:Int):Option Nat:=(List.range f.roots.length).find? fun i=>rid f i == tree
theorem oM{f:fZ}{tree:Int}{t:Nat}(h:atT f tree=some t):t<f.roots.length∧rid f t=tree:=by
 unfold atT at h;rw[List.find?_range_eq_some]at h;exact⟨by simpa using h.2.1,by simpa using h.1⟩
theorem aLA{f:fZ}(h:Inv f):aFO f.roots:=fun i j g8 hj=>by
 rcases Nat.lt_or_eq_of_le g8 with q | q
 ·have:=h.ids i j q hj;unfold rid at this;omega
 ·subst q;exact Int.le_refl _
theorem aFY{f:fZ}{tree:Int}{i:Nat}{b:Bool}(h1:i≤f.roots.length)(h2:∀a,a<i→(f.roots.getD a (0,0)).1<tree)(hI:Inv f)(h3:∀a,i≤a→a<f.roots.length→tree≤(f.roots.getD a (0,0)).1)(h4:b=true↔i<f.roots.length∧(f.roots.getD i (0,0)).1=tree):atT f tree=if b then some i else none:=by
 unfold atT;cases b with
 | true=>
  obtain⟨k1,k2⟩:=h4.1 rfl;simp only[if_true];rw[List.find?_range_eq_some];refine⟨by rw[show rid f i=tree from k2];simp,by simpa using k1,fun j hj=>?_⟩;have:=h2 j hj;have av:¬rid f j=tree:=by unfold rid;omega
  simp[av]
 | false=>
  simp only[Bool.false_eq_true,if_false];rw[List.find?_range_eq_none];intro j hj;have av:¬rid f j=tree:=fun e=>by
   by_cases q:j<i
   ·have:=h2 j q;unfold rid at e;omega
   ·by_cases q':j=i
    ·subst q';have:=h4.2 ⟨hj,e⟩;cases this
    ·have a1:=hI.ids i j (by omega) hj
     have a2:=h3 i (nR _) (by omega);unfold rid at a1 e;omega
  simp[av]
def aIB(f:fZ)(tree:Int):Int:=match atT f tree with
 | some t=>(aB f t:Int)
 | none=>0
theorem vN{f:fZ}{tree:Int}{t:Nat}(h:atT f tree=some t):aIB f tree=(aB f t:Int):=by unfold aIB;rw[h]
theorem vM{f:fZ}{tree:Int}(h:atT f tree=none):aIB f tree=0:=by unfold aIB;rw[h]
theorem aEV{K:Int}(w:World)(ρ:Nat→Nat)(P:Nat)(A:Adr)(f:fZ)(J:List aQ)(tree:Int)(h:St w ρ P A f J)(hI:Inv f)(hz:Sz K f):
  Calls Tryz.prog 41 #[.pointer (some ⟨P,0,none⟩),.int .i64 tree] w fun e w'=>e=.returned (.int .i64 (aIB f tree))∧Bl w w':=by
 obtain⟨ja,jp,jj,hR,hJ⟩:=id h;have r0:w.cell? ⟨P,0,none⟩=some (.slice (some ⟨A.ra,0,none⟩) f.roots.length (f.roots.length+A.rj.length)):=by rw[hR.hP.cell];rfl
 have Ea:RdT w (.slice (some ⟨A.ra,0,none⟩) f.roots.length (f.roots.length+A.rj.length)) f.roots:=RdT.of hR.hr;go_enter Tryz.func41,Tryz.ntmps41;go_wp2_with fail;refine(oA _ f.roots tree w Ea (by have:=hI.r16;omega) (aLA hI)).mono ?_;rintro e w1 ⟨hb,i,b,rfl,h1,h2,h3,h4⟩;have jt:=aFY h1 h2 hI h3 h4;cases b with
 | true=>
  obtain⟨k1,k2⟩:=h4.1 rfl;have br:=h.below hb;have h0:0≤(f.roots.getD i (0,0)).2:=(hI.ic.rb _ (aO k1)).1;obtain⟨ed,-⟩:=br.rootCell k1 h0;obtain⟨_,_,_,iq,_⟩:=id br;have r1:w1.cell? ⟨P,0,none⟩=some (.slice (some ⟨A.ra,0,none⟩) f.roots.length (f.roots.length+A.rj.length)):=by rw[iq.hP.cell];rfl
  have FA:(i:Int) <(f.roots.length:Int):=by omega
  have HA:=aA (vN jt);clear jt h2 h3 h4 k2 Ea;go_wp2;go_ret;refine⟨?_,hb⟩;rw[HA.out];rfl
 | false=>
  have HA:=aA (vM jt);clear jt h2 h3 h4 Ea;go_wp2;go_ret;refine⟨?_,hb⟩;rw[HA.out];rfl
def aY(f:fZ)(kind tree:Int)(key val:ByteArray):Nat×Int:=
 if inB kind 1 6=false then(0,5)else if kind=5 then(0,0)else match atT f tree with
  | none=>(0,8)
  | some t=>if((kind=1∨kind=2∨kind=6)∧12<key.size)∨(kind=1∧10<val.size)then(0,4)else(t,0)
theorem aFU{K:Int}(w:World)(ρ:Nat→Nat)(P:Nat)(A:Adr)(f:fZ)(J:List aQ)(kind tree:Int)(key val:ByteArray)(h:St w ρ P A f J)(hI:Inv f)(hz:Sz K f):
  Calls Tryz.prog 72 #[.pointer (some ⟨P,0,none⟩),.agg #[.int .i64 kind,.int .i64 tree,.string key,.string val]] w fun e w'=>e=.returned (.tuple #[.int .i64 (aY f kind tree key val).1,.int .i64 (aY f kind tree key val).2])∧Bl w w':=by
 obtain⟨B,hB⟩:=eZ (w.heap.size);obtain⟨w0,mz⟩:=eZ (w.alloc (.cells #[.int .i64 kind,.int .i64 tree,.string key,.string val] 63));have cw:Bl w w0:=by rw[←mz];exact(bQ w.heap.size w).alloc (nR _) _
 have bj:=iNw mz hB;have kg:=h.below cw;obtain⟨ja,jp,jj,hR,hJ⟩:=id kg;have k0:w0.cell? ⟨B,0,none⟩=some (.int .i64 kind):=bj.c rfl;have k1:w0.cell? ⟨B,1,none⟩=some (.int .i64 tree):=bj.c rfl;obtain⟨r,Hr⟩:∃r,Hid (aY f kind tree key val=r):=⟨_,rfl⟩;rw[Hr.out];by_cases jm:inB kind 1 6=true
 ·have Ce:aY f kind tree key val=(if kind=5 then((0,0):Nat×Int)else match atT f tree with
   | none=>(0,8)
   | some t=>if((kind=1∨kind=2∨kind=6)∧12<key.size)∨(kind=1∧10<val.size)then(0,4)else(t,0)):=by
   unfold aY;rw[if_neg (by rw[jm];simp)]
  have HA:=aA Ce;clear Ce;go_enter Tryz.func72,Tryz.ntmps72;go_wp2_with fail;refine(eU kind 1 6 w0).mono ?_;rintro e w1 ⟨rfl,rfl⟩;rw[jm];by_cases h5:kind=5
  ·have HX:Hid (r=(0,0)):=by show _=_;rw[←Hr.out,HA.out,if_pos h5]
   subst h5;go_wp2;refine bodyPost_ret (v:=.tuple #[.int .i64 0,.int .i64 0]) (by simp[results,Tryz.results72,go_sem]) rfl ?_;rw[HX.out];exact⟨rfl,by first | exact cw | (rw[←hB];exact cw)⟩
  · -- place of the tree
   have r0:w0.cell? ⟨P,0,none⟩=some (.slice (some ⟨A.ra,0,none⟩) f.roots.length (f.roots.length+A.rj.length)):=by rw[hR.hP.cell];rfl
   have Ea:RdT w0.drew (.slice (some ⟨A.ra,0,none⟩) f.roots.length (f.roots.length+A.rj.length)) f.roots:=RdT.of hR.hr;have X5:(kind == 5)=false:=by simpa using h5
   have DL:=hR.hP.lt;have xf:=bj.lt;go_wp2;go_region_held3 (fun w'=>w'.cell? ⟨P,0,none⟩=some (.slice (some ⟨A.ra,0,none⟩) f.roots.length (f.roots.length+A.rj.length))∧w'.cell? ⟨B,1,none⟩=some (.int .i64 tree)) (first | go_keep | exact⟨r0,k1⟩ | exact⟨(hb.cell (p:=⟨P,0,none⟩) DL).trans r0,(hb.cell (p:=⟨B,1,none⟩) xf).trans k1⟩) ((go_at_call 58;refine(oA _ f.roots tree _ Ea (by have:=hI.r16;omega) (aLA hI)).mono ?_;rintro e w2 ⟨gz,i,b,rfl,h1,h2,h3,h4⟩;have hb:Bl w0 w2:=(bQ w0.heap.size w0).drew.trans gz));have jt:=aFY h1 h2 hI h3 h4;have yz:=cw.trans (hb.mono cw.size);have fv:IsC w2 B #[.int .i64 kind,.int .i64 tree,.string key,.string val] 63:=bj.of (hb.block B xf);have q0:w2.cell? ⟨B,0,none⟩=some (.int .i64 kind):=fv.c rfl;have q2:w2.cell? ⟨B,2,none⟩=some (.string key):=fv.c rfl;have q3:w2.cell? ⟨B,3,none⟩=some (.string val):=fv.c rfl;cases b with
   | false=>
    have HX:Hid (r=(0,8)):=by show _=_;rw[←Hr.out,HA.out,if_neg h5,jt];rfl
    clear jt h2 h3 h4 Ea;go_wp2;refine bodyPost_ret (v:=.tuple #[.int .i64 0,.int .i64 8]) (by simp[results,Tryz.results72,go_sem]) rfl ?_;rw[HX.out];exact⟨rfl,by first | exact yz | (rw[←hB];exact yz)⟩
   | true=>
    have DG:r=if((kind=1∨kind=2∨kind=6)∧12<key.size)∨(kind=1∧10<val.size)then(0,4)else(i,0):=by rw[←Hr.out,HA.out,if_neg h5,jt];rfl
    have GT:=aA DG;clear DG jt h2 h3 h4 Ea HA Hr;by_cases c1:kind=1
    ·subst c1
     by_cases hk:12<key.size
     ·have qr:(12:Int) <(key.size:Int):=by omega
      have HX:Hid (r=(0,4)):=by show _=_;rw[GT.out];simp[hk]
      go_wp2
      refine bodyPost_ret (v:=.tuple #[.int .i64 0,.int .i64 4]) (by simp[results,Tryz.results72,go_sem]) rfl ?_;rw[HX.out];exact⟨rfl,by first | exact yz | (rw[←hB];exact yz)⟩
     ·have qr:¬(12:Int) <(key.size:Int):=by omega
      by_cases hv:10<val.size
      ·have np:(10:Int) <(val.size:Int):=by omega
       have HX:Hid (r=(0,4)):=by show _=_;rw[GT.out];simp[hv]
       go_wp2
       refine bodyPost_ret (v:=.tuple #[.int .i64 0,.int .i64 4]) (by simp[results,Tryz.results72,go_sem]) rfl ?_;rw[HX.out];exact⟨rfl,by first | exact yz | (rw[←hB];exact yz)⟩
      ·have np:¬(10:Int) <(val.size:Int):=by omega
       have HX:Hid (r=(i,0)):=by show _=_;rw[GT.out];simp[hk,hv]
       go_wp2
       refine bodyPost_ret (v:=.tuple #[.int .i64 i,.int .i64 0]) (by simp[results,Tryz.results72,go_sem]) rfl ?_;rw[HX.out];exact⟨rfl,by first | exact yz | (rw[←hB];exact yz)⟩
    ·have c1':(kind == 1)=false:=by simpa using c1
     by_cases c2:kind=2
     ·subst c2
      by_cases hk:12<key.size
      ·have qr:(12:Int) <(key.size:Int):=by omega
       have HX:Hid (r=(0,4)):=by show _=_;rw[GT.out];simp[hk]
       go_wp2
       refine bodyPost_ret (v:=.tuple #[.int .i64 0,.int .i64 4]) (by simp[results,Tryz.results72,go_sem]) rfl ?_;rw[HX.out];exact⟨rfl,by first | exact yz | (rw[←hB];exact yz)⟩
      ·have qr:¬(12:Int) <(key.size:Int):=by omega
       have HX:Hid (r=(i,0)):=by show _=_;rw[GT.out];simp[hk]
       go_wp2
       refine bodyPost_ret (v:=.tuple #[.int .i64 i,.int .i64 0]) (by simp[results,Tryz.results72,go_sem]) rfl ?_;rw[HX.out];exact⟨rfl,by first | exact yz | (rw[←hB];exact yz)⟩
     ·have c2':(kind == 2)=false:=by simpa using c2
      by_cases c6:kind=6
      ·subst c6
       by_cases hk:12<key.size
       ·have qr:(12:Int) <(key.size:Int):=by omega
        have HX:Hid (r=(0,4)):=by show _=_;rw[GT.out];simp[hk]
        go_wp2
        refine bodyPost_ret (v:=.tuple #[.int .i64 0,.int .i64 4]) (by simp[results,Tryz.results72,go_sem]) rfl ?_;rw[HX.out];exact⟨rfl,by first | exact yz | (rw[←hB];exact yz)⟩
       ·have qr:¬(12:Int) <(key.size:Int):=by omega
        have HX:Hid (r=(i,0)):=by show _=_;rw[GT.out];simp[hk]
        go_wp2
        refine bodyPost_ret (v:=.tuple #[.int .i64 i,.int .i64 0]) (by simp[results,Tryz.results72,go_sem]) rfl ?_;rw[HX.out];exact⟨rfl,by first | exact yz | (rw[←hB];exact yz)⟩
      ·have c6':(kind == 6)=false:=by simpa using c6
       have HX:Hid (r=(i,0)):=by show _=_;rw[GT.out];simp[c1,c2,c6]
       go_wp2
       refine bodyPost_ret (v:=.tuple #[.int .i64 i,.int .i64 0]) (by simp[results,Tryz.results72,go_sem]) rfl ?_;rw[HX.out];exact⟨rfl,by first | exact yz | (rw[←hB];exact yz)⟩
 ·have Mq:inB kind 1 6=false:=by simpa using jm
  have HX:Hid (r=(0,5)):=by show _=_;rw[←Hr.out];unfold aY;rw[if_pos Mq]
  go_enter Tryz.func72,Tryz.ntmps72
  go_wp2_with fail
  refine(eU kind 1 6 w0).mono ?_;rintro e w1 ⟨rfl,rfl⟩;rw[Mq];go_wp2;refine bodyPost_ret (v:=.tuple #[.int .i64 0,.int .i64 5]) (by simp[results,Tryz.results72,go_sem]) rfl ?_;rw[HX.out];exact⟨rfl,by first | exact cw | (rw[←hB];exact cw)⟩
attribute [local go_sem] Oper.semAt_some
def aIV(F:Fence)(n:Nat)(P:Program)(g:Nat)(lb:Array Value)(vs:List (Array Value))(Kp:World→World→Prop)(w:World):Prop:=
 ∀(l:Nat) (J:List (Array Value)→World→Prop) (W:World),Bl w W→AbidesFrom W.heap.size J→
  (∀(pre:List (Array Value)) (x:Array Value) (W1:World),J pre W1→pre++[x] <+: vs→YieldAt F (n-1) P l x W1 fun e W'=>e=.returned (.bool true)∧J (pre++[x]) W'∧Kp W1 W')→
  J [] W→CallsIn F n P g (#[.func (.yield l) #[] #[]]++lb) W fun e W'=>(∃v,e=.returned v)∧J vs W'
structure KpB(B:Nat)(a:Option Nat)(W W':World):Prop where
 size:W.heap.size≤W'.heap.size
 b:W'.heap[B]?=W.heap[B]?
 g:∀g,a=some g→W'.heap[g]?=W.heap[g]?
theorem KpB.refl(B:Nat)(a:Option Nat)(W:World):KpB B a W W:=⟨nR _,rfl,fun _ _=>rfl⟩
theorem KpB.trans{B:Nat}{a:Option Nat}{X Y Z:World}(h:KpB B a X Y)(k:KpB B a Y Z):KpB B a X Z:=⟨lT h.size k.size,k.b.trans h.b,fun g e=>(k.g g e).trans (h.g g e)⟩
theorem KpB.put{B N:Nat}{a:Option Nat}(h1:B<N)(h2:∀g,a=some g→g<N)(W:World)(l:Nat)(o o':Obj)(hl:N≤l)(_ho:W.heap[l]?=some o)(_:o.isCells=false)(_:o.isWalk=false):KpB B a W (W.putObj l o'):=
 ⟨by simp[World.putObj],World.putObj_heap_other (by omega),fun g e=>World.putObj_heap_other (by have:=h2 g e;omega)⟩
def aHZ(r:JE):Value:=.agg #[.int .i64 r.1,.int .i64 r.2.1,eT r.2.2]
def iR(jp:List JE):List (Array Value):=((List.range jp.length).map fun i=>#[.int .i64 ((jp.length-1-i:Nat):Int),aHZ (jp.getD (jp.length-1-i) j0)])
theorem oN(jp:List JE):(iR jp).length=jp.length:=by simp[iR]
theorem xW(jp:List JE){m:Nat}(hm:m<jp.length):(iR jp)[m]?=some #[.int .i64 ((jp.length-1-m:Nat):Int),aHZ (jp.getD (jp.length-1-m) j0)]:=by
 unfold iR;rw[List.getElem?_map,List.getElem?_range hm];rfl
theorem aBI{w:World}{g:Nat}{xs:List JE}(h:IsC w g (iP xs) 187){i:Nat}(hi:i<xs.length):w.cell? ⟨g,i*3,none⟩=some (.int .i64 (xs.getD i j0).1)∧w.cell? ⟨g,i*3+1,none⟩=some (.int .i64 (xs.getD i j0).2.1)∧w.cell? ⟨g,i*3+2,none⟩=some (eT (xs.getD i j0).2.2):=by
 rw[h.cell,h.cell,h.cell];exact aHX xs hi
theorem vX(F:Fence)(n:Nat)(hg:F.fn 149)(c9:F.round=none)(hn:1≤n)(l B cap:Nat)(ja:Option Nat)(jp jj:List JE)(OU:jp.length≤1000000)(J:List (Array Value)→World→Prop)(B0:Nat)(hJ:AbidesFrom B0 J)
  (hY:∀pre (x:Array Value) W,J pre W→pre++[x] <+: iR jp→YieldAt F (n-1) Tryz.prog l x W fun e W'=>e=.returned (.bool true)∧J (pre++[x]) W'∧KpB B ja W W')
  (W:World) (hB:IsC W B #[.slice (adr ja) jp.length cap] 69) (hG:∀g,ja=some g→IsC W g (iP (jp++jj)) 187) (AV:ja=none→jp=[]) (h0:J [] W):
  CallsIn F n Tryz.prog 149 #[.func (.yield l) #[] #[],.pointer (some ⟨B,0,none⟩)] W fun e W'=>(∃v,e=.returned v)∧J (iR jp) W':=by
 have c0:W.cell? ⟨B,0,none⟩=some (.slice (adr ja) jp.length cap):=hB.c rfl;have mz:IntKind.i64.wrap ((jp.length:Int)-1)=(jp.length:Int)-1:=IntWalk.i64_in _ ⟨by omega,by omega⟩;refine callsIn_of_wp Tryz.func149 rfl hg ?_ c9;simp only[Tryz.ntmps149,List.size_toArray,List.length_cons,List.length_nil,Nat.reduceAdd,Nat.reduceSub,Array.replicate_succ,Array.replicate_zero,List.push_toArray,List.append_toArray,List.nil_append,List.cons_append];gi_wp2;gi_loopw [3] (fun i wr=>∃m:Nat,m≤jp.length∧i=.int .i64 ((jp.length:Int)-1-m)∧J ((iR jp).take m) wr∧KpB B ja W wr) (fun i _=>((intOf i)+1).toNat)
 case atStart=>exact⟨0,Nat.zero_le _,by simp,by simpa using h0,KpB.refl _ _ _⟩
 case round=>
  obtain⟨m,hm,rfl,Ci,hk⟩:=hrel;have Dc:IsC wr B #[.slice (adr ja) jp.length cap] 69:=hB.of hk.b;have d0:wr.cell? ⟨B,0,none⟩=some (.slice (adr ja) jp.length cap):=Dc.c rfl;by_cases ai:m<jp.length
  ·obtain⟨g,hja⟩:∃g,ja=some g:=by
    cases ja with
    | none=>rw[AV rfl]at ai;simp at ai
    | some g=>exact⟨g,rfl⟩
   subst hja;have VR:IsC wr g (iP (jp++jj)) 187:=(hG g rfl).of (hk.g g rfl);simp only[adr,Option.map_some]at d0;obtain⟨i,Hi⟩:=exH (jp.length-1-m);have CU:(jp.length:Int)-1-m=(i:Int):=by have:=Hi.out;omega
   have fe:i<jp.length:=by have:=Hi.out;omega
   rw[CU];have FA:(i:Int) <(jp.length:Int):=by omega
   obtain⟨e1,e2,e3⟩:=aBI VR (i:=i) (by simp;omega);have ik:(jp++jj).getD i j0=jp.getD i j0:=by rw[gD,List.getElem?_append_left fe,←gD]
   rw[ik]at e1 e2 e3;have hx:=xW jp ai;rw[←Hi.out]at hx;unfold aHZ at hx;obtain⟨⟨x1,x2,x3⟩,Nh⟩:∃x,jp.getD i j0=x:=⟨_,rfl⟩;rw[Nh]at e1 e2 e3 hx;simp only at e1 e2 e3 hx;obtain⟨pv,DQ⟩:∃pv,eT x3=.pointer pv:=⟨_,rfl⟩;rw[DQ]at e3 hx;have HT:Hid ((iR jp).take m++[#[.int .i64 (i:Int),.agg #[.int .i64 x1,.int .i64 x2,.pointer pv]]]=(iR jp).take (m+1)):=by
    show _=_
    rw[List.take_add_one,hx];rfl
   obtain⟨fn,tmps,assign,body,hy,hR⟩:=hY _ _ _ Ci (by rw[HT.out];exact List.take_prefix _ _);have YZ:IntKind.i64.wrap ((i:Int)-1)=(i:Int)-1:=IntWalk.i64_in _ ⟨by omega,by omega⟩;have HM:=aA (aI hx (aI ik (aI Nh CU)));have HB:=aA hk;clear hY hx ik Nh CU hk;gi_wp2;refine hR.mono ?_;rintro e W3 ⟨rfl,vf,Jo⟩;rw[HT.out]at vf;clear d0 e1 e2 e3 hy hR;gi_wp2;go_roundw
   case rel=>exact⟨m+1,by omega,by have:=HM.out.2.2.2;congr 1;omega,vf,HB.out.trans Jo⟩
   case measure=>simp[intOf]<;>omega
  ·obtain rfl:m=jp.length:=by omega
   have HT:Hid ((iR jp).take jp.length=iR jp):=List.take_of_length_le (by rw[oN];exact nR _);have GA:(jp.length:Int)-1-jp.length=-1:=by omega
   rw[GA];gi_wp2;go_end0;exact⟨⟨_,rfl⟩,by rw[←HT.out];exact Ci⟩
theorem xX(F:Fence)(n:Nat)(hg:F.fn 130)(c9:F.round=none)(a:Option Addr)(k c:Nat)(w:World):
  CallsIn F n Tryz.prog 130 #[.slice a k c] w fun e w'=>e=.returned (.func (.func 149) #[] #[.pointer (some ⟨w.heap.size,0,none⟩)])∧w'=w.alloc (.cells #[.slice a k c] 69):=by
 refine callsIn_of_wp Tryz.func130 rfl hg ?_ c9;simp only[Tryz.ntmps130,List.size_toArray,List.length_cons,List.length_nil,Nat.reduceAdd,Nat.reduceSub,Array.replicate_succ,Array.replicate_zero,List.push_toArray,List.append_toArray,List.nil_append,List.cons_append];gi_wp2;go_ret;exact⟨rfl,rfl⟩
theorem zS{n:Nat}{P:Program}{row:String}{args:Array Value}{w:World}{R:Value→World→Prop}(h:Rows P row args w R):RowsIn Fence.wide n P row args w R:=
 fun c cs _=>let ⟨v,w',r,s⟩:=h c cs;⟨v,w',r,stepsIn_wide.2 s⟩
structure mX(F:Fence)(P:Program):Prop where
 fn:∀k,F.fn k
 calls:∀(f:FuncId) (args:Array Value) (w:World) (R:Ending→World→Prop) (m:Nat),Calls P f args w R→CallsIn F m P f args w R
 rows:∀(row:String) (args:Array Value) (w:World) (R:Value→World→Prop) (m:Nat),Rows P row args w R→RowsIn F m P row args w R
theorem mX.wide(P:Program):mX Fence.wide P:=⟨fun _=>trivial,fun _ _ _ _ _ h=>callsIn_wide.2 h,fun _ _ _ _ _ h=>zS h⟩
theorem mX.inRound{F:Fence}{P:Program}(h:mX F P)(l:Nat):mX (F.inRound l) P:=⟨h.fn,fun f args w R m k=>CallsIn.inRound l (h.calls f args w R m k),fun r args w R m k=>h.rows r args w R m k⟩
section
variable {F : Fence} {n : Nat} {P : Program} {ops : Array Oper} {Q : Exit → Act → World → Prop} {md : Region.Mode}
theorem aCD{o:Oper}{a:Act}{w:World}{K:Act→World→Prop}(hF:mX F P)(hn:F.depth.isSome=true→1≤n)(hd:∀c,o.op≠.defer c)(h:o.wp P a w K Q):o.wpIn F n P a w K Q:=by
 refine⟨fun f _=>hF.fn f,?_⟩;rw[Oper.semAt_eq _ _ _ hd];unfold Oper.wp at h;generalize (execOp a.eval o).run P w=r at *;cases r with
 | ok x w'=>
  cases x<;>first | exact h | exact⟨hn,hF.calls _ _ _ _ _ h⟩ | exact⟨hn,hF.rows _ _ _ _ _ h⟩ | exact h.elim
 | halt x w'=>cases x<;>exact h
theorem tS{i:Nat}{a:Act}{w:World}{K:Act→World→Prop}(hF:mX F P)(hn:F.depth.isSome=true→1≤n)(hd:∀(j:Nat) (o:Oper),ops[j]?=some o→∀c,o.op≠.defer c)(hL:¬LetsOut Q)(h:wpOp P ops Q i K a w):wpOpIn F n P ops Q i K a w:=by
 unfold wpOp at h;unfold wpOpIn;cases ho:ops[i]? with
 | none=>rw[ho]at h;exact h
 | some o=>
  rw[ho]at h;simp only at h ⊢;split
  ·rename_i hw
   rw[if_pos hw]at h;rcases h with h | h
   ·exact aCD hF hn (hd i o ho) h
   ·exact absurd h.2 hL
  ·rename_i hw
   rw[if_neg hw]at h;exact⟨fun f _=>hF.fn f,h⟩
theorem lJ(hF:mX F P)(hn:F.depth.isSome=true→1≤n)(hd:∀(j:Nat) (o:Oper),ops[j]?=some o→∀c,o.op≠.defer c)(hL:¬LetsOut Q):∀(fuel:Nat) (listed:Array Bool) (a:Act) (w:World),wpAny P md ops Q fuel listed a w→wpAnyIn F n P md ops Q fuel listed a w
 | 0,_,_,_,h=>h
 | fuel+1,_,_,_,h=>⟨h.1,fun i hi=>wpOpIn_mono (fun a' w' h'=>lJ hF hn hd hL fuel _ a' w' h') (tS hF hn hd hL (h.2 i hi))⟩
def wX(ops:Array Oper):Bool:=ops.toList.all fun o=>match o.op with
 | .defer _=>false
 | _=>true
theorem wY(h:wX ops=true)(j:Nat)(o:Oper)(ho:ops[j]?=some o)(c:Call):o.op≠.defer c:=fun e=>by
 unfold wX at h;have hm:o∈ops.toList:=by
  have:=Array.mem_of_getElem? ho
  simpa using this
 have:=List.all_eq_true.1 h o hm
 rw[e]at this;cases this
theorem jC(S:World→Prop)(L:Nat){id:Nat}{a:Act}{w:World}(hF:mX F P)(hn:F.depth.isSome=true→1≤n)(hd:wX ops=true)(hL:¬LetsOut Q)(hm:P.follows .mixedOrders=true)
  (h:dV P .any ops Q S L ops.size (Array.replicate ops.size false) a w.drew):(Code.region id ops true).wpIn F n P Q a w:=
 wpIn_region_any hm (lJ hF hn (wY hd) hL _ _ _ _ (mU _ _ _ _ h))
end
end Go.Proofs.YtaahkgkdpnnhhaaGreat
namespace Go.Proofs.YtaahkgkdpnnhhaaGreat
open Go.RowKit Go.Shelf Fo
variable {w w' : World} {ρ ρ' : Nat → Nat} {P : Nat} {A : Adr} {f : fZ} {S : Nat → Prop} {ja : Option Nat} {jp jj : List JE} {J : List aQ}
structure JrK(w:World)(ρ:Nat→Nat)(ja:Option Nat)(jp jj:List JE)(J:List aQ)(k:Nat):Prop where
 arr:∀g,ja=some g→IsC w g (iP (jp++jj)) 187∧ρ g=6
 nil:ja=none→jp=[]∧jj=[]
 len:jp.length=J.length
 row:∀i,i<k→(jp.getD i j0).1=((J.getD i jr0).1:Int)∧(jp.getD i j0).2.1=(J.getD i jr0).2.1∧
  (match (J.getD i jr0).2.2 with
  | none=>(jp.getD i j0).2.2=none
  | some d=>∃q a junk,(jp.getD i j0).2.2=some q∧ρ q=kC i∧(∀g,a=some g→ρ g=kD i)∧aK w q d a junk)
theorem JrL.toK(h:JrL w ρ ja jp jj J):JrK w ρ ja jp jj J J.length:=⟨h.arr,h.nil,h.len,h.row⟩
def isK(k r:Nat):Prop:=r=6∨∃i,i<k∧(r=kC i∨r=kD i)
theorem JrK.frm{k k':Nat}(h:JrK w ρ ja jp jj J k)(hk:k'≤k)(hF:Frm S w w')(ho:∀x,ρ x≠0→x<w.heap.size)(hS:∀x,S x→¬isK k' (ρ x))(hρ:∀x,isK k' (ρ x)→ρ' x=ρ x):JrK w' ρ' ja jp jj J k':=by
 have rol:∀{x r},ρ x=r→isK k' r→ρ' x=r:=fun {x r} e hr=>by rw[hρ x (e▸hr),e]
 have no:∀{x r},ρ x=r→isK k' r→¬S x:=fun {x r} e hr hs=>hS x hs (e▸hr);have k6:isK k' 6:=.inl rfl;refine⟨fun g e=>?_,h.nil,h.len,fun i hi=>?_⟩
 ·obtain⟨h1,h2⟩:=h.arr g e
  exact⟨h1.frm hF (no h2 k6),rol h2 k6⟩
 ·have kb:isK k' (kC i):=.inr ⟨i,hi,.inl rfl⟩
  have kn:isK k' (kD i):=.inr ⟨i,hi,.inr rfl⟩;obtain⟨h1,h2,h3⟩:=h.row i (by omega);refine⟨h1,h2,?_⟩;cases e:(J.getD i jr0).2.2 with
  | none=>rw[e]at h3;exact h3
  | some d=>
   rw[e]at h3;obtain⟨q,a,junk,m1,m2,m3,m4⟩:=h3;exact⟨q,a,junk,m1,rol m2 kb,fun g e=>rol (m3 g e) kn,m4.frm hF (no m2 kb) fun g e=>no (m3 g e) kn⟩
theorem St.dead(h:St w ρ P A f J):St w ρ P A f fN:=by
 obtain⟨ja,jp,jj,h1,_⟩:=h;exact⟨ja,jp,jj,h1,fun hl=>absurd hl uR⟩
def aBL(ρ:Nat→Nat)(q:Nat)(a:Option Nat):Nat→Nat:=fun x=>if x=q∨a=some x then 0 else ρ x
theorem St.unrole(h:St w ρ P A f fN){q:Nat}{a:Option Nat}(hq:isJ (ρ q))(ha:∀g,a=some g→isJ (ρ g)):St w (aBL ρ q a) P A f fN:=by
 obtain⟨ja,jp,jj,h1,_⟩:=h;refine⟨ja,jp,jj,h1.frm (S:=fun _=>False) ⟨Frm.refl _ _,fun x hx hn=>?_,fun x hx=>?_⟩ (fun _ _ e=>e.elim),fun hl=>absurd hl uR⟩
 ·unfold aBL
  split
  ·rename_i e
   rcases e with e | e
   ·rw[e]at hn;exact absurd hq hn.2
   ·exact absurd (ha x e) hn.2
  ·rfl
 ·unfold aBL at hx
  split at hx
  ·exact absurd rfl hx
  ·exact h1.own x hx
theorem aLW{k i:Nat}(h:¬i<k):¬isK k (kC i):=fun e=>by
 rcases e with e | ⟨j,hj,e | e⟩
 ·unfold kC at e;omega
 ·unfold kC at e;omega
 ·unfold kC kD at e;omega
theorem aLX{k i:Nat}(h:¬i<k):¬isK k (kD i):=fun e=>by
 rcases e with e | ⟨j,hj,e | e⟩
 ·unfold kD at e;omega
 ·unfold kC kD at e;omega
 ·unfold kD at e;omega
theorem aMS{k r:Nat}(h:isK k r):isJ r:=by
 rcases h with e | ⟨j,hj,e | e⟩
 ·rw[e];exact aGW
 ·rw[e];exact qL j
 ·rw[e];exact qM j
theorem aDP(f:fZ){i:Nat}(hi:i<J.length):dY f (J.drop i)=aKV (dY f (J.drop (i+1))) (J.getD i jr0):=by
 have:J.drop i=J.getD i jr0 :: J.drop (i+1):=by
  rw[gD,gE hi];exact List.drop_eq_getElem_cons hi
 rw[this];rfl
end Go.Proofs.YtaahkgkdpnnhhaaGreat
namespace Go.Proofs.YtaahkgkdpnnhhaaGreat
open Go.RowKit Go.Shelf Fo
attribute [local go_sem] Oper.semAt_some
theorem tR{F:Fence}{n:Nat}{P:Program}{g:Operand}{ps:Array Tmp}{assign body:Code}{Q:Exit→Act→World→Prop}{a:Act}{w:World}
  (c9:F.round=none) (h1:1≤n) {gf:Nat} {lb:Array Value} (hg:a.eval g=.func (.func gf) #[] lb) (Pd:F.fn gf) (eg:∀args w,(callFunc gf args).run P w=.ok (.enter gf args) w)
  {Kp:World→World→Prop} {vs:List (Array Value)} {w0:World} (KN:aIV F (n-1) P gf lb vs Kp w0)
  (Kj:∀{A B C:World},Kp A B→Kp B C→Kp A C) (IV:∀(W:World) (l:Nat) (o o':Obj),w.heap.size≤l→W.heap[l]?=some o→o.isCells=false→o.isWalk=false→Kp W (W.putObj l o')) (gz:Bl w0 w) (KE:∀x∈vs,x.size=ps.size)
  (I:List (Array Value)→World→Prop) (hI:OwnFrom w.heap.size I) (h0:I [] w)
  (uq:∀(l:Nat) (pre:List (Array Value)) (x:Array Value) (W:World),I pre W→pre++[x] <+: vs→
   assign.wpIn (F.inRound l) (n-1-1) P (Exit.then (fun a' W'=>KeepsFrom w.heap.size W W'∧Kp W W'∧∃I2:List Unit→World→Prop,OwnFrom w.heap.size I2∧I2 [] W'∧∀W2,I2 [] W2→body.wpIn (F.inRound l) (n-1-1) P (ownPostG w.heap.size Kp I (fun _ _ _=>False) (pre++[x]) W2) a' W2) (fun _ _ _=>False)) {tmps:=(ps.zip x).foldl (fun t (p,v)=>t.setIfInBounds p v) a.tmps,defers:=[]} W)
  (AJ:∀(D:Nat) (W:World),w.heap.size≤D→I vs W→W.heap[D]?=some (.deferred (some []))→Q .normal {a with defers:={target:=.collected D,args:=#[]} :: a.defers} W):
  (Code.rangeFunc g ps assign body).wpIn F n P Q a w:=by
 refine wpIn_rangeFunc fun fn pa=>?_;rw[c9];obtain⟨D,hD⟩:=eZ (w.heap.size);obtain⟨R,hR⟩:∃R:LoopState→Option Code→Loop,R=fun st pe=>{state:=st,pending:=pe,fn,tmps:=a.tmps,params:=ps,assign,body,defers:=w.heap.size}:=⟨_,rfl⟩;obtain⟨V,hV⟩:=eZ ((w.alloc (.deferred (some []))).alloc (.loop (R .ready none)));have sz:V.heap.size=D+2:=by rw[←hV,←hD];simp
 have atL:V.heap[D+1]?=some (.loop (R .ready none)):=by
  have:=World.alloc_heap_new (w.alloc (.deferred (some []))) (.loop (R .ready none))
  rw[World.size_alloc,hV,hD]at this;exact this
 have atD:V.heap[D]?=some (.deferred (some [])):=by
  rw[←hV,←hD];exact(Below.heap_alloc _ _ _ (by simp)).trans (World.alloc_heap_new w _)
 have start:I [] V:=by rw[←hV];exact hI.alloc _ (hI.alloc _ h0)
 have old:Bl w0 V:=by
  rw[←hV];exact gz.trans ((((bQ _ w).alloc (nR _) _).alloc (by simp) _).mono gz.size)
 refine⟨D+1,[{target:=.collected D,args:=#[]}],V,{target:=.fn (.func gf) lb,args:=#[.func (.yield (D+1)) #[] #[]]},V,gf,#[.func (.yield (D+1)) #[] #[]]++lb,V,?_,?_,?_,?_,fun _=>h1,?_⟩
 ·rw[←hV,←hD,hR];exact run_enterLoop_outer _ _ _ _ _
 ·simp only[resolve,hg];simp[go_sem]
 ·intro f' EP;simp[Target.leads]at EP;subst EP;exact Pd
 ·simp[invoke,go_sem,eg]
 rw[hD]at hI IV uq AJ;have book:AbidesFrom V.heap.size fun pre W=>I pre W∧W.heap[D+1]?=some (.loop (R .ready none))∧W.heap[D]?=some (.deferred (some [])):=fun s X Y row hs rf hr=>
  ⟨hI s X Y row hs.1 rf fun r e=>by obtain⟨hB,o,ho,hw⟩:=hr r e;exact⟨by omega,o,ho,Obj.not_cells_of_walk hw⟩,
   (grownBy_keeps rf (fun r e=>(hr r e).2) hs.2.1 rfl).trans hs.2.1,(grownBy_keeps rf (fun r e=>(hr r e).2) hs.2.2 rfl).trans hs.2.2⟩
 refine(KN (D+1) _ V old book (fun pre x W hJ lg=>?_) ⟨start,atL,atD⟩).mono ?_
 ·obtain⟨hi,hl,hk⟩:=hJ
  have ai:D+1<W.heap.size:=(Array.getElem?_eq_some_iff.1 hl).1;have hy:=run_yield (P:=P) (args:=x) hl (by rw[hR];exact KE x (lg.subset (by simp)));rw[hR]at hy;refine⟨fn,_,assign,body,hy,roundIn_of_wpIn pa (wpIn_mono (uq (D+1) pre x W hi lg) ?_)⟩;clear hy;rintro e a' W' h;cases e with
  | ret=>exact h
  | exit id=>exact h
  | goto t=>exact h
  | panic ch=>exact h
  | outgrown=>exact h
  | normal=>
  obtain⟨kA,pA,I2,vu,AM,ED⟩:=h;have Au:=kA.same _ _ (by omega) hl rfl;have qr:=kA.same _ _ (nR _) hk rfl;have Bi:D+1<W'.heap.size:=(Array.getElem?_eq_some_iff.1 Au).1;refine⟨_,run_beginRound Au (by rw[hR]),?_⟩;have b2:(W'.putObj (D+1) (.loop {R .ready none with state:=.busy})).heap[D+1]?=some (.loop {R .ready none with state:=.busy}):=World.putObj_heap_same Bi;have d2:(W'.putObj (D+1) (.loop {R .ready none with state:=.busy})).heap[D]?=some (.deferred (some [])):=(World.putObj_heap_other (by omega)).trans qr;refine wpIn_mono (ED _ (vu.putObj _ AM (by omega) Au rfl)) ?_;rintro e a3 W3 hp;cases e with
  | normal=>
   obtain⟨k3,p3,i3⟩:=hp;have l3:=k3.same _ _ (by omega) b2 rfl;have hr:=run_endRound (P:=P) none l3;rw[hR]at hr l3;refine⟨_,_,hr,rfl,⟨hI.putObj _ i3 (by omega) l3 rfl,?_,?_⟩,Kj pA (Kj (Kj (IV _ _ _ _ (by omega) Au rfl rfl) p3) (IV _ _ _ _ (by omega) l3 rfl rfl))⟩
   ·rw[hR];exact World.putObj_heap_same (Array.getElem?_eq_some_iff.1 l3).1
   ·exact(World.putObj_heap_other (by omega)).trans (k3.same _ _ (nR _) d2 rfl)
  | ret=>exact hp.2.elim
  | exit id=>exact hp.2.elim
  | goto t=>exact hp.2.elim
  | panic ch=>exact hp.elim
  | outgrown=>exact hp.elim
 ·rintro e W2 ⟨⟨v,rfl⟩,hi,hl,hk⟩
  exact⟨none,_,by have:=run_endLoop (P:=P) hl (by rw[hR];simp);rw[hR]at this;exact this,AJ _ _ (nR _) (hI.putObj _ hi (by omega) hl rfl) ((World.putObj_heap_other (by omega)).trans hk)⟩

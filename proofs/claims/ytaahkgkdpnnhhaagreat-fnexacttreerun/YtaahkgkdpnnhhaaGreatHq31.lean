import Derived.Test.YtaahkgkdpnnhhaaGreatHq28
set_option maxHeartbeats 9999999
set_option maxRecDepth 99999
set_option linter.all false
namespace Go.Proofs.YtaahkgkdpnnhhaaGreat
open Go.RowKit Go.Shelf Fo
structure Mx(X:Nat→Prop)(w:World)(ρ:Nat→Nat)(w':World)(ρ':Nat→Nat):Prop where
 frm:Frm (fun k=>ρ k≠0∨X k) w w'
 rol:∀x,x<w.heap.size→ρ' x=ρ x
structure ChP(k:Nat)(X:Nat→Prop)(L:Int)(T:fZ→(Nat→Option Obj)→Prop)(w:World)(ρ:Nat→Nat)(P:Nat)(f:fZ)(r:Option fZ)(e:Ending)(w':World):Prop where
 no:r=none→e=aBI∧∃ρ' A' g J',St w' ρ' P A' g J'∧Mx X w ρ w' ρ'∧JS k f [] g J'
 yes:∀g,r=some g→e=.returned (.tuple #[])∧∃ρ' A' J',St w' ρ' P A' g J'∧Mx X w ρ w' ρ'∧JS k f [] g J'∧Sz L g∧T g (fun x=>w'.heap[x]?)
def jC(f:fZ)(r:Option fZ):fZ×Int:=match r with
 | none=>(f,7)
 | some g=>if fI g.cur g.com<2*fJ g.cur.length then(f,7)else(g,0)
structure AtP(X:Nat→Prop)(T:fZ→(Nat→Option Obj)→Prop)(w:World)(ρ:Nat→Nat)(P:Nat)(f:fZ)(r:Option fZ)(e:Ending)(w':World):Prop where
 e:e=.returned (.int .i64 (jC f r).2)
 ex:∃ρ' A' J',St w' ρ' P A' (jC f r).1 J'∧Frm (fun k=>ρ k≠0∨X k) w w'∧∀x,x<w.heap.size→ρ x=0→ρ' x=0
 t:(jC f r).2=0→T (jC f r).1 (fun x=>w'.heap[x]?)
theorem St.nilJ{w:World}{ρ:Nat→Nat}{P:Nat}{A:Adr}{f:fZ}{J:List aR}(h:St w ρ P A f J):St (w.setCell ⟨P,7,none⟩ (.slice none 0 0)) ρ P A f []:=by
 obtain⟨ja,jp,jj,hR,_⟩:=h;have k:Frm (fun x=>x=P) w (w.setCell ⟨P,7,none⟩ (.slice none 0 0)):=Frm.set (S:=fun x=>x=P) w (p:=⟨P,7,none⟩) rfl _;have no:∀{x r},ρ x=r→r≠1→¬x=P:=fun {x r} e hr q=>hr (by rw[←e,q,hR.rP]);refine⟨none,[],[],hR.gen (Kp.same hR k) (.inr ?_) (.inl ⟨no hR.rr (by omega),rfl,rfl⟩) (.inl ⟨no hR.rm (by omega),rfl⟩) rfl (.inl ⟨no hR.rc (by omega),rfl⟩) rfl (.inl ⟨no hR.rd (by omega),rfl,rfl⟩) (fun x d hx=>.inl ⟨hx,rfl,rfl,fun y hy=>?_⟩) hR.no hR.rs hR.ds,fun _=>JrL.start _ _⟩
 ·have:=hR.hP.set 7 (.slice none 0 0)
  simpa [dC,aGO,adr] using this
 ·rcases hy with e | e
  ·exact no e (by unfold cE;omega)
  ·exact no e (by unfold cC;omega)
theorem uB{K L:Int}(k:Nat)(X:Nat→Prop)(T:fZ→(Nat→Option Obj)→Prop)(cf:Nat)(lb:Array Value)(w:World)(ρ:Nat→Nat)(P:Nat)(A:Adr)(f:fZ)(J0:List aR)(r:Option fZ)(h:St w ρ P A f J0)(hz:Sz K f)(hL:L≤1000000)(hk:k≤500000)(hne:0<f.roots.length)(h16:f.roots.length≤16)
  (hX:∀x,X x→x<w.heap.size∧ρ x=0) (hT:∀g (h h':Nat→Option Obj),(∀x,x<w.heap.size→h x=h' x)→T g h→T g h')
  (eg:∀args w,(callFunc cf args).run Tryz.prog w=.ok (.enter cf args) w)
  (hch:∀W,Frm (fun x=>x=P) w W→St W ρ P A f []→Calls Tryz.prog cf lb W (ChP k X L T W ρ P f r)):
  Calls Tryz.prog 97 #[.pointer (some ⟨P,0,none⟩),.func (.func cf) #[] lb] w (AtP X T w ρ P f r):=by
 have hmf:∀(fn:Fn) (first cap:Array Value) (w:World),(Instr.makeFunc fn first cap).run Tryz.prog w=.ok (.func fn first cap) w:=fun _ _ _ _=>rfl;obtain⟨fb,hfb⟩:=eZ (w.heap.size);obtain⟨w1,hw1⟩:=eZ (w.alloc (.cells #[.pointer (some ⟨P,0,none⟩)] 65));obtain⟨cd,hcd⟩:=eZ (w1.heap.size);obtain⟨w2,hw2⟩:=eZ (w1.alloc (.cells #[.int .i64 0] 2));have hB1:=bAl hw1;have hB2:=bAl hw2;have hs1:w1.heap.size=w.heap.size+1:=by rw[←hw1];simp
 have hs2:w2.heap.size=w1.heap.size+1:=by rw[←hw2];simp
 have hfb1:=iNw hw1 hfb;have hfb2:=hfb1.of (hB2.block _ hfb1.lt);have hcd2:=iNw hw2 hcd;have hBw2:Bl w w2:=hB1.trans (hB2.mono (by omega));have hS2:=h.below hBw2;obtain⟨_,_,_,hR2,_⟩:=id hS2;have k1:w2.cell? ⟨fb,0,none⟩=some (.pointer (some ⟨P,0,none⟩)):=hfb2.c rfl;have k2:w2.cell? ⟨P,0,none⟩=some (.slice (some ⟨A.ra,0,none⟩) f.roots.length (f.roots.length+A.rj.length)):=by rw[hR2.hP.cell];rfl
 have hTs:Tsl w2 (.slice (some ⟨A.ra,0,none⟩) f.roots.length (f.roots.length+A.rj.length)) f.roots:=.inr ⟨A.ra,0,f.roots.length+A.rj.length,f.roots++A.rj,by simp,hR2.hr,by simp,by simp⟩;have HSZ:=aA (aI hs1 hs2);clear hs1 hs2;go_enter_defers Tryz.func97,Tryz.ntmps97;go_wp2_with fail;refine(aBC _ f.roots w2 hTs (by omega)).mono ?_;rintro e w3 ⟨v',rfl,⟨ag,rj,rfl,hg1,hg2,hg3⟩,hB3⟩;obtain⟨gr,rfl⟩:∃gr,ag=some gr:=by
  cases ag with
  | none=>have:=(hg2 rfl).1;rw[this]at hne;simp at hne
  | some g=>exact⟨g,rfl⟩
 obtain⟨hgs,hgr3⟩:=hg1 gr rfl;simp only[adr,Option.map_some];obtain⟨rb,hrb⟩:=eZ (w3.heap.size);obtain⟨w4,hw4⟩:=eZ (w3.alloc (.cells #[.slice (some ⟨gr,0,none⟩) f.roots.length (f.roots.length+rj.length)] 55));have hB4:=bAl hw4;have hBw4:Bl w w4:=(hBw2.trans (hB3.mono hBw2.size)).trans (hB4.mono (lT hBw2.size hB3.size));have hS4:=h.below hBw4;obtain⟨_,_,_,hR4,_⟩:=id hS4;have k3:w4.cell? ⟨fb,0,none⟩=some (.pointer (some ⟨P,0,none⟩)):=by
  rw[((hfb2.of (hB3.block _ hfb2.lt)).of (hB4.block _ (lL hfb2.lt hB3.size)):IsC w4 fb _ _).cell];rfl
 have k4:∃v,w4.cell? ⟨P,7,none⟩=some v:=⟨_,by rw[hR4.hP.cell];rfl⟩;obtain⟨v7,k4⟩:=k4;have k5:=hR4.hP.frozen 7;obtain⟨w5,hw5⟩:=eZ (w4.setCell ⟨P,7,none⟩ (.slice none 0 0));have hS5:=hS4.nilJ;rw[hw5]at hS5;have hF5:Frm (fun x=>x=P) w w5:=by rw[←hw5];exact(Frm.of_below hBw4).trans (Frm.set (S:=fun x=>x=P) w4 (p:=⟨P,7,none⟩) rfl _)
 have hch5:=hch w5 hF5 hS5;have hPl:P<w.heap.size:=by obtain⟨_,_,_,q,_⟩:=id h;exact q.own P (by rw[q.rP];omega)
 have ρ0:∀x,w.heap.size≤x→ρ x=0:=fun x hx=>Decidable.byContradiction fun q=>by
  obtain⟨_,_,_,q',_⟩:=id h;exact absurd (q'.own x q) (by omega)
 have G:w.heap.size≤fb∧w.heap.size≤cd∧w.heap.size≤gr∧w.heap.size≤rb:=by
  have:=HSZ.out.1;have:=HSZ.out.2;have:=hB3.size;omega
 have hF45:Frm (fun x=>x=P) w4 w5:=by rw[←hw5];exact Frm.set (S:=fun x=>x=P) w4 (p:=⟨P,7,none⟩) rfl _
 have hfb5:IsC w5 fb #[.pointer (some ⟨P,0,none⟩)] 65:=(((hfb2.of (hB3.block _ hfb2.lt)).of (hB4.block _ (lL hfb2.lt hB3.size)):IsC w4 fb _ _).frm hF45 (by omega));have hcd5:IsC w5 cd #[.int .i64 0] 2:=(((hcd2.of (hB3.block _ hcd2.lt)).of (hB4.block _ (lL hcd2.lt hB3.size)):IsC w4 cd _ _).frm hF45 (by omega));have hgr5:IsC w5 gr (cO (f.roots++rj)) 77:=((hgr3.of (hB4.block _ hgr3.lt):IsC w4 gr _ _).frm hF45 (by omega));have hrb5:IsC w5 rb #[.slice (some ⟨gr,0,none⟩) f.roots.length (f.roots.length+rj.length)] 55:=by
  have:IsC w4 rb #[.slice (some ⟨gr,0,none⟩) f.roots.length (f.roots.length+rj.length)] 55:=by rw[←hw4,←hrb];exact IsC.new _ _ _
  exact this.frm hF45 (by omega)
 have keep:∀(w6:World) (ρ6:Nat→Nat),Mx X w5 ρ w6 ρ6→IsC w6 fb #[.pointer (some ⟨P,0,none⟩)] 65∧IsC w6 cd #[.int .i64 0] 2∧IsC w6 gr (cO (f.roots++rj)) 77∧IsC w6 rb #[.slice (some ⟨gr,0,none⟩) f.roots.length (f.roots.length+rj.length)] 55∧ρ6 fb=0∧ρ6 cd=0∧ρ6 gr=0∧ρ6 rb=0:=fun w6 ρ6 m=>by
  have no:∀x,w.heap.size≤x→¬(ρ x≠0∨X x):=fun x hx q=>q.elim (fun q=>q (ρ0 x hx)) (fun q=>absurd (hX x q).1 (by omega));exact⟨hfb5.frm m.frm (no _ G.1),hcd5.frm m.frm (no _ G.2.1),hgr5.frm m.frm (no _ G.2.2.1),hrb5.frm m.frm (no _ G.2.2.2),by rw[m.rol _ hfb5.lt,ρ0 _ G.1],by rw[m.rol _ hcd5.lt,ρ0 _ G.2.1],by rw[m.rol _ hgr5.lt,ρ0 _ G.2.2.1],by rw[m.rol _ hrb5.lt,ρ0 _ G.2.2.2]⟩
 have hs5:w.heap.size≤w5.heap.size:=hF5.size;have undo:∀(w6 w7:World) (ρ6:Nat→Nat) (g:fZ) (J':List aR),Mx X w5 ρ w6 ρ6→JS k f [] g J'→CtP w6 ρ6 P g J' gr f.roots cd w7→∃ρ' A' J',St w7 ρ' P A' f J'∧Frm (fun k=>ρ k≠0∨X k) w w7∧∀x,x<w.heap.size→ρ x=0→ρ' x=0:=fun w6 w7 ρ6 g J' m j c=>by
  obtain⟨⟨ρ7,A7,c1,c2,c3⟩,_⟩:=c;rw[JI.restored (j.ji f (JI.start f))]at c1;refine⟨ρ7,A7,_,c1,?_,fun x hx h0=>Decidable.byContradiction fun q=>?_⟩
  ·refine((hF5.wide (S':=fun k=>ρ k≠0∨X k) fun x _ e=>.inl (by rw[e];obtain⟨_,_,_,q,_⟩:=id h;rw[q.rP];omega)).next m.frm fun x _ q=>q).next c2 fun x hx q=>?_
   rcases q with q | q
   ·exact .inl (by rwa [m.rol x (by omega)]at q)
   ·exact absurd q (by omega)
  ·exact c3 x (by omega) q (by rw[m.rol x (by omega),h0])
 have HK:=aA keep;have HU:=aA undo;clear keep undo hfb5 hcd5 hgr5 hrb5;go_wp2_with fail;clear hF45 hS2 hR2 hS4 hR4 hS5 k1 k2 k3 k4 k5 hw1 hw2 hw4 hw5 hB1 hB2 hfb1 hfb2 hcd2 hBw2 hTs hB3 hg1 hg2 hgr3 hB4 hBw4 hch HSZ;refine hch5.mono ?_;rintro e w6 hC;cases r with
 | none=>
  obtain⟨rfl,ρ6,A6,g,J6,s6,m6,j6⟩:=hC.no rfl;obtain⟨b1,b2,b3,b4,z1,z2,z3,z4⟩:=HK.out _ _ m6;have hji:=j6.ji f (JI.start f);have hlen:J6.length≤k:=by have:=j6.len;simpa using this
  refine leaves_cons (f:=111) (args:=#[.pointer (some ⟨cd,0,none⟩),.pointer (some ⟨fb,0,none⟩),.pointer (some ⟨rb,0,none⟩)]) (by simp) (by simp[go_sem]) ?_;refine(aBT cd fb rb [] w6 ρ6 P A6 g J6 gr f.roots rj s6 (by omega) (by rw[hji.len];exact hz.n512) (fun r hr=>by rw[hji.len];exact hji.lt r hr) b3 z3 hg3 b2 b1 b4 ⟨z2,z1,z4⟩).mono ?_;rintro e u' w7 ⟨rfl,rfl,hC7⟩;have hcc:=hC7.cd;simp[Leaves,settle,results,Tryz.results97,go_sem,hcc];exact⟨rfl,HU.out _ _ _ _ _ m6 j6 hC7,fun q=>by simp[jC]at q⟩
 | some g=>
  obtain⟨rfl,ρ6,A6,J6,s6,m6,j6,z6,t6⟩:=hC.yes g rfl;obtain⟨b1,b2,b3,b4,z1,z2,z3,z4⟩:=HK.out _ _ m6;have hji:=j6.ji f (JI.start f);have hlen:J6.length≤k:=by have:=j6.len;simpa using this
  obtain⟨_,_,_,hR6,_⟩:=id s6;have n1:Nts w6 (.slice (some ⟨A6.c,0,none⟩) g.cur.length g.cur.length) g.cur:=by
   have:=lQ (ys:=[]) (zs:=g.cur) (by simpa using hR6.hc) fun i=>⟨(z6.cb i).1,Int.le_trans (z6.cb i).2 (by omega)⟩
   simpa using this
  have n2:Nts w6 (.slice (some ⟨A6.d,0,none⟩) g.com.length (g.com.length+A6.dj.length)) g.com:=wU hR6.hd fun i=>⟨(z6.mb i).1,Int.le_trans (z6.mb i).2 (by omega)⟩;have k1:w6.cell? ⟨fb,0,none⟩=some (.pointer (some ⟨P,0,none⟩)):=b1.c rfl;have k2:w6.cell? ⟨P,4,none⟩=some (.slice (some ⟨A6.c,0,none⟩) g.cur.length g.cur.length):=by rw[hR6.hP.cell];rfl
  have k3:w6.cell? ⟨P,5,none⟩=some (.slice (some ⟨A6.d,0,none⟩) g.com.length (g.com.length+A6.dj.length)):=by rw[hR6.hP.cell];rfl
  have hnc:Calls Tryz.prog 113 #[.slice (some ⟨A6.c,0,none⟩) g.cur.length g.cur.length,.slice (some ⟨A6.d,0,none⟩) g.com.length (g.com.length+A6.dj.length)] w6.drew fun e W'=>e=.returned (.int .i64 (fI g.cur g.com))∧Bl w6 W':=by
   refine((callsIn_wide (n:=3)).1 (xD Fence.wide 3 (fun _=>trivial) rfl (nR _) _ _ _ _ g.cur g.com z6.com z6.n512 z6.n8 w6.drew (n1.below (bQ _ _).drew) (n2.below (bQ _ _).drew))).mono ?_;rintro e w' ⟨h1,h2⟩;exact⟨h1,(bQ _ w6).drew.trans h2⟩
  have HC:=aA hnc;have HB:=aA (fun w' (hb:Bl w6 w')=>aI ((hb.cell (p:=⟨fb,0,none⟩) b1.lt).trans k1) (aI ((hb.cell (p:=⟨P,4,none⟩) hR6.hP.lt).trans k2) ((hb.cell (p:=⟨P,5,none⟩) hR6.hP.lt).trans k3)));go_wp2_with fail;go_region_held3 (fun w'=>w'.cell? ⟨fb,0,none⟩=some (.pointer (some ⟨P,0,none⟩))∧w'.cell? ⟨P,4,none⟩=some (.slice (some ⟨A6.c,0,none⟩) g.cur.length g.cur.length)∧w'.cell? ⟨P,5,none⟩=some (.slice (some ⟨A6.d,0,none⟩) g.com.length (g.com.length+A6.dj.length))) (first | assumption | go_keep)
   ((first
    | (go_at_call 113;refine HC.out.mono ?_;rintro e w7 ⟨rfl,hb7⟩;have hq7:=HB.out _ hb7)
    | (go_at_call 114;refine(qM _ _).mono ?_;rintro e w8 ⟨rfl,rfl⟩)))
  clear hq7;obtain⟨rv,hrv⟩:=eZ (fJ (g.cur.length:Int));have hrb':0≤rv∧rv≤30:=by have:=z6.n512;rw[←hrv];unfold fJ;split<;>omega
  have hwr:IntKind.i64.wrap (2*rv)=2*rv:=IntWalk.i64_in _ ⟨by omega,by omega⟩;obtain⟨fc,hfc⟩:=eZ (fI g.cur g.com);rw[hrv,hfc,hwr];have HRV:=aA hrv;have HFC:=aA hfc;have s7:=s6.below hb7;have b17:=b1.of (hb7.block _ b1.lt);have b27:=b2.of (hb7.block _ b2.lt);have b37:IsC w7 gr (cO (f.roots++rj)) 77:=b3.of (hb7.block _ b3.lt);have b47:=b4.of (hb7.block _ b4.lt);have cc:w7.cell? ⟨cd,0,none⟩=some (.int .i64 0):=b27.c rfl;have cz:=b27.frozen 0;clear hrv hfc hwr HC HB n1 n2 k1 k2 k3;by_cases hlt:fc<2*rv
  ·obtain⟨w8,hw8⟩:=eZ (w7.setCell ⟨cd,0,none⟩ (.int .i64 7))
   have hF8:Frm (fun x=>x=cd) w7 w8:=by rw[←hw8];exact Frm.set (S:=fun x=>x=cd) w7 (p:=⟨cd,0,none⟩) rfl _
   have b28:IsC w8 cd #[.int .i64 7] 2:=by
    have:=b27.set 0 (.int .i64 7)
    rw[hw8]at this;exact this
   have b18:=b17.frm hF8 (fun e=>IsC.ne (e▸b17) b27 (by decide) rfl);have b38:=b37.frm hF8 (fun e=>IsC.ne (e▸b37) b27 (by decide) rfl);have b48:=b47.frm hF8 (fun e=>IsC.ne (e▸b47) b27 (by decide) rfl);have s8:St w8 ρ6 P A6 g J6:=s7.frm (hF8.wide fun x _ e=>by rw[e];exact z2);go_wp2;refine leaves_cons (f:=111) (args:=#[.pointer (some ⟨cd,0,none⟩),.pointer (some ⟨fb,0,none⟩),.pointer (some ⟨rb,0,none⟩)]) (by simp) (by simp[go_sem]) ?_;refine(aBR cd fb rb w8 ρ6 P A6 g J6 gr f.roots rj s8 (by omega) (by rw[hji.len];exact hz.n512) (fun r hr=>by rw[hji.len];exact hji.lt r hr) b38 z3 hg3 b28 b18 b48 ⟨z2,z1,z4⟩).mono ?_;rintro e u' w9 ⟨rfl,rfl,hC9⟩;have hcc:=hC9.cd;have hatt:jC f (some g)=(f,7):=by show(if fI g.cur g.com<2*fJ g.cur.length then(f,(7:Int))else(g,0))=_;rw[HFC.out,HRV.out,if_pos hlt]
   have hC6:CtP w6 ρ6 P g J6 gr f.roots cd w9:=by
    obtain⟨⟨ρ9,A9,c1,c2,c3⟩,c4⟩:=hC9;exact⟨⟨ρ9,A9,c1,((Frm.of_below hb7).trans (hF8.wide fun x _ e=>.inr e)).trans c2,c3⟩,c4⟩
   simp[Leaves,settle,results,Tryz.results97,go_sem,hcc]
   exact⟨by rw[hatt],by rw[hatt];exact HU.out _ _ _ _ _ m6 j6 hC6,fun q=>by simp[hatt]at q⟩
  ·obtain⟨w8,hw8⟩:=eZ (w7.setCell ⟨cd,0,none⟩ (.int .i64 0))
   have hF8:Frm (fun x=>x=cd) w7 w8:=by rw[←hw8];exact Frm.set (S:=fun x=>x=cd) w7 (p:=⟨cd,0,none⟩) rfl _
   have b28:IsC w8 cd #[.int .i64 0] 2:=by
    have:=b27.set 0 (.int .i64 0)
    rw[hw8]at this;exact this
   have s8:St w8 ρ6 P A6 g J6:=s7.frm (hF8.wide fun x _ e=>by rw[e];exact z2);go_wp2;refine leaves_cons (f:=111) (args:=#[.pointer (some ⟨cd,0,none⟩),.pointer (some ⟨fb,0,none⟩),.pointer (some ⟨rb,0,none⟩)]) (by simp) (by simp[go_sem]) ?_;refine(aGA cd fb rb w8 b28).mono ?_;rintro e u' w9 ⟨rfl,rfl,hw9⟩;subst hw9;have hcc:w9.cell? ⟨cd,0,none⟩=some (.int .i64 0):=b28.c rfl;have hatt:jC f (some g)=(g,0):=by show(if fI g.cur g.com<2*fJ g.cur.length then(f,(7:Int))else(g,0))=_;rw[HFC.out,HRV.out,if_neg (by omega)]
   have hs6:w.heap.size≤w6.heap.size:=lT hs5 m6.frm.size;have hF68:Frm (fun x=>x=cd) w6 w9:=(Frm.of_below hb7).trans hF8;simp[Leaves,settle,results,Tryz.results97,go_sem,hcc];refine⟨by rw[hatt],?_,fun _=>?_⟩
   ·rw[hatt]
    refine⟨ρ6,A6,J6,s8,?_,fun x hx h0=>by rw[m6.rol x (by omega),h0]⟩;refine((hF5.wide (S':=fun k=>ρ k≠0∨X k) fun x _ e=>.inl (by rw[e];obtain⟨_,_,_,q,_⟩:=id h;rw[q.rP];omega)).next m6.frm fun x _ q=>q).next hF68 fun x hx q=>absurd q (by omega)
   ·rw[hatt]
    exact hT g _ _ (fun x hx=>(hF68.block x (by omega) (by omega)).symm) t6
theorem Fo.Inv.sz{f:fZ}(h:Inv f):Sz 2576 f:=
 ⟨h.ic.n512,h.ic.n8,h.ic.len,fun b d hd=>by have:=h.ent hd;omega,fun b d hd=>h.ic.lt hd,h.counts,fun i=>⟨(h.cmr i).1,by have:=(h.cmr i).2;omega⟩⟩
def aLR(f:fZ)(t H:Nat)(key val:ByteArray)(tb:Nat)(g:fZ)(h:Nat→Option Obj):Prop:=∃th,put f t H key val=some (g,th)∧h tb=some (.cells #[.bool th] 4 (0,0))
theorem put_ok'{f:fZ}{t H:Nat}{key val:ByteArray}(w:Wk f t H)(hr:cD f t H){g:fZ}{th:Bool}(hs:put f t H key val=some (g,th)):∃H',Wk g t H'∧cD g t H'∧g.roots.length=f.roots.length:=by
 obtain⟨H',h1,h2,h3⟩:=aAK w hr hs;exact⟨H',h1,h2,h3.len⟩
theorem aEH{K:Int}(w:World)(ρ:Nat→Nat)(P:Nat)(A:Adr)(f:fZ)(t H:Nat)(key val:ByteArray)(pb ab ib tb:Nat)(b0:Bool)(hS:St w ρ P A f [])(hW:Wk f t H)(hrt:cD f t H)(hz:Sz K f)(hK1:1≤K)(hK:K+10*(H+3)≤700000)(hJl:13*(H+3)≤600000)
  (hpb:IsC w pb #[.pointer (some ⟨P,0,none⟩)] 65) (hab:IsC w ab #[.int .i64 t] 3) (hib:IsC w ib #[.string key,.string val] 85) (htb:IsC w tb #[.bool b0] 4) (h0:ρ pb=0∧ρ ab=0∧ρ ib=0∧ρ tb=0) (h16:f.roots.length≤16):
  Calls Tryz.prog 98 #[.pointer (some ⟨pb,0,none⟩),.pointer (some ⟨ab,0,none⟩),.pointer (some ⟨ib,0,none⟩),.pointer (some ⟨tb,0,none⟩)] w
   (ChP (13*(H+3)) (fun x=>x=tb) (K+10*(H+3)) (aLR f t H key val tb) w ρ P f ((put f t H key val).map Prod.fst)):=by
 obtain⟨_,_,_,hR,_⟩:=id hS;have htl:t<f.roots.length:=hW.tl;obtain⟨rl,hrl⟩:=eZ (f.roots.length);have hti:((t:Nat):Int) <(rl:Int):=by omega
 have mk:∀(W:World) (ρ':Nat→Nat) (A':Adr) (g:fZ),IsC W pb #[.pointer (some ⟨P,0,none⟩)] 65→IsC W ab #[.int .i64 t] 3→IsC W ib #[.string key,.string val] 85→(∃jv,Rp W ρ' P A' g jv)→A'.ra=A.ra→A'.rj=A.rj→g.roots.length=f.roots.length→W.cell? ⟨pb,0,none⟩=some (.pointer (some ⟨P,0,none⟩))∧W.cell? ⟨P,0,none⟩=some (.slice (some ⟨A.ra,0,none⟩) rl (rl+A.rj.length))∧W.cell? ⟨ab,0,none⟩=some (.int .i64 t)∧W.cell? ⟨ib,0,none⟩=some (.string key)∧W.cell? ⟨ib,1,none⟩=some (.string val):=fun W ρ' A' g a1 a2 a3 a4 a5 a6 a7=>by
  obtain⟨jv,a4⟩:=a4;refine⟨a1.c rfl,?_,a2.c rfl,a3.c rfl,a3.c rfl⟩;rw[a4.hP.cell];simp[dC,a5,a6,a7,hrl]
 have HM:=aA mk;have hq0:w.drew.cell? ⟨pb,0,none⟩=some (.pointer (some ⟨P,0,none⟩))∧w.drew.cell? ⟨P,0,none⟩=some (.slice (some ⟨A.ra,0,none⟩) rl (rl+A.rj.length))∧w.drew.cell? ⟨ab,0,none⟩=some (.int .i64 t)∧w.drew.cell? ⟨ib,0,none⟩=some (.string key)∧w.drew.cell? ⟨ib,1,none⟩=some (.string val):=mk w ρ A f hpb hab hib ⟨_,hR⟩ rfl rfl rfl;clear mk;go_enter Tryz.func98,Tryz.ntmps98;go_wp2_with fail;refine aZ (fun W=>W.cell? ⟨pb,0,none⟩=some (.pointer (some ⟨P,0,none⟩))∧W.cell? ⟨P,0,none⟩=some (.slice (some ⟨A.ra,0,none⟩) rl (rl+A.rj.length))∧W.cell? ⟨ab,0,none⟩=some (.int .i64 t)∧W.cell? ⟨ib,0,none⟩=some (.string key)∧W.cell? ⟨ib,1,none⟩=some (.string val)) 10 (by kernel_rfl) ?_;refine tJ 0 4 (.pointer (some ⟨P,0,none⟩)) rfl hq0 ?_;simp only[Act.put,sB,sZ,sS];refine tJ 1 5 (.pointer (some ⟨P,0,none⟩)) rfl hq0 ?_;simp only[Act.put,sB,sZ,sS];refine tJ 2 6 (.pointer (some ⟨P,0,none⟩)) rfl hq0 ?_;simp only[Act.put,sB,sZ,sS];refine tJ 3 7 (.pointer (some ⟨P,0,none⟩)) rfl hq0 ?_;simp only[Act.put,sB,sZ,sS];refine tJ 4 8 (.slice (some ⟨A.ra,0,none⟩) rl (rl+A.rj.length)) rfl hq0 ?_;simp only[Act.put,sB,sZ,sS];refine tJ 5 9 (.int .i64 t) rfl hq0 ?_;simp only[Act.put,sB,sZ,sS];refine tJ 6 10 (.pointer (some ⟨A.ra,t*2,none⟩)) rfl hq0 ?_;simp only[Act.put,sB,sZ,sS];refine tJ 7 11 (.pointer (some ⟨A.ra,t*2+1,none⟩)) rfl hq0 ?_;simp only[Act.put,sB,sZ,sS];refine tJ 8 12 (.agg #[.string key,.string val]) rfl hq0 ?_;simp only[Act.put,sB,sZ,sS];refine oE 9 rfl fun K2 hK2=>?_;go_simp;have hBd:Bl w w.drew:=(bQ _ _).drew;refine(aKV (K:=K) w.drew ρ P A f [] t H key val (hS.below hBd) hW hz hK1 hK (by simpa using hJl)).mono ?_;intro e w6 hP6;cases hput:put f t H key val with
 | none=>
  obtain⟨rfl,ρ6,A6,g,J6,s6,m6,j6⟩:=hP6.no hput;refine⟨rfl,fun _=>⟨rfl,ρ6,A6,g,J6,s6,⟨(Frm.drew _ w).trans (m6.frm.wide fun x _ q=>.inl (q.resolve_right id)),fun x hx=>m6.rol x hx id⟩,j6⟩,fun g h=>by rw[hput]at h;cases h⟩
 | some gt=>
  obtain⟨g,th⟩:=gt;obtain⟨ρ6,A6,J6,rfl,d6,z6⟩:=hP6.yes g th hput;have m6:=d6.mv;have keep:∀{x:Nat} {cs:Array Value} {ty:TypeId},IsC w x cs ty→ρ x=0→IsC w6 x cs ty:=fun {x cs ty} hx h0=>(IsC.drew hx).frm m6.frm fun q=>q.elim (fun q=>q h0) id;have htb6:=keep htb h0.2.2.2;obtain⟨_,_,_,hR6,_⟩:=id d6.st;obtain⟨H',-,-,hsm⟩:=put_ok' hW hrt hput;have hq6:=HM.out w6 ρ6 A6 g (keep hpb h0.1) (keep hab h0.2.1) (keep hib h0.2.2.1) ⟨_,hR6⟩ d6.ad.ra d6.ad.rj hsm;have ct:w6.cell? ⟨tb,0,none⟩=some (.bool b0):=htb6.c rfl;have cz:=htb6.frozen 0;have hr6:ρ6 tb=0:=by rw[m6.rol tb htb.lt id];exact h0.2.2.2
  obtain⟨w7,hw7⟩:=eZ (w6.setCell ⟨tb,0,none⟩ (.bool th));have hF7:Frm (fun x=>x=tb) w6 w7:=by rw[←hw7];exact Frm.set (S:=fun x=>x=tb) w6 (p:=⟨tb,0,none⟩) rfl _
  have htb7:IsC w7 tb #[.bool th] 4:=by
   have:=htb6.set 0 (.bool th)
   rw[hw7]at this;exact this
  have s7:St w7 ρ6 P A6 g J6:=d6.st.frm (hF7.wide fun x _ e=>by rw[e];exact hr6);have HR:Hid (ChP (13*(H+3)) (fun x=>x=tb) (K+10*(H+3)) (aLR f t H key val tb) w ρ P f (some g) (.returned (.tuple #[])) w7):=by
   refine⟨fun q=>(by cases q),fun g' q=>?_⟩;cases q;refine⟨rfl,ρ6,A6,J6,s7,⟨?_,fun x hx=>m6.rol x hx id⟩,d6.js,z6,th,hput,htb7⟩;exact((Frm.drew _ w).trans (m6.frm.wide fun x _ q=>.inl (q.resolve_right id))).next hF7 fun x _ q=>.inr q
  clear s7 htb7 d6 z6 hP6;refine hK2 _ _ (fun _=>hq6) ?_;clear hK2 K2;refine oE 10 rfl fun K2 hK2=>?_;go_simp;refine hK2 _ _ (fun q=>absurd rfl q) ?_;clear hK2 K2;refine aV (by kernel_rfl) ?_ _;go_wp2;first | go_end0 | refine bodyPost_ret (results_none rfl _ _ _) rfl ?_
  rw[hput];exact HR.out
theorem xM{K:Int}(w:World)(ρ:Nat→Nat)(P:Nat)(A:Adr)(f:fZ)(t H:Nat)(key:ByteArray)(pb ab kb:Nat)(hS:St w ρ P A f [])(hW:Wk f t H)(hrt:cD f t H)(hmem:Mem f.nodes H (aB f t) key)(hz:Sz K f)(hK1:1≤K)(hK:K+20*(H+3)≤600000)(hJl:25*(H+3)≤500000)
  (hpb:IsC w pb #[.pointer (some ⟨P,0,none⟩)] 65) (hab:IsC w ab #[.int .i64 t] 3) (hkb:IsC w kb #[.string key] 9) (h16:f.roots.length≤16):
  Calls Tryz.prog 101 #[.pointer (some ⟨pb,0,none⟩),.pointer (some ⟨ab,0,none⟩),.pointer (some ⟨kb,0,none⟩)] w
   (ChP (25*(H+3)) (fun _=>False) (K+20*(H+3)) (fun _ _=>True) w ρ P f (bW f t H key)):=by
 obtain⟨_,_,_,hR,_⟩:=id hS;have htl:t<f.roots.length:=hW.tl;obtain⟨rl,hrl⟩:=eZ (f.roots.length);have hti:((t:Nat):Int) <(rl:Int):=by omega
 have hq0:w.drew.cell? ⟨pb,0,none⟩=some (.pointer (some ⟨P,0,none⟩))∧w.drew.cell? ⟨P,0,none⟩=some (.slice (some ⟨A.ra,0,none⟩) rl (rl+A.rj.length))∧w.drew.cell? ⟨ab,0,none⟩=some (.int .i64 t)∧w.drew.cell? ⟨kb,0,none⟩=some (.string key):=by
  refine⟨by show w.cell? _=_;rw[hpb.cell];rfl,?_,by show w.cell? _=_;rw[hab.cell];rfl,by show w.cell? _=_;rw[hkb.cell];rfl⟩;show w.cell? _=_
  rw[hR.hP.cell];simp[dC,hrl]
 go_enter Tryz.func101,Tryz.ntmps101
 go_wp2_with fail
 refine aZ (fun W=>W.cell? ⟨pb,0,none⟩=some (.pointer (some ⟨P,0,none⟩))∧W.cell? ⟨P,0,none⟩=some (.slice (some ⟨A.ra,0,none⟩) rl (rl+A.rj.length))∧W.cell? ⟨ab,0,none⟩=some (.int .i64 t)∧W.cell? ⟨kb,0,none⟩=some (.string key)) 9 (by kernel_rfl) ?_;refine aT (i:=0) 3 (.pointer (some ⟨P,0,none⟩)) (by kernel_rfl) (by kernel_rfl) rfl (by kernel_rfl) (by kernel_rfl) (by kernel_rfl) (fun _ _ _ h=>h) rfl rfl hq0 (fun w' hw=>by obtain⟨m1,m2,m3,m4⟩:=hw;go_simp;try rfl) ?_;simp only[Act.put,sB,sZ,sS];refine aT (i:=1) 4 (.pointer (some ⟨P,0,none⟩)) (by kernel_rfl) (by kernel_rfl) rfl (by kernel_rfl) (by kernel_rfl) (by kernel_rfl) (fun _ _ _ h=>h) rfl rfl hq0 (fun w' hw=>by obtain⟨m1,m2,m3,m4⟩:=hw;go_simp;try rfl) ?_;simp only[Act.put,sB,sZ,sS];refine aT (i:=2) 5 (.pointer (some ⟨P,0,none⟩)) (by kernel_rfl) (by kernel_rfl) rfl (by kernel_rfl) (by kernel_rfl) (by kernel_rfl) (fun _ _ _ h=>h) rfl rfl hq0 (fun w' hw=>by obtain⟨m1,m2,m3,m4⟩:=hw;go_simp;try rfl) ?_;simp only[Act.put,sB,sZ,sS];refine aT (i:=3) 6 (.pointer (some ⟨P,0,none⟩)) (by kernel_rfl) (by kernel_rfl) rfl (by kernel_rfl) (by kernel_rfl) (by kernel_rfl) (fun _ _ _ h=>h) rfl rfl hq0 (fun w' hw=>by obtain⟨m1,m2,m3,m4⟩:=hw;go_simp;try rfl) ?_;simp only[Act.put,sB,sZ,sS];refine aT (i:=4) 7 (.slice (some ⟨A.ra,0,none⟩) rl (rl+A.rj.length)) (by kernel_rfl) (by kernel_rfl) rfl (by kernel_rfl) (by kernel_rfl) (by kernel_rfl) (fun _ _ _ h=>h) rfl rfl hq0 (fun w' hw=>by obtain⟨m1,m2,m3,m4⟩:=hw;go_simp;try rfl) ?_;simp only[Act.put,sB,sZ,sS];refine aT (i:=5) 8 (.int .i64 t) (by kernel_rfl) (by kernel_rfl) rfl (by kernel_rfl) (by kernel_rfl) (by kernel_rfl) (fun _ _ _ h=>h) rfl rfl hq0 (fun w' hw=>by obtain⟨m1,m2,m3,m4⟩:=hw;go_simp;try rfl) ?_;simp only[Act.put,sB,sZ,sS];refine aT (i:=6) 9 (.pointer (some ⟨A.ra,t*2,none⟩)) (by kernel_rfl) (by kernel_rfl) rfl (by kernel_rfl) (by kernel_rfl) (by kernel_rfl) (fun _ _ _ h=>h) rfl rfl hq0 (fun w' hw=>by obtain⟨m1,m2,m3,m4⟩:=hw;go_simp;try rfl) ?_;simp only[Act.put,sB,sZ,sS];refine aT (i:=7) 10 (.pointer (some ⟨A.ra,t*2+1,none⟩)) (by kernel_rfl) (by kernel_rfl) rfl (by kernel_rfl) (by kernel_rfl) (by kernel_rfl) (fun _ _ _ h=>h) rfl rfl hq0 (fun w' hw=>by obtain⟨m1,m2,m3,m4⟩:=hw;go_simp;try rfl) ?_;simp only[Act.put,sB,sZ,sS];refine aT (i:=8) 11 (.string key) (by kernel_rfl) (by kernel_rfl) rfl (by kernel_rfl) (by kernel_rfl) (by kernel_rfl) (fun _ _ _ h=>h) rfl rfl hq0 (fun w' hw=>by obtain⟨m1,m2,m3,m4⟩:=hw;go_simp;try rfl) ?_;simp only[Act.put,sB,sZ,sS];refine oE 9 rfl fun K2 hK2=>?_;go_simp;have hBd:Bl w w.drew:=(bQ _ _).drew;refine(aET (K:=K) w.drew ρ P A f [] t H key (hS.below hBd) hW hrt hmem hz hK1 hK (by simpa using hJl)).mono ?_;intro e w6 hP6;cases hput:bW f t H key with
 | none=>
  obtain⟨rfl,ρ6,A6,g,J6,s6,m6,j6⟩:=hP6.no hput;refine⟨rfl,fun _=>⟨rfl,ρ6,A6,g,J6,s6,⟨(Frm.drew _ w).trans m6.frm,fun x hx=>m6.rol x hx id⟩,j6⟩,fun g h=>by rw[hput]at h;cases h⟩
 | some g=>
  obtain⟨rfl,ρ6,A6,J6,d6,z6⟩:=hP6.yes g hput;have m6:=d6.mv;have HR:Hid (ChP (25*(H+3)) (fun _=>False) (K+20*(H+3)) (fun _ _=>True) w ρ P f (some g) (.returned (.tuple #[])) w6):=by
   refine⟨fun q=>(by cases q),fun g' q=>?_⟩;cases q;exact⟨rfl,ρ6,A6,J6,d6.st,⟨(Frm.drew _ w).trans m6.frm,fun x hx=>m6.rol x hx id⟩,d6.js,z6,trivial⟩
  clear d6 z6 hP6;refine hK2 _ _ (fun q=>absurd rfl q) ?_;clear hK2 K2;refine aV (by kernel_rfl) ?_ _;go_wp2;first | go_end0 | refine bodyPost_ret (results_none rfl _ _ _) rfl ?_
  rw[hput];exact HR.out
abbrev An:=Int×Int×ByteArray
def bO(a:An):Value:=.agg #[.int .i64 a.1,.int .i64 a.2.1,.string a.2.2]
def lY(f:fZ)(t:Nat)(key val:ByteArray):fZ×An:=match put f t (hOf f t) key val with
 | none=>(f,7,0,.empty)
 | some (g,th)=>if fI g.cur g.com<2*fJ g.cur.length then(f,7,0,.empty)else(g,0,if th then 1 else 0,.empty)
def mW(f:fZ)(t:Nat)(key:ByteArray):fZ×An:=match Fo.find f.nodes (hOf f t) (aB f t) key with
 | none=>(f,9,0,.empty)
 | some v=>match bW f t (hOf f t) key with
  | none=>(f,7,0,.empty)
  | some g=>if fI g.cur g.com<2*fJ g.cur.length then(f,7,0,.empty)else(g,0,0,v)
def lZ(f:fZ)(t:Nat):fZ×An:=if 16≤f.roots.length∨65535≤f.next then(f,4,0,.empty)else(cS f t,0,f.next,.empty)
def oN(f:fZ)(t:Nat):fZ×An:=if f.roots.length=1 then(f,18,0,.empty)else((drop f t (hOf f t)).1,0,(drop f t (hOf f t)).2,.empty)
def nZ(f:fZ)(t:Nat)(key:ByteArray):fZ×An:=match Fo.find f.nodes (hOf f t) (aB f t) key with
 | none=>(f,9,0,.empty)
 | some v=>(f,0,0,v)
structure DoP(w:World)(ρ:Nat→Nat)(P:Nat)(r:fZ×An)(e:Ending)(w':World):Prop where
 e:e=.returned (bO r.2)
 ex:∃ρ' A' J',St w' ρ' P A' r.1 J'∧Frm (fun k=>ρ k≠0) w w'∧∀x,x<w.heap.size→ρ x=0→ρ' x=0
theorem jX(W:World)(c:Int):(Instr.build 92 #[(0,.int .i64 c)]).run Tryz.prog W=.ok (.agg #[.int .i64 c,.int .i64 0,.string .empty]) W:=by kernel_rfl
theorem qV(W:World)(c:Int):(Instr.build 92 #[(1,.int .i64 c)]).run Tryz.prog W=.ok (.agg #[.int .i64 0,.int .i64 c,.string .empty]) W:=by kernel_rfl
theorem qT(W:World)(v:ByteArray):(Instr.build 92 #[(2,.string v)]).run Tryz.prog W=.ok (.agg #[.int .i64 0,.int .i64 0,.string v]) W:=by kernel_rfl
theorem St.no0{w:World}{ρ:Nat→Nat}{P:Nat}{A:Adr}{f:fZ}{J:List aR}(h:St w ρ P A f J){x:Nat}(hx:w.heap.size≤x):ρ x=0:=Decidable.byContradiction fun q=>by
 obtain⟨_,_,_,q',_⟩:=id h;exact absurd (q'.own x q) (by omega)
theorem fA(w:World)(g:Nat)(a b c:Value):Frm (fun x=>x=g) w (((w.setCell ⟨g,0,none⟩ a).setCell ⟨g,1,none⟩ b).setCell ⟨g,2,none⟩ c):=
 ((Frm.set (S:=fun x=>x=g) w (p:=⟨g,0,none⟩) rfl _).trans (Frm.set (S:=fun x=>x=g) _ (p:=⟨g,1,none⟩) rfl _)).trans (Frm.set (S:=fun x=>x=g) _ (p:=⟨g,2,none⟩) rfl _)
theorem aGV(w:World)(ρ:Nat→Nat)(P:Nat)(A:Adr)(f:fZ)(J:List aR)(t:Nat)(key val:ByteArray)(h:St w ρ P A f J)(hI:Inv f)(ht:t<f.roots.length):
  Calls Tryz.prog 73 #[.pointer (some ⟨P,0,none⟩),.int .i64 t,.agg #[.string key,.string val]] w (DoP w ρ P (lY f t key val)):=by
 have hmf:∀(fn:Fn) (first cap:Array Value) (w:World),(Instr.makeFunc fn first cap).run Tryz.prog w=.ok (.func fn first cap) w:=fun _ _ _ _=>rfl;have hb0:=jX;have hb1:=qV;obtain⟨hW,hrt,hH⟩:=hI.hOf ht;obtain⟨H,hHe⟩:=eZ (hOf f t);obtain⟨w1,hw1⟩:=eZ (w.alloc (.cells #[.pointer (some ⟨P,0,none⟩)] 65));obtain⟨w2,hw2⟩:=eZ (w1.alloc (.cells #[.int .i64 t] 3));obtain⟨w3,hw3⟩:=eZ (w2.alloc (.cells #[.string key,.string val] 85));obtain⟨w4,hw4⟩:=eZ (w3.alloc (.cells #[.int .i64 0,.int .i64 0,.string {data:=#[]}] 92));obtain⟨w5,hw5⟩:=eZ (w4.alloc (.cells #[.bool false] 4));obtain⟨pb,hpb⟩:=eZ (w.heap.size);obtain⟨ab,hab⟩:=eZ (w1.heap.size);obtain⟨ib,hib⟩:=eZ (w2.heap.size);obtain⟨rb,hrb⟩:=eZ (w3.heap.size);obtain⟨tb,htb⟩:=eZ (w4.heap.size);have hBx:∀(u:World) (o:Obj) (v:World),u.alloc o=v→Bl u v∧v.heap.size=u.heap.size+1:=fun u o v e=>by rw[←e];exact⟨(bQ _ u).alloc (nR _) _,by simp⟩
 have hNx:∀(u:World) (cs:Array Value) (ty:TypeId) (v:World),u.alloc (.cells cs ty)=v→IsC v u.heap.size cs ty:=fun u cs ty v e=>by rw[←e];exact IsC.new _ _ _
 obtain⟨B1,s1⟩:=hBx _ _ _ hw1;obtain⟨B2,s2⟩:=hBx _ _ _ hw2;obtain⟨B3,s3⟩:=hBx _ _ _ hw3;obtain⟨B4,s4⟩:=hBx _ _ _ hw4;obtain⟨B5,s5⟩:=hBx _ _ _ hw5;have B35:Bl w3 w5:=B4.trans (B5.mono (by omega));have B25:Bl w2 w5:=B3.trans (B35.mono (by omega));have B15:Bl w1 w5:=B2.trans (B25.mono (by omega));have B05:Bl w w5:=B1.trans (B15.mono (by omega));have z1:IsC w5 pb #[.pointer (some ⟨P,0,none⟩)] 65:=by have:=hNx _ _ _ _ hw1;rw[←hpb];exact this.of (B15.block _ this.lt)
 have z2:IsC w5 ab #[.int .i64 t] 3:=by have:=hNx _ _ _ _ hw2;rw[←hab];exact this.of (B25.block _ this.lt)
 have z3:IsC w5 ib #[.string key,.string val] 85:=by have:=hNx _ _ _ _ hw3;rw[←hib];exact this.of (B35.block _ this.lt)
 have z4:IsC w5 rb #[.int .i64 0,.int .i64 0,.string {data:=#[]}] 92:=by have:=hNx _ _ _ _ hw4;rw[←hrb];exact this.of (B5.block _ this.lt)
 have z5:IsC w5 tb #[.bool false] 4:=by have:=hNx _ _ _ _ hw5;rw[←htb];exact this
 have G:w.heap.size≤pb∧w.heap.size≤ab∧w.heap.size≤ib∧w.heap.size≤rb∧w.heap.size≤tb∧rb≠tb∧pb≠tb∧ab≠tb∧ib≠tb:=by omega
 have k0:w5.cell? ⟨tb,0,none⟩=some (.bool false):=z5.c rfl;have k0':=z5.frozen 0;obtain⟨w6,hw6⟩:=eZ (w5.setCell ⟨tb,0,none⟩ (.bool false));have F6:Frm (fun x=>x=tb) w5 w6:=by rw[←hw6];exact Frm.set (S:=fun x=>x=tb) w5 (p:=⟨tb,0,none⟩) rfl _
 have c1:=z1.frm F6 (by omega);have c2:=z2.frm F6 (by omega);have c3:=z3.frm F6 (by omega);have c4:=z4.frm F6 (by omega);have c5:IsC w6 tb #[.bool false] 4:=by
  have:=z5.set 0 (.bool false)
  rw[hw6]at this;exact this
 have B06:Bl w w6:=⟨F6.os.trans B05.os,F6.tape.trans B05.tape,F6.output.trans B05.output,lT B05.size F6.size,fun k hk=>(F6.block k (by omega) (by omega)).trans (B05.block k hk)⟩;have hS5:=h.below B06;have k1:w6.cell? ⟨pb,0,none⟩=some (.pointer (some ⟨P,0,none⟩)):=c1.c rfl;have hat:=uB (K:=2576) (L:=2576+10*(H+3)) (13*(H+3)) (fun x=>x=tb) (aLR f t H key val tb) 98 #[.pointer (some ⟨pb,0,none⟩),.pointer (some ⟨ab,0,none⟩),.pointer (some ⟨ib,0,none⟩),.pointer (some ⟨tb,0,none⟩)] w6 ρ P A f J ((put f t H key val).map Prod.fst) hS5 hI.sz (by omega) (by omega) hI.ne hI.r16
  (fun x e=>by rw[e];exact⟨c5.lt,h.no0 G.2.2.2.2.1⟩) (fun g h1 h2 hh ⟨th,e1,e2⟩=>⟨th,e1,by rw[←hh _ c5.lt];exact e2⟩) (fun _ _=>rfl)
  (fun W hF hS=>by
   have hP:P<w.heap.size:=by obtain⟨_,_,_,q,_⟩:=id h;exact q.hP.lt
   rw[hHe]at hW hrt hH;exact aEH (K:=2576) W ρ P A f t H key val pb ab ib tb false hS hW hrt hI.sz (by omega) (by omega) (by omega) (c1.frm hF (by omega)) (c2.frm hF (by omega)) (c3.frm hF (by omega)) (c5.frm hF (by omega)) ⟨h.no0 G.1,h.no0 G.2.1,h.no0 G.2.2.1,h.no0 G.2.2.2.2.1⟩ hI.r16)
 have HS:=aA (aI s1 (aI s2 (aI s3 (aI s4 s5))));clear s1 s2 s3 s4 s5;go_enter Tryz.func73,Tryz.ntmps73;go_wp2_with fail;refine hat.mono ?_;rintro e w7 ⟨rfl,⟨ρ7,A7,J7,s7,f7,r7⟩,t7⟩;have hr7:ρ rb=0:=h.no0 G.2.2.2.1;have hrbl:rb<w6.heap.size:=c4.lt;have d4:IsC w7 rb #[.int .i64 0,.int .i64 0,.string {data:=#[]}] 92:=c4.frm f7 (fun q=>q.elim (fun q=>q hr7) (fun q=>G.2.2.2.2.2.1 q));have e0:w7.cell? ⟨rb,0,none⟩=some (.int .i64 0):=d4.c rfl;have e1:w7.cell? ⟨rb,1,none⟩=some (.int .i64 0):=d4.c rfl;have e2:w7.cell? ⟨rb,2,none⟩=some (.string {data:=#[]}):=d4.c rfl;have q0:=d4.frozen 0;have q1:=d4.frozen 1;have q2:=d4.frozen 2;have HF:Hid (∀(r:fZ×An) (w8:World),r.1=(jC f ((put f t H key val).map Prod.fst)).1→Frm (fun x=>x=rb) w7 w8→DoP w ρ P r (.returned (bO r.2)) w8):=fun r w8 hr hF=>by
  refine⟨rfl,ρ7,A7,J7,?_,?_,fun x hx h0=>r7 x (lL hx B06.size) h0⟩
  ·rw[hr];exact s7.frm (hF.wide fun x _ e=>by rw[e];exact r7 rb hrbl hr7)
  ·exact((Frm.of_below B06).next f7 fun x hx q=>q.elim id fun q=>absurd q (by omega)).next hF fun x hx q=>absurd q (by omega)
 have hIW:Hid (Frm (fun x=>x=rb) w7 w7):=Frm.refl _ _;cases hput:put f t H key val with
 | none=>
  have hpm:lY f t key val=(f,7,0,.empty):=by unfold lY;rw[hHe,hput]
  have hr:f=(jC f ((put f t H key val).map Prod.fst)).1:=by rw[hput];rfl
  have hc:(jC f ((none:Option (fZ×Bool)).map Prod.fst)).2=7:=rfl;rw[hc];have HX:=aA (aI hpm hr);clear hpm hr hc hput;go_wp2;refine bodyPost_ret (v:=bO (7,0,.empty)) (by simp[bO,results,Tryz.results73,go_sem,e0,e1,e2];try rfl) rfl ?_;rw[HX.out.1];exact HF.out (f,7,0,ByteArray.empty) _ HX.out.2 (fA _ _ _ _ _)
 | some gt=>
  obtain⟨g,th⟩:=gt;by_cases hlt:fI g.cur g.com<2*fJ g.cur.length
  ·have hpm:lY f t key val=(f,7,0,.empty):=by unfold lY;rw[hHe,hput];simp only;rw[if_pos hlt]
   have hat2:jC f (((some (g,th)):Option (fZ×Bool)).map Prod.fst)=(f,7):=by show(if fI g.cur g.com<2*fJ g.cur.length then(f,(7:Int))else(g,0))=_;rw[if_pos hlt]
   have hr:f=(jC f ((put f t H key val).map Prod.fst)).1:=by rw[hput,hat2]
   rw[hat2];have HX:=aA (aI hpm hr);clear hpm hr hat2 hput hlt t7;go_wp2;refine bodyPost_ret (v:=bO (7,0,.empty)) (by simp[bO,results,Tryz.results73,go_sem,e0,e1,e2];try rfl) rfl ?_;rw[HX.out.1];exact HF.out (f,7,0,ByteArray.empty) _ HX.out.2 (fA _ _ _ _ _)
  ·have hpm:lY f t key val=(g,0,if th then 1 else 0,.empty):=by unfold lY;rw[hHe,hput];simp only;rw[if_neg hlt]
   have hat2:jC f (((some (g,th)):Option (fZ×Bool)).map Prod.fst)=(g,0):=by show(if fI g.cur g.com<2*fJ g.cur.length then(f,(7:Int))else(g,0))=_;rw[if_neg hlt]
   have hr:g=(jC f ((put f t H key val).map Prod.fst)).1:=by rw[hput,hat2]
   rw[hput,hat2]at t7;obtain⟨th',y1,y2⟩:=t7 rfl;rw[hput]at y1;cases y1;have ct:w7.cell? ⟨tb,0,none⟩=some (.bool th):=by rw[(show IsC w7 tb #[.bool th] 4 from y2).cell];rfl
   rw[hat2];have HX:=aA (aI hpm hr);clear hpm hr hat2 hput hlt t7 y2;cases th with
   | true=>
    go_wp2
    refine bodyPost_ret (v:=bO (0,1,.empty)) (by simp[bO,results,Tryz.results73,go_sem,e0,e1,e2];try rfl) rfl ?_;rw[HX.out.1];exact HF.out (g,0,1,ByteArray.empty) _ HX.out.2 (fA _ _ _ _ _)
   | false=>
    go_wp2
    refine bodyPost_ret (v:=bO (0,0,.empty)) (by simp[bO,results,Tryz.results73,go_sem,e0,e1,e2];try rfl) rfl ?_;rw[HX.out.1];exact HF.out (g,0,0,ByteArray.empty) _ HX.out.2 (fA _ _ _ _ _)

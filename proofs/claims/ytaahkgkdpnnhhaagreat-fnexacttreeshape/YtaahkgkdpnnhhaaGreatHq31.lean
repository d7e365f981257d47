import Derived.Test.YtaahkgkdpnnhhaaGreatHq27
set_option maxHeartbeats 9999999
set_option maxRecDepth 99999
set_option linter.all false
namespace Go.Proofs.YtaahkgkdpnnhhaaGreat
open Go.RowKit Go.Shelf Fo
variable{A:Adr}{K:Int}{P t:Nat}{ρ:Nat→Nat}{w:World}{f:fZ}
structure Mx(X:Nat→Prop)(w:World)(ρ:Nat→Nat)(w':World)(ρ':Nat→Nat):Prop where
 frm:Frm (fun k=>ρ k≠0∨X k) w w'
 rol:∀x,x<w.heap.size→ρ' x=ρ x
structure ChP(k:Nat)(X:Nat→Prop)(L:Int)(T:fZ→(Nat→Option Obj)→Prop)(w:World)(ρ:Nat→Nat)(P:Nat)(f:fZ)(r:Option fZ)(e:Ending)(w':World):Prop where
 no:r=none→e=aBB∧∃ρ' A' g J',St w' ρ' P A' g J'∧Mx X w ρ w' ρ'∧JS k f [] g J'
 yes:∀g,r=some g→e=.returned (.tuple #[])∧∃ρ' A' J',St w' ρ' P A' g J'∧Mx X w ρ w' ρ'∧JS k f [] g J'∧Sz L g∧T g (fun x=>w'.heap[x]?)
def jA(f:fZ)(r:Option fZ):fZ×Int:=match r with
 | none=>(f,7)
 | some g=>if fI g.cur g.com<2*fJ g.cur.length then(f,7)else(g,0)
structure AtP(X:Nat→Prop)(T:fZ→(Nat→Option Obj)→Prop)(w:World)(ρ:Nat→Nat)(P:Nat)(f:fZ)(r:Option fZ)(e:Ending)(w':World):Prop where
 e:e=.returned (.int .i64 (jA f r).2)
 ex:∃ρ' A' J',St w' ρ' P A' (jA f r).1 J'∧Frm (fun k=>ρ k≠0∨X k) w w'∧∀x,x<w.heap.size→ρ x=0→ρ' x=0
 t:(jA f r).2=0→T (jA f r).1 (fun x=>w'.heap[x]?)
theorem St.nilJ{J:List aQ}(h:St w ρ P A f J):St (w.setCell ⟨P,7,none⟩ (.slice none 0 0)) ρ P A f []:=by
 obtain⟨ja,jp,jj,hR,_⟩:=h;have k:Frm (fun x=>x=P) w (w.setCell ⟨P,7,none⟩ (.slice none 0 0)):=Frm.set (S:=fun x=>x=P) w (p:=⟨P,7,none⟩) rfl _;have no:∀{x r},ρ x=r→r≠1→¬x=P:=fun {x r} e hr q=>hr (by rw[←e,q,hR.rP]);refine⟨none,[],[],hR.gen (Kp.same hR k) (.inr ?_) (.inl ⟨no hR.rr (by omega),rfl,rfl⟩) (.inl ⟨no hR.rm (by omega),rfl⟩) rfl (.inl ⟨no hR.rc (by omega),rfl⟩) rfl (.inl ⟨no hR.rd (by omega),rfl,rfl⟩) (fun x d hx=>.inl ⟨hx,rfl,rfl,fun y hy=>?_⟩) hR.no hR.rs hR.ds,fun _=>JrL.start _ _⟩
 ·have:=hR.hP.set 7 (.slice none 0 0)
  simpa [dE,aGQ,adr] using this
 ·rcases hy with e | e
  ·exact no e (by unfold cE;omega)
  ·exact no e (by unfold cB;omega)
theorem rA{L:Int}(k:Nat)(X:Nat→Prop)(T:fZ→(Nat→Option Obj)→Prop)(cf:Nat)(lb:Array Value)(w:World)(ρ:Nat→Nat)(P:Nat)(A:Adr)(f:fZ)(J0:List aQ)(r:Option fZ)(h:St w ρ P A f J0)(hz:Sz K f)(hL:L≤1000000)(hk:k≤500000)(av:0<f.roots.length)(ju:f.roots.length≤16)
  (hX:∀x,X x→x<w.heap.size∧ρ x=0) (hT:∀g (h h':Nat→Option Obj),(∀x,x<w.heap.size→h x=h' x)→T g h→T g h')
  (eg:∀args w,(callFunc cf args).run Tryz.prog w=.ok (.enter cf args) w)
  (Ap:∀W,Frm (fun x=>x=P) w W→St W ρ P A f []→Calls Tryz.prog cf lb W (ChP k X L T W ρ P f r)):
  Calls Tryz.prog 97 #[.pointer (some ⟨P,0,none⟩),.func (.func cf) #[] lb] w (AtP X T w ρ P f r):=by
 have Mt:∀(fn:Fn) (first cap:Array Value) (w:World),(Instr.makeFunc fn first cap).run Tryz.prog w=.ok (.func fn first cap) w:=fun _ _ _ _=>rfl;obtain⟨fb,ti⟩:=eZ (w.heap.size);obtain⟨w1,be⟩:=eZ (w.alloc (.cells #[.pointer (some ⟨P,0,none⟩)] 65));obtain⟨cd,te⟩:=eZ (w1.heap.size);obtain⟨w2,bw⟩:=eZ (w1.alloc (.cells #[.int .i64 0] 2));have d9:=bAl be;have cx:=bAl bw;have io:w1.heap.size=w.heap.size+1:=by rw[←be];simp
 have rq:w2.heap.size=w1.heap.size+1:=by rw[←bw];simp
 have JZ:=iNw be ti;have vw:=JZ.of (cx.block _ JZ.lt);have Bb:=iNw bw te;have vp:Bl w w2:=d9.trans (cx.mono (by omega));have ax:=h.below vp;obtain⟨_,_,_,iu,_⟩:=id ax;have k1:w2.cell? ⟨fb,0,none⟩=some (.pointer (some ⟨P,0,none⟩)):=vw.c rfl;have k2:w2.cell? ⟨P,0,none⟩=some (.slice (some ⟨A.ra,0,none⟩) f.roots.length (f.roots.length+A.rj.length)):=by rw[iu.hP.cell];rfl
 have TQ:Tsl w2 (.slice (some ⟨A.ra,0,none⟩) f.roots.length (f.roots.length+A.rj.length)) f.roots:=.inr ⟨A.ra,0,f.roots.length+A.rj.length,f.roots++A.rj,by simp,iu.hr,by simp,by simp⟩;have kf:=aA (aI io rq);clear io rq;go_enter_defers Tryz.func97,Tryz.ntmps97;go_wp2_with fail;refine(aAJ _ f.roots w2 TQ (by omega)).mono ?_;rintro e w3 ⟨v',rfl,⟨ag,rj,rfl,g9,mj,Aq⟩,fj⟩;obtain⟨gr,rfl⟩:∃gr,ag=some gr:=by
  cases ag with
  | none=>have:=(mj rfl).1;rw[this]at av;simp at av
  | some g=>exact⟨g,rfl⟩
 obtain⟨Bg,Jg⟩:=g9 gr rfl;simp only[adr,Option.map_some];obtain⟨rb,fk⟩:=eZ (w3.heap.size);obtain⟨w4,cn⟩:=eZ (w3.alloc (.cells #[.slice (some ⟨gr,0,none⟩) f.roots.length (f.roots.length+rj.length)] 55));have dm:=bAl cn;have IK:Bl w w4:=(vp.trans (fj.mono vp.size)).trans (dm.mono (lT vp.size fj.size));have aw:=h.below IK;obtain⟨_,_,_,li,_⟩:=id aw;have k3:w4.cell? ⟨fb,0,none⟩=some (.pointer (some ⟨P,0,none⟩)):=by
  rw[((vw.of (fj.block _ vw.lt)).of (dm.block _ (lL vw.lt fj.size)):IsC w4 fb _ _).cell];rfl
 have k4:∃v,w4.cell? ⟨P,7,none⟩=some v:=⟨_,by rw[li.hP.cell];rfl⟩;obtain⟨v7,k4⟩:=k4;have k5:=li.hP.frozen 7;obtain⟨w5,sj⟩:=eZ (w4.setCell ⟨P,7,none⟩ (.slice none 0 0));have cw:=aw.nilJ;rw[sj]at cw;have el:Frm (fun x=>x=P) w w5:=by rw[←sj];exact(Frm.of_below IK).trans (Frm.set (S:=fun x=>x=P) w4 (p:=⟨P,7,none⟩) rfl _)
 have QS:=Ap w5 el cw;have DK:P<w.heap.size:=by obtain⟨_,_,_,q,_⟩:=id h;exact q.own P (by rw[q.rP];omega)
 have ρ0:∀x,w.heap.size≤x→ρ x=0:=fun x hx=>Decidable.byContradiction fun q=>by
  obtain⟨_,_,_,q',_⟩:=id h;exact absurd (q'.own x q) (by omega)
 have G:w.heap.size≤fb∧w.heap.size≤cd∧w.heap.size≤gr∧w.heap.size≤rb:=by
  have:=kf.out.1;have:=kf.out.2;have:=fj.size;omega
 have Dg:Frm (fun x=>x=P) w4 w5:=by rw[←sj];exact Frm.set (S:=fun x=>x=P) w4 (p:=⟨P,7,none⟩) rfl _
 have Ja:IsC w5 fb #[.pointer (some ⟨P,0,none⟩)] 65:=(((vw.of (fj.block _ vw.lt)).of (dm.block _ (lL vw.lt fj.size)):IsC w4 fb _ _).frm Dg (by omega));have JH:IsC w5 cd #[.int .i64 0] 2:=(((Bb.of (fj.block _ Bb.lt)).of (dm.block _ (lL Bb.lt fj.size)):IsC w4 cd _ _).frm Dg (by omega));have Cx:IsC w5 gr (cT (f.roots++rj)) 77:=((Jg.of (dm.block _ Jg.lt):IsC w4 gr _ _).frm Dg (by omega));have KF:IsC w5 rb #[.slice (some ⟨gr,0,none⟩) f.roots.length (f.roots.length+rj.length)] 55:=by
  have:IsC w4 rb #[.slice (some ⟨gr,0,none⟩) f.roots.length (f.roots.length+rj.length)] 55:=by rw[←cn,←fk];exact IsC.new _ _ _
  exact this.frm Dg (by omega)
 have keep:∀(w6:World) (ρ6:Nat→Nat),Mx X w5 ρ w6 ρ6→IsC w6 fb #[.pointer (some ⟨P,0,none⟩)] 65∧IsC w6 cd #[.int .i64 0] 2∧IsC w6 gr (cT (f.roots++rj)) 77∧IsC w6 rb #[.slice (some ⟨gr,0,none⟩) f.roots.length (f.roots.length+rj.length)] 55∧ρ6 fb=0∧ρ6 cd=0∧ρ6 gr=0∧ρ6 rb=0:=fun w6 ρ6 m=>by
  have no:∀x,w.heap.size≤x→¬(ρ x≠0∨X x):=fun x hx q=>q.elim (fun q=>q (ρ0 x hx)) (fun q=>absurd (hX x q).1 (by omega));exact⟨Ja.frm m.frm (no _ G.1),JH.frm m.frm (no _ G.2.1),Cx.frm m.frm (no _ G.2.2.1),KF.frm m.frm (no _ G.2.2.2),by rw[m.rol _ Ja.lt,ρ0 _ G.1],by rw[m.rol _ JH.lt,ρ0 _ G.2.1],by rw[m.rol _ Cx.lt,ρ0 _ G.2.2.1],by rw[m.rol _ KF.lt,ρ0 _ G.2.2.2]⟩
 have K9:w.heap.size≤w5.heap.size:=el.size;have undo:∀(w6 w7:World) (ρ6:Nat→Nat) (g:fZ) (J':List aQ),Mx X w5 ρ w6 ρ6→JS k f [] g J'→CtP w6 ρ6 P g J' gr f.roots cd w7→∃ρ' A' J',St w7 ρ' P A' f J'∧Frm (fun k=>ρ k≠0∨X k) w w7∧∀x,x<w.heap.size→ρ x=0→ρ' x=0:=fun w6 w7 ρ6 g J' m j c=>by
  obtain⟨⟨ρ7,A7,c1,c2,c3⟩,_⟩:=c;rw[JI.restored (j.ji f (JI.start f))]at c1;refine⟨ρ7,A7,_,c1,?_,fun x hx h0=>Decidable.byContradiction fun q=>?_⟩
  ·refine((el.wide (S':=fun k=>ρ k≠0∨X k) fun x _ e=>.inl (by rw[e];obtain⟨_,_,_,q,_⟩:=id h;rw[q.rP];omega)).next m.frm fun x _ q=>q).next c2 fun x hx q=>?_
   rcases q with q | q
   ·exact .inl (by rwa [m.rol x (by omega)]at q)
   ·exact absurd q (by omega)
  ·exact c3 x (by omega) q (by rw[m.rol x (by omega),h0])
 have HK:=aA keep;have HU:=aA undo;clear keep undo Ja JH Cx KF;go_wp2_with fail;clear Dg ax iu aw li cw k1 k2 k3 k4 k5 be bw cn sj d9 cx JZ vw Bb vp TQ fj g9 mj Jg dm IK Ap kf;refine QS.mono ?_;rintro e w6 hC;cases r with
 | none=>
  obtain⟨rfl,ρ6,A6,g,J6,s6,m6,j6⟩:=hC.no rfl;obtain⟨b1,b2,b3,b4,z1,z2,z3,z4⟩:=HK.out _ _ m6;have dq:=j6.ji f (JI.start f);have ah:J6.length≤k:=by have:=j6.len;simpa using this
  refine leaves_cons (f:=111) (args:=#[.pointer (some ⟨cd,0,none⟩),.pointer (some ⟨fb,0,none⟩),.pointer (some ⟨rb,0,none⟩)]) (by simp) (by simp[go_sem]) ?_;refine(aAH cd fb rb [] w6 ρ6 P A6 g J6 gr f.roots rj s6 (by omega) (by rw[dq.len];exact hz.n512) (fun r hr=>by rw[dq.len];exact dq.lt r hr) b3 z3 Aq b2 b1 b4 ⟨z2,z1,z4⟩).mono ?_;rintro e u' w7 ⟨rfl,rfl,Sv⟩;have jh:=Sv.cd;simp[Leaves,settle,results,Tryz.results97,go_sem,jh];exact⟨rfl,HU.out _ _ _ _ _ m6 j6 Sv,fun q=>by simp[jA]at q⟩
 | some g=>
  obtain⟨rfl,ρ6,A6,J6,s6,m6,j6,z6,t6⟩:=hC.yes g rfl;obtain⟨b1,b2,b3,b4,z1,z2,z3,z4⟩:=HK.out _ _ m6;have dq:=j6.ji f (JI.start f);have ah:J6.length≤k:=by have:=j6.len;simpa using this
  obtain⟨_,_,_,DL,_⟩:=id s6;have n1:Nts w6 (.slice (some ⟨A6.c,0,none⟩) g.cur.length g.cur.length) g.cur:=by
   have:=lO (ys:=[]) (zs:=g.cur) (by simpa using DL.hc) fun i=>⟨(z6.cb i).1,Int.le_trans (z6.cb i).2 (by omega)⟩
   simpa using this
  have n2:Nts w6 (.slice (some ⟨A6.d,0,none⟩) g.com.length (g.com.length+A6.dj.length)) g.com:=xA DL.hd fun i=>⟨(z6.mb i).1,Int.le_trans (z6.mb i).2 (by omega)⟩;have k1:w6.cell? ⟨fb,0,none⟩=some (.pointer (some ⟨P,0,none⟩)):=b1.c rfl;have k2:w6.cell? ⟨P,4,none⟩=some (.slice (some ⟨A6.c,0,none⟩) g.cur.length g.cur.length):=by rw[DL.hP.cell];rfl
  have k3:w6.cell? ⟨P,5,none⟩=some (.slice (some ⟨A6.d,0,none⟩) g.com.length (g.com.length+A6.dj.length)):=by rw[DL.hP.cell];rfl
  have AS:Calls Tryz.prog 113 #[.slice (some ⟨A6.c,0,none⟩) g.cur.length g.cur.length,.slice (some ⟨A6.d,0,none⟩) g.com.length (g.com.length+A6.dj.length)] w6.drew fun e W'=>e=.returned (.int .i64 (fI g.cur g.com))∧Bl w6 W':=by
   refine((callsIn_wide (n:=3)).1 (wH Fence.wide 3 (fun _=>trivial) rfl (nR _) _ _ _ _ g.cur g.com z6.com z6.n512 z6.n8 w6.drew (n1.below (bQ _ _).drew) (n2.below (bQ _ _).drew))).mono ?_;rintro e w' ⟨h1,h2⟩;exact⟨h1,(bQ _ w6).drew.trans h2⟩
  have HC:=aA AS;have HB:=aA (fun w' (hb:Bl w6 w')=>aI ((hb.cell (p:=⟨fb,0,none⟩) b1.lt).trans k1) (aI ((hb.cell (p:=⟨P,4,none⟩) DL.hP.lt).trans k2) ((hb.cell (p:=⟨P,5,none⟩) DL.hP.lt).trans k3)));go_wp2_with fail;go_region_held3 (fun w'=>w'.cell? ⟨fb,0,none⟩=some (.pointer (some ⟨P,0,none⟩))∧w'.cell? ⟨P,4,none⟩=some (.slice (some ⟨A6.c,0,none⟩) g.cur.length g.cur.length)∧w'.cell? ⟨P,5,none⟩=some (.slice (some ⟨A6.d,0,none⟩) g.com.length (g.com.length+A6.dj.length))) (first | assumption | go_keep)
   ((first
    | (go_at_call 113;refine HC.out.mono ?_;rintro e w7 ⟨rfl,vf⟩;have nn:=HB.out _ vf)
    | (go_at_call 114;refine(qE _ _).mono ?_;rintro e w8 ⟨rfl,rfl⟩)))
  clear nn;obtain⟨rv,NE⟩:=eZ (fJ (g.cur.length:Int));have XA:0≤rv∧rv≤30:=by have:=z6.n512;rw[←NE];unfold fJ;split<;>omega
  have wj:IntKind.i64.wrap (2*rv)=2*rv:=IntWalk.i64_in _ ⟨by omega,by omega⟩;obtain⟨fc,sq⟩:=eZ (fI g.cur g.com);rw[NE,sq,wj];have Sa:=aA NE;have SS:=aA sq;have s7:=s6.below vf;have b17:=b1.of (vf.block _ b1.lt);have b27:=b2.of (vf.block _ b2.lt);have b37:IsC w7 gr (cT (f.roots++rj)) 77:=b3.of (vf.block _ b3.lt);have b47:=b4.of (vf.block _ b4.lt);have cc:w7.cell? ⟨cd,0,none⟩=some (.int .i64 0):=b27.c rfl;have cz:=b27.frozen 0;clear NE sq wj HC HB n1 n2 k1 k2 k3;by_cases ai:fc<2*rv
  ·obtain⟨w8,GR⟩:=eZ (w7.setCell ⟨cd,0,none⟩ (.int .i64 7))
   have yu:Frm (fun x=>x=cd) w7 w8:=by rw[←GR];exact Frm.set (S:=fun x=>x=cd) w7 (p:=⟨cd,0,none⟩) rfl _
   have b28:IsC w8 cd #[.int .i64 7] 2:=by
    have:=b27.set 0 (.int .i64 7)
    rw[GR]at this;exact this
   have b18:=b17.frm yu (fun e=>IsC.ne (e▸b17) b27 (by decide) rfl);have b38:=b37.frm yu (fun e=>IsC.ne (e▸b37) b27 (by decide) rfl);have b48:=b47.frm yu (fun e=>IsC.ne (e▸b47) b27 (by decide) rfl);have s8:St w8 ρ6 P A6 g J6:=s7.frm (yu.wide fun x _ e=>by rw[e];exact z2);go_wp2;refine leaves_cons (f:=111) (args:=#[.pointer (some ⟨cd,0,none⟩),.pointer (some ⟨fb,0,none⟩),.pointer (some ⟨rb,0,none⟩)]) (by simp) (by simp[go_sem]) ?_;refine(aAG cd fb rb w8 ρ6 P A6 g J6 gr f.roots rj s8 (by omega) (by rw[dq.len];exact hz.n512) (fun r hr=>by rw[dq.len];exact dq.lt r hr) b38 z3 Aq b28 b18 b48 ⟨z2,z1,z4⟩).mono ?_;rintro e u' w9 ⟨rfl,rfl,Sw⟩;have jh:=Sw.cd;have BT:jA f (some g)=(f,7):=by show(if fI g.cur g.com<2*fJ g.cur.length then(f,(7:Int))else(g,0))=_;rw[SS.out,Sa.out,if_pos ai]
   have VG:CtP w6 ρ6 P g J6 gr f.roots cd w9:=by
    obtain⟨⟨ρ9,A9,c1,c2,c3⟩,c4⟩:=Sw;exact⟨⟨ρ9,A9,c1,((Frm.of_below vf).trans (yu.wide fun x _ e=>.inr e)).trans c2,c3⟩,c4⟩
   simp[Leaves,settle,results,Tryz.results97,go_sem,jh]
   exact⟨by rw[BT],by rw[BT];exact HU.out _ _ _ _ _ m6 j6 VG,fun q=>by simp[BT]at q⟩
  ·obtain⟨w8,GR⟩:=eZ (w7.setCell ⟨cd,0,none⟩ (.int .i64 0))
   have yu:Frm (fun x=>x=cd) w7 w8:=by rw[←GR];exact Frm.set (S:=fun x=>x=cd) w7 (p:=⟨cd,0,none⟩) rfl _
   have b28:IsC w8 cd #[.int .i64 0] 2:=by
    have:=b27.set 0 (.int .i64 0)
    rw[GR]at this;exact this
   have s8:St w8 ρ6 P A6 g J6:=s7.frm (yu.wide fun x _ e=>by rw[e];exact z2);go_wp2;refine leaves_cons (f:=111) (args:=#[.pointer (some ⟨cd,0,none⟩),.pointer (some ⟨fb,0,none⟩),.pointer (some ⟨rb,0,none⟩)]) (by simp) (by simp[go_sem]) ?_;refine(aFV cd fb rb w8 b28).mono ?_;rintro e u' w9 ⟨rfl,rfl,Hl⟩;subst Hl;have jh:w9.cell? ⟨cd,0,none⟩=some (.int .i64 0):=b28.c rfl;have BT:jA f (some g)=(g,0):=by show(if fI g.cur g.com<2*fJ g.cur.length then(f,(7:Int))else(g,0))=_;rw[SS.out,Sa.out,if_neg (by omega)]
   have Rl:w.heap.size≤w6.heap.size:=lT K9 m6.frm.size;have Lm:Frm (fun x=>x=cd) w6 w9:=(Frm.of_below vf).trans yu;simp[Leaves,settle,results,Tryz.results97,go_sem,jh];refine⟨by rw[BT],?_,fun _=>?_⟩
   ·rw[BT]
    refine⟨ρ6,A6,J6,s8,?_,fun x hx h0=>by rw[m6.rol x (by omega),h0]⟩;refine((el.wide (S':=fun k=>ρ k≠0∨X k) fun x _ e=>.inl (by rw[e];obtain⟨_,_,_,q,_⟩:=id h;rw[q.rP];omega)).next m6.frm fun x _ q=>q).next Lm fun x hx q=>absurd q (by omega)
   ·rw[BT]
    exact hT g _ _ (fun x hx=>(Lm.block x (by omega) (by omega)).symm) t6
theorem Fo.Inv.sz(h:Inv f):Sz 2576 f:=
 ⟨h.ic.n512,h.ic.n8,h.ic.len,fun b d hd=>by have:=h.ent hd;omega,fun b d hd=>h.ic.lt hd,h.counts,fun i=>⟨(h.cmr i).1,by have:=(h.cmr i).2;omega⟩⟩
def aKX(f:fZ)(t H:Nat)(key val:ByteArray)(tb:Nat)(g:fZ)(h:Nat→Option Obj):Prop:=∃th,put f t H key val=some (g,th)∧h tb=some (.cells #[.bool th] 4 (0,0))
theorem put_ok'{H:Nat}{key val:ByteArray}(w:Wk f t H)(hr:cD f t H){g:fZ}{th:Bool}(hs:put f t H key val=some (g,th)):∃H',Wk g t H'∧cD g t H'∧g.roots.length=f.roots.length:=by
 obtain⟨H',h1,h2,h3⟩:=aBD w hr hs;exact⟨H',h1,h2,h3.len⟩
theorem aDP(w:World)(ρ:Nat→Nat)(P:Nat)(A:Adr)(f:fZ)(t H:Nat)(key val:ByteArray)(pb ab ib tb:Nat)(b0:Bool)(hS:St w ρ P A f [])(hW:Wk f t H)(er:cD f t H)(hz:Sz K f)(td:1≤K)(hK:K+10*(H+3)≤700000)(kz:13*(H+3)≤600000)
  (qr:IsC w pb #[.pointer (some ⟨P,0,none⟩)] 65) (pz:IsC w ab #[.int .i64 t] 3) (OR:IsC w ib #[.string key,.string val] 85) (OV:IsC w tb #[.bool b0] 4) (h0:ρ pb=0∧ρ ab=0∧ρ ib=0∧ρ tb=0) (ju:f.roots.length≤16):
  Calls Tryz.prog 98 #[.pointer (some ⟨pb,0,none⟩),.pointer (some ⟨ab,0,none⟩),.pointer (some ⟨ib,0,none⟩),.pointer (some ⟨tb,0,none⟩)] w
   (ChP (13*(H+3)) (fun x=>x=tb) (K+10*(H+3)) (aKX f t H key val tb) w ρ P f ((put f t H key val).map Prod.fst)):=by
 obtain⟨_,_,_,hR,_⟩:=id hS;have fw:t<f.roots.length:=hW.tl;obtain⟨rl,qv⟩:=eZ (f.roots.length);have Rx:((t:Nat):Int) <(rl:Int):=by omega
 have mk:∀(W:World) (ρ':Nat→Nat) (A':Adr) (g:fZ),IsC W pb #[.pointer (some ⟨P,0,none⟩)] 65→IsC W ab #[.int .i64 t] 3→IsC W ib #[.string key,.string val] 85→(∃jv,Rp W ρ' P A' g jv)→A'.ra=A.ra→A'.rj=A.rj→g.roots.length=f.roots.length→W.cell? ⟨pb,0,none⟩=some (.pointer (some ⟨P,0,none⟩))∧W.cell? ⟨P,0,none⟩=some (.slice (some ⟨A.ra,0,none⟩) rl (rl+A.rj.length))∧W.cell? ⟨ab,0,none⟩=some (.int .i64 t)∧W.cell? ⟨ib,0,none⟩=some (.string key)∧W.cell? ⟨ib,1,none⟩=some (.string val):=fun W ρ' A' g a1 a2 a3 a4 a5 a6 a7=>by
  obtain⟨jv,a4⟩:=a4;refine⟨a1.c rfl,?_,a2.c rfl,a3.c rfl,a3.c rfl⟩;rw[a4.hP.cell];simp[dE,a5,a6,a7,qv]
 have HM:=aA mk;have ak:w.drew.cell? ⟨pb,0,none⟩=some (.pointer (some ⟨P,0,none⟩))∧w.drew.cell? ⟨P,0,none⟩=some (.slice (some ⟨A.ra,0,none⟩) rl (rl+A.rj.length))∧w.drew.cell? ⟨ab,0,none⟩=some (.int .i64 t)∧w.drew.cell? ⟨ib,0,none⟩=some (.string key)∧w.drew.cell? ⟨ib,1,none⟩=some (.string val):=mk w ρ A f qr pz OR ⟨_,hR⟩ rfl rfl rfl;clear mk;go_enter Tryz.func98,Tryz.ntmps98;go_wp2_with fail;refine aZ (fun W=>W.cell? ⟨pb,0,none⟩=some (.pointer (some ⟨P,0,none⟩))∧W.cell? ⟨P,0,none⟩=some (.slice (some ⟨A.ra,0,none⟩) rl (rl+A.rj.length))∧W.cell? ⟨ab,0,none⟩=some (.int .i64 t)∧W.cell? ⟨ib,0,none⟩=some (.string key)∧W.cell? ⟨ib,1,none⟩=some (.string val)) 10 (by kernel_rfl) ?_;refine tJ 0 4 (.pointer (some ⟨P,0,none⟩)) rfl ak ?_;simp only[Act.put,sB,sZ,sS];refine tJ 1 5 (.pointer (some ⟨P,0,none⟩)) rfl ak ?_;simp only[Act.put,sB,sZ,sS];refine tJ 2 6 (.pointer (some ⟨P,0,none⟩)) rfl ak ?_;simp only[Act.put,sB,sZ,sS];refine tJ 3 7 (.pointer (some ⟨P,0,none⟩)) rfl ak ?_;simp only[Act.put,sB,sZ,sS];refine tJ 4 8 (.slice (some ⟨A.ra,0,none⟩) rl (rl+A.rj.length)) rfl ak ?_;simp only[Act.put,sB,sZ,sS];refine tJ 5 9 (.int .i64 t) rfl ak ?_;simp only[Act.put,sB,sZ,sS];refine tJ 6 10 (.pointer (some ⟨A.ra,t*2,none⟩)) rfl ak ?_;simp only[Act.put,sB,sZ,sS];refine tJ 7 11 (.pointer (some ⟨A.ra,t*2+1,none⟩)) rfl ak ?_;simp only[Act.put,sB,sZ,sS];refine tJ 8 12 (.agg #[.string key,.string val]) rfl ak ?_;simp only[Act.put,sB,sZ,sS];refine oE 9 rfl fun K2 ae=>?_;go_simp;have tu:Bl w w.drew:=(bQ _ _).drew;refine(aLO (K:=K) w.drew ρ P A f [] t H key val (hS.below tu) hW hz td hK (by simpa using kz)).mono ?_;intro e w6 Ia;cases cg:put f t H key val with
 | none=>
  obtain⟨rfl,ρ6,A6,g,J6,s6,m6,j6⟩:=Ia.no cg;refine⟨rfl,fun _=>⟨rfl,ρ6,A6,g,J6,s6,⟨(Frm.drew _ w).trans (m6.frm.wide fun x _ q=>.inl (q.resolve_right id)),fun x hx=>m6.rol x hx id⟩,j6⟩,fun g h=>by rw[cg]at h;cases h⟩
 | some gt=>
  obtain⟨g,th⟩:=gt;obtain⟨ρ6,A6,J6,rfl,d6,z6⟩:=Ia.yes g th cg;have m6:=d6.mv;have keep:∀{x:Nat} {cs:Array Value} {ty:TypeId},IsC w x cs ty→ρ x=0→IsC w6 x cs ty:=fun {x cs ty} hx h0=>(IsC.drew hx).frm m6.frm fun q=>q.elim (fun q=>q h0) id;have KQ:=keep OV h0.2.2.2;obtain⟨_,_,_,DL,_⟩:=id d6.st;obtain⟨H',-,-,lq⟩:=put_ok' hW er cg;have vm:=HM.out w6 ρ6 A6 g (keep qr h0.1) (keep pz h0.2.1) (keep OR h0.2.2.1) ⟨_,DL⟩ d6.ad.ra d6.ad.rj lq;have ct:w6.cell? ⟨tb,0,none⟩=some (.bool b0):=KQ.c rfl;have cz:=KQ.frozen 0;have Wy:ρ6 tb=0:=by rw[m6.rol tb OV.lt id];exact h0.2.2.2
  obtain⟨w7,UB⟩:=eZ (w6.setCell ⟨tb,0,none⟩ (.bool th));have Aj:Frm (fun x=>x=tb) w6 w7:=by rw[←UB];exact Frm.set (S:=fun x=>x=tb) w6 (p:=⟨tb,0,none⟩) rfl _
  have NP:IsC w7 tb #[.bool th] 4:=by
   have:=KQ.set 0 (.bool th)
   rw[UB]at this;exact this
  have s7:St w7 ρ6 P A6 g J6:=d6.st.frm (Aj.wide fun x _ e=>by rw[e];exact Wy);have HR:Hid (ChP (13*(H+3)) (fun x=>x=tb) (K+10*(H+3)) (aKX f t H key val tb) w ρ P f (some g) (.returned (.tuple #[])) w7):=by
   refine⟨fun q=>(by cases q),fun g' q=>?_⟩;cases q;refine⟨rfl,ρ6,A6,J6,s7,⟨?_,fun x hx=>m6.rol x hx id⟩,d6.js,z6,th,cg,NP⟩;exact((Frm.drew _ w).trans (m6.frm.wide fun x _ q=>.inl (q.resolve_right id))).next Aj fun x _ q=>.inr q
  clear s7 NP d6 z6 Ia;refine ae _ _ (fun _=>vm) ?_;clear ae K2;refine oE 10 rfl fun K2 ae=>?_;go_simp;refine ae _ _ (fun q=>absurd rfl q) ?_;clear ae K2;refine aS (by kernel_rfl) ?_ _;go_wp2;first | go_end0 | refine bodyPost_ret (results_none rfl _ _ _) rfl ?_
  rw[cg];exact HR.out
theorem wL(w:World)(ρ:Nat→Nat)(P:Nat)(A:Adr)(f:fZ)(t H:Nat)(key:ByteArray)(pb ab kb:Nat)(hS:St w ρ P A f [])(hW:Wk f t H)(er:cD f t H)(jy:Mem f.nodes H (aB f t) key)(hz:Sz K f)(td:1≤K)(hK:K+20*(H+3)≤600000)(kz:25*(H+3)≤500000)
  (qr:IsC w pb #[.pointer (some ⟨P,0,none⟩)] 65) (pz:IsC w ab #[.int .i64 t] 3) (xz:IsC w kb #[.string key] 9) (ju:f.roots.length≤16):
  Calls Tryz.prog 101 #[.pointer (some ⟨pb,0,none⟩),.pointer (some ⟨ab,0,none⟩),.pointer (some ⟨kb,0,none⟩)] w
   (ChP (25*(H+3)) (fun _=>False) (K+20*(H+3)) (fun _ _=>True) w ρ P f (bV f t H key)):=by
 obtain⟨_,_,_,hR,_⟩:=id hS;have fw:t<f.roots.length:=hW.tl;obtain⟨rl,qv⟩:=eZ (f.roots.length);have Rx:((t:Nat):Int) <(rl:Int):=by omega
 have ak:w.drew.cell? ⟨pb,0,none⟩=some (.pointer (some ⟨P,0,none⟩))∧w.drew.cell? ⟨P,0,none⟩=some (.slice (some ⟨A.ra,0,none⟩) rl (rl+A.rj.length))∧w.drew.cell? ⟨ab,0,none⟩=some (.int .i64 t)∧w.drew.cell? ⟨kb,0,none⟩=some (.string key):=by
  refine⟨by show w.cell? _=_;rw[qr.cell];rfl,?_,by show w.cell? _=_;rw[pz.cell];rfl,by show w.cell? _=_;rw[xz.cell];rfl⟩;show w.cell? _=_
  rw[hR.hP.cell];simp[dE,qv]
 go_enter Tryz.func101,Tryz.ntmps101
 go_wp2_with fail
 refine aZ (fun W=>W.cell? ⟨pb,0,none⟩=some (.pointer (some ⟨P,0,none⟩))∧W.cell? ⟨P,0,none⟩=some (.slice (some ⟨A.ra,0,none⟩) rl (rl+A.rj.length))∧W.cell? ⟨ab,0,none⟩=some (.int .i64 t)∧W.cell? ⟨kb,0,none⟩=some (.string key)) 9 (by kernel_rfl) ?_;refine aU (i:=0) 3 (.pointer (some ⟨P,0,none⟩)) (by kernel_rfl) (by kernel_rfl) rfl (by kernel_rfl) (by kernel_rfl) (by kernel_rfl) (fun _ _ _ h=>h) rfl rfl ak (fun w' hw=>by obtain⟨m1,m2,m3,m4⟩:=hw;go_simp;try rfl) ?_;simp only[Act.put,sB,sZ,sS];refine aU (i:=1) 4 (.pointer (some ⟨P,0,none⟩)) (by kernel_rfl) (by kernel_rfl) rfl (by kernel_rfl) (by kernel_rfl) (by kernel_rfl) (fun _ _ _ h=>h) rfl rfl ak (fun w' hw=>by obtain⟨m1,m2,m3,m4⟩:=hw;go_simp;try rfl) ?_;simp only[Act.put,sB,sZ,sS];refine aU (i:=2) 5 (.pointer (some ⟨P,0,none⟩)) (by kernel_rfl) (by kernel_rfl) rfl (by kernel_rfl) (by kernel_rfl) (by kernel_rfl) (fun _ _ _ h=>h) rfl rfl ak (fun w' hw=>by obtain⟨m1,m2,m3,m4⟩:=hw;go_simp;try rfl) ?_;simp only[Act.put,sB,sZ,sS];refine aU (i:=3) 6 (.pointer (some ⟨P,0,none⟩)) (by kernel_rfl) (by kernel_rfl) rfl (by kernel_rfl) (by kernel_rfl) (by kernel_rfl) (fun _ _ _ h=>h) rfl rfl ak (fun w' hw=>by obtain⟨m1,m2,m3,m4⟩:=hw;go_simp;try rfl) ?_;simp only[Act.put,sB,sZ,sS];refine aU (i:=4) 7 (.slice (some ⟨A.ra,0,none⟩) rl (rl+A.rj.length)) (by kernel_rfl) (by kernel_rfl) rfl (by kernel_rfl) (by kernel_rfl) (by kernel_rfl) (fun _ _ _ h=>h) rfl rfl ak (fun w' hw=>by obtain⟨m1,m2,m3,m4⟩:=hw;go_simp;try rfl) ?_;simp only[Act.put,sB,sZ,sS];refine aU (i:=5) 8 (.int .i64 t) (by kernel_rfl) (by kernel_rfl) rfl (by kernel_rfl) (by kernel_rfl) (by kernel_rfl) (fun _ _ _ h=>h) rfl rfl ak (fun w' hw=>by obtain⟨m1,m2,m3,m4⟩:=hw;go_simp;try rfl) ?_;simp only[Act.put,sB,sZ,sS];refine aU (i:=6) 9 (.pointer (some ⟨A.ra,t*2,none⟩)) (by kernel_rfl) (by kernel_rfl) rfl (by kernel_rfl) (by kernel_rfl) (by kernel_rfl) (fun _ _ _ h=>h) rfl rfl ak (fun w' hw=>by obtain⟨m1,m2,m3,m4⟩:=hw;go_simp;try rfl) ?_;simp only[Act.put,sB,sZ,sS];refine aU (i:=7) 10 (.pointer (some ⟨A.ra,t*2+1,none⟩)) (by kernel_rfl) (by kernel_rfl) rfl (by kernel_rfl) (by kernel_rfl) (by kernel_rfl) (fun _ _ _ h=>h) rfl rfl ak (fun w' hw=>by obtain⟨m1,m2,m3,m4⟩:=hw;go_simp;try rfl) ?_;simp only[Act.put,sB,sZ,sS];refine aU (i:=8) 11 (.string key) (by kernel_rfl) (by kernel_rfl) rfl (by kernel_rfl) (by kernel_rfl) (by kernel_rfl) (fun _ _ _ h=>h) rfl rfl ak (fun w' hw=>by obtain⟨m1,m2,m3,m4⟩:=hw;go_simp;try rfl) ?_;simp only[Act.put,sB,sZ,sS];refine oE 9 rfl fun K2 ae=>?_;go_simp;have tu:Bl w w.drew:=(bQ _ _).drew;refine(aEK (K:=K) w.drew ρ P A f [] t H key (hS.below tu) hW er jy hz td hK (by simpa using kz)).mono ?_;intro e w6 Ia;cases cg:bV f t H key with
 | none=>
  obtain⟨rfl,ρ6,A6,g,J6,s6,m6,j6⟩:=Ia.no cg;refine⟨rfl,fun _=>⟨rfl,ρ6,A6,g,J6,s6,⟨(Frm.drew _ w).trans m6.frm,fun x hx=>m6.rol x hx id⟩,j6⟩,fun g h=>by rw[cg]at h;cases h⟩
 | some g=>
  obtain⟨rfl,ρ6,A6,J6,d6,z6⟩:=Ia.yes g cg;have m6:=d6.mv;have HR:Hid (ChP (25*(H+3)) (fun _=>False) (K+20*(H+3)) (fun _ _=>True) w ρ P f (some g) (.returned (.tuple #[])) w6):=by
   refine⟨fun q=>(by cases q),fun g' q=>?_⟩;cases q;exact⟨rfl,ρ6,A6,J6,d6.st,⟨(Frm.drew _ w).trans m6.frm,fun x hx=>m6.rol x hx id⟩,d6.js,z6,trivial⟩
  clear d6 z6 Ia;refine ae _ _ (fun q=>absurd rfl q) ?_;clear ae K2;refine aS (by kernel_rfl) ?_ _;go_wp2;first | go_end0 | refine bodyPost_ret (results_none rfl _ _ _) rfl ?_
  rw[cg];exact HR.out
abbrev An:=Int×Int×ByteArray
def bN(a:An):Value:=.agg #[.int .i64 a.1,.int .i64 a.2.1,.string a.2.2]
def lV(f:fZ)(t:Nat)(key val:ByteArray):fZ×An:=match put f t (hOf f t) key val with
 | none=>(f,7,0,.empty)
 | some (g,th)=>if fI g.cur g.com<2*fJ g.cur.length then(f,7,0,.empty)else(g,0,if th then 1 else 0,.empty)
def mF(f:fZ)(t:Nat)(key:ByteArray):fZ×An:=match Fo.find f.nodes (hOf f t) (aB f t) key with
 | none=>(f,9,0,.empty)
 | some v=>match bV f t (hOf f t) key with
  | none=>(f,7,0,.empty)
  | some g=>if fI g.cur g.com<2*fJ g.cur.length then(f,7,0,.empty)else(g,0,0,v)
def lU(f:fZ)(t:Nat):fZ×An:=if 16≤f.roots.length∨65535≤f.next then(f,4,0,.empty)else(cU f t,0,f.next,.empty)
def nC(f:fZ)(t:Nat):fZ×An:=if f.roots.length=1 then(f,18,0,.empty)else((drop f t (hOf f t)).1,0,(drop f t (hOf f t)).2,.empty)
def nH(f:fZ)(t:Nat)(key:ByteArray):fZ×An:=match Fo.find f.nodes (hOf f t) (aB f t) key with
 | none=>(f,9,0,.empty)
 | some v=>(f,0,0,v)
structure DoP(w:World)(ρ:Nat→Nat)(P:Nat)(r:fZ×An)(e:Ending)(w':World):Prop where
 e:e=.returned (bN r.2)
 ex:∃ρ' A' J',St w' ρ' P A' r.1 J'∧Frm (fun k=>ρ k≠0) w w'∧∀x,x<w.heap.size→ρ x=0→ρ' x=0
theorem jP(W:World)(c:Int):(Instr.build 92 #[(0,.int .i64 c)]).run Tryz.prog W=.ok (.agg #[.int .i64 c,.int .i64 0,.string .empty]) W:=by kernel_rfl
theorem qO(W:World)(c:Int):(Instr.build 92 #[(1,.int .i64 c)]).run Tryz.prog W=.ok (.agg #[.int .i64 0,.int .i64 c,.string .empty]) W:=by kernel_rfl
theorem qP(W:World)(v:ByteArray):(Instr.build 92 #[(2,.string v)]).run Tryz.prog W=.ok (.agg #[.int .i64 0,.int .i64 0,.string v]) W:=by kernel_rfl
theorem St.no0{J:List aQ}(h:St w ρ P A f J){x:Nat}(hx:w.heap.size≤x):ρ x=0:=Decidable.byContradiction fun q=>by
 obtain⟨_,_,_,q',_⟩:=id h;exact absurd (q'.own x q) (by omega)
theorem fA(w:World)(g:Nat)(a b c:Value):Frm (fun x=>x=g) w (((w.setCell ⟨g,0,none⟩ a).setCell ⟨g,1,none⟩ b).setCell ⟨g,2,none⟩ c):=
 ((Frm.set (S:=fun x=>x=g) w (p:=⟨g,0,none⟩) rfl _).trans (Frm.set (S:=fun x=>x=g) _ (p:=⟨g,1,none⟩) rfl _)).trans (Frm.set (S:=fun x=>x=g) _ (p:=⟨g,2,none⟩) rfl _)
theorem aGE(w:World)(ρ:Nat→Nat)(P:Nat)(A:Adr)(f:fZ)(J:List aQ)(t:Nat)(key val:ByteArray)(h:St w ρ P A f J)(hI:Inv f)(ht:t<f.roots.length):
  Calls Tryz.prog 73 #[.pointer (some ⟨P,0,none⟩),.int .i64 t,.agg #[.string key,.string val]] w (DoP w ρ P (lV f t key val)):=by
 have Mt:∀(fn:Fn) (first cap:Array Value) (w:World),(Instr.makeFunc fn first cap).run Tryz.prog w=.ok (.func fn first cap) w:=fun _ _ _ _=>rfl;have ik:=jP;have ao:=qO;obtain⟨hW,er,hH⟩:=hI.hOf ht;obtain⟨H,BI⟩:=eZ (hOf f t);obtain⟨w1,be⟩:=eZ (w.alloc (.cells #[.pointer (some ⟨P,0,none⟩)] 65));obtain⟨w2,bw⟩:=eZ (w1.alloc (.cells #[.int .i64 t] 3));obtain⟨w3,dh⟩:=eZ (w2.alloc (.cells #[.string key,.string val] 85));obtain⟨w4,cn⟩:=eZ (w3.alloc (.cells #[.int .i64 0,.int .i64 0,.string {data:=#[]}] 92));obtain⟨w5,sj⟩:=eZ (w4.alloc (.cells #[.bool false] 4));obtain⟨pb,qr⟩:=eZ (w.heap.size);obtain⟨ab,pz⟩:=eZ (w1.heap.size);obtain⟨ib,OR⟩:=eZ (w2.heap.size);obtain⟨rb,fk⟩:=eZ (w3.heap.size);obtain⟨tb,OV⟩:=eZ (w4.heap.size);have nf:∀(u:World) (o:Obj) (v:World),u.alloc o=v→Bl u v∧v.heap.size=u.heap.size+1:=fun u o v e=>by rw[←e];exact⟨(bQ _ u).alloc (nR _) _,by simp⟩
 have nh:∀(u:World) (cs:Array Value) (ty:TypeId) (v:World),u.alloc (.cells cs ty)=v→IsC v u.heap.size cs ty:=fun u cs ty v e=>by rw[←e];exact IsC.new _ _ _
 obtain⟨B1,s1⟩:=nf _ _ _ be;obtain⟨B2,s2⟩:=nf _ _ _ bw;obtain⟨B3,s3⟩:=nf _ _ _ dh;obtain⟨B4,s4⟩:=nf _ _ _ cn;obtain⟨B5,s5⟩:=nf _ _ _ sj;have B35:Bl w3 w5:=B4.trans (B5.mono (by omega));have B25:Bl w2 w5:=B3.trans (B35.mono (by omega));have B15:Bl w1 w5:=B2.trans (B25.mono (by omega));have B05:Bl w w5:=B1.trans (B15.mono (by omega));have z1:IsC w5 pb #[.pointer (some ⟨P,0,none⟩)] 65:=by have:=nh _ _ _ _ be;rw[←qr];exact this.of (B15.block _ this.lt)
 have z2:IsC w5 ab #[.int .i64 t] 3:=by have:=nh _ _ _ _ bw;rw[←pz];exact this.of (B25.block _ this.lt)
 have z3:IsC w5 ib #[.string key,.string val] 85:=by have:=nh _ _ _ _ dh;rw[←OR];exact this.of (B35.block _ this.lt)
 have z4:IsC w5 rb #[.int .i64 0,.int .i64 0,.string {data:=#[]}] 92:=by have:=nh _ _ _ _ cn;rw[←fk];exact this.of (B5.block _ this.lt)
 have z5:IsC w5 tb #[.bool false] 4:=by have:=nh _ _ _ _ sj;rw[←OV];exact this
 have G:w.heap.size≤pb∧w.heap.size≤ab∧w.heap.size≤ib∧w.heap.size≤rb∧w.heap.size≤tb∧rb≠tb∧pb≠tb∧ab≠tb∧ib≠tb:=by omega
 have k0:w5.cell? ⟨tb,0,none⟩=some (.bool false):=z5.c rfl;have k0':=z5.frozen 0;obtain⟨w6,rx⟩:=eZ (w5.setCell ⟨tb,0,none⟩ (.bool false));have F6:Frm (fun x=>x=tb) w5 w6:=by rw[←rx];exact Frm.set (S:=fun x=>x=tb) w5 (p:=⟨tb,0,none⟩) rfl _
 have c1:=z1.frm F6 (by omega);have c2:=z2.frm F6 (by omega);have c3:=z3.frm F6 (by omega);have c4:=z4.frm F6 (by omega);have c5:IsC w6 tb #[.bool false] 4:=by
  have:=z5.set 0 (.bool false)
  rw[rx]at this;exact this
 have B06:Bl w w6:=⟨F6.os.trans B05.os,F6.tape.trans B05.tape,F6.output.trans B05.output,lT B05.size F6.size,fun k hk=>(F6.block k (by omega) (by omega)).trans (B05.block k hk)⟩;have cw:=h.below B06;have k1:w6.cell? ⟨pb,0,none⟩=some (.pointer (some ⟨P,0,none⟩)):=c1.c rfl;have jw:=rA (K:=2576) (L:=2576+10*(H+3)) (13*(H+3)) (fun x=>x=tb) (aKX f t H key val tb) 98 #[.pointer (some ⟨pb,0,none⟩),.pointer (some ⟨ab,0,none⟩),.pointer (some ⟨ib,0,none⟩),.pointer (some ⟨tb,0,none⟩)] w6 ρ P A f J ((put f t H key val).map Prod.fst) cw hI.sz (by omega) (by omega) hI.ne hI.r16
  (fun x e=>by rw[e];exact⟨c5.lt,h.no0 G.2.2.2.2.1⟩) (fun g h1 h2 hh ⟨th,e1,e2⟩=>⟨th,e1,by rw[←hh _ c5.lt];exact e2⟩) (fun _ _=>rfl)
  (fun W hF hS=>by
   have hP:P<w.heap.size:=by obtain⟨_,_,_,q,_⟩:=id h;exact q.hP.lt
   rw[BI]at hW er hH;exact aDP (K:=2576) W ρ P A f t H key val pb ab ib tb false hS hW er hI.sz (by omega) (by omega) (by omega) (c1.frm hF (by omega)) (c2.frm hF (by omega)) (c3.frm hF (by omega)) (c5.frm hF (by omega)) ⟨h.no0 G.1,h.no0 G.2.1,h.no0 G.2.2.1,h.no0 G.2.2.2.2.1⟩ hI.r16)
 have HS:=aA (aI s1 (aI s2 (aI s3 (aI s4 s5))));clear s1 s2 s3 s4 s5;go_enter Tryz.func73,Tryz.ntmps73;go_wp2_with fail;refine jw.mono ?_;rintro e w7 ⟨rfl,⟨ρ7,A7,J7,s7,f7,r7⟩,t7⟩;have za:ρ rb=0:=h.no0 G.2.2.2.1;have KH:rb<w6.heap.size:=c4.lt;have d4:IsC w7 rb #[.int .i64 0,.int .i64 0,.string {data:=#[]}] 92:=c4.frm f7 (fun q=>q.elim (fun q=>q za) (fun q=>G.2.2.2.2.2.1 q));have e0:w7.cell? ⟨rb,0,none⟩=some (.int .i64 0):=d4.c rfl;have e1:w7.cell? ⟨rb,1,none⟩=some (.int .i64 0):=d4.c rfl;have e2:w7.cell? ⟨rb,2,none⟩=some (.string {data:=#[]}):=d4.c rfl;have q0:=d4.frozen 0;have q1:=d4.frozen 1;have q2:=d4.frozen 2;have HF:Hid (∀(r:fZ×An) (w8:World),r.1=(jA f ((put f t H key val).map Prod.fst)).1→Frm (fun x=>x=rb) w7 w8→DoP w ρ P r (.returned (bN r.2)) w8):=fun r w8 hr hF=>by
  refine⟨rfl,ρ7,A7,J7,?_,?_,fun x hx h0=>r7 x (lL hx B06.size) h0⟩
  ·rw[hr];exact s7.frm (hF.wide fun x _ e=>by rw[e];exact r7 rb KH za)
  ·exact((Frm.of_below B06).next f7 fun x hx q=>q.elim id fun q=>absurd q (by omega)).next hF fun x hx q=>absurd q (by omega)
 have X4:Hid (Frm (fun x=>x=rb) w7 w7):=Frm.refl _ _;cases cg:put f t H key val with
 | none=>
  have Bq:lV f t key val=(f,7,0,.empty):=by unfold lV;rw[BI,cg]
  have hr:f=(jA f ((put f t H key val).map Prod.fst)).1:=by rw[cg];rfl
  have hc:(jA f ((none:Option (fZ×Bool)).map Prod.fst)).2=7:=rfl;rw[hc];have HX:=aA (aI Bq hr);clear Bq hr hc cg;go_wp2;refine bodyPost_ret (v:=bN (7,0,.empty)) (by simp[bN,results,Tryz.results73,go_sem,e0,e1,e2];try rfl) rfl ?_;rw[HX.out.1];exact HF.out (f,7,0,ByteArray.empty) _ HX.out.2 (fA _ _ _ _ _)
 | some gt=>
  obtain⟨g,th⟩:=gt;by_cases ai:fI g.cur g.com<2*fJ g.cur.length
  ·have Bq:lV f t key val=(f,7,0,.empty):=by unfold lV;rw[BI,cg];simp only;rw[if_pos ai]
   have nz:jA f (((some (g,th)):Option (fZ×Bool)).map Prod.fst)=(f,7):=by show(if fI g.cur g.com<2*fJ g.cur.length then(f,(7:Int))else(g,0))=_;rw[if_pos ai]
   have hr:f=(jA f ((put f t H key val).map Prod.fst)).1:=by rw[cg,nz]
   rw[nz];have HX:=aA (aI Bq hr);clear Bq hr nz cg ai t7;go_wp2;refine bodyPost_ret (v:=bN (7,0,.empty)) (by simp[bN,results,Tryz.results73,go_sem,e0,e1,e2];try rfl) rfl ?_;rw[HX.out.1];exact HF.out (f,7,0,ByteArray.empty) _ HX.out.2 (fA _ _ _ _ _)
  ·have Bq:lV f t key val=(g,0,if th then 1 else 0,.empty):=by unfold lV;rw[BI,cg];simp only;rw[if_neg ai]
   have nz:jA f (((some (g,th)):Option (fZ×Bool)).map Prod.fst)=(g,0):=by show(if fI g.cur g.com<2*fJ g.cur.length then(f,(7:Int))else(g,0))=_;rw[if_neg ai]
   have hr:g=(jA f ((put f t H key val).map Prod.fst)).1:=by rw[cg,nz]
   rw[cg,nz]at t7;obtain⟨th',y1,y2⟩:=t7 rfl;rw[cg]at y1;cases y1;have ct:w7.cell? ⟨tb,0,none⟩=some (.bool th):=by rw[(show IsC w7 tb #[.bool th] 4 from y2).cell];rfl
   rw[nz];have HX:=aA (aI Bq hr);clear Bq hr nz cg ai t7 y2;cases th with
   | true=>
    go_wp2
    refine bodyPost_ret (v:=bN (0,1,.empty)) (by simp[bN,results,Tryz.results73,go_sem,e0,e1,e2];try rfl) rfl ?_;rw[HX.out.1];exact HF.out (g,0,1,ByteArray.empty) _ HX.out.2 (fA _ _ _ _ _)
   | false=>
    go_wp2
    refine bodyPost_ret (v:=bN (0,0,.empty)) (by simp[bN,results,Tryz.results73,go_sem,e0,e1,e2];try rfl) rfl ?_;rw[HX.out.1];exact HF.out (g,0,0,ByteArray.empty) _ HX.out.2 (fA _ _ _ _ _)
theorem St.rootAt{J:List aQ}(h:St w ρ P A f J)(hI:IC f)(ht:t<f.roots.length):w.cell? ⟨A.ra,t*2+1,none⟩=some (.int .i64 (aB f t)):=by
 have h0:0≤(f.roots.getD t (0,0)).2:=(hI.rb _ (aO ht)).1;exact(h.rootCell ht h0).1
theorem yG(w:World)(ρ:Nat→Nat)(P:Nat)(A:Adr)(f:fZ)(J:List aQ)(t:Nat)(key:ByteArray)(h:St w ρ P A f J)(hI:Inv f)(ht:t<f.roots.length):
  Calls Tryz.prog 74 #[.pointer (some ⟨P,0,none⟩),.int .i64 t,.string key] w (DoP w ρ P (mF f t key)):=by
 have Mt:∀(fn:Fn) (first cap:Array Value) (w:World),(Instr.makeFunc fn first cap).run Tryz.prog w=.ok (.func fn first cap) w:=fun _ _ _ _=>rfl;have ik:=jP;have ba:=qP;obtain⟨hW,er,hH⟩:=hI.hOf ht;obtain⟨H,BI⟩:=eZ (hOf f t);rw[BI]at hW er hH;obtain⟨w1,be⟩:=eZ (w.alloc (.cells #[.pointer (some ⟨P,0,none⟩)] 65));obtain⟨w2,bw⟩:=eZ (w1.alloc (.cells #[.int .i64 t] 3));obtain⟨w3,dh⟩:=eZ (w2.alloc (.cells #[.string key] 9));obtain⟨w4,cn⟩:=eZ (w3.alloc (.cells #[.int .i64 0,.int .i64 0,.string {data:=#[]}] 92));obtain⟨pb,qr⟩:=eZ (w.heap.size);obtain⟨ab,pz⟩:=eZ (w1.heap.size);obtain⟨kb,xz⟩:=eZ (w2.heap.size);obtain⟨rb,fk⟩:=eZ (w3.heap.size);have nf:∀(u:World) (o:Obj) (v:World),u.alloc o=v→Bl u v∧v.heap.size=u.heap.size+1:=fun u o v e=>by rw[←e];exact⟨(bQ _ u).alloc (nR _) _,by simp⟩
 have nh:∀(u:World) (cs:Array Value) (ty:TypeId) (v:World),u.alloc (.cells cs ty)=v→IsC v u.heap.size cs ty:=fun u cs ty v e=>by rw[←e];exact IsC.new _ _ _
 obtain⟨B1,s1⟩:=nf _ _ _ be;obtain⟨B2,s2⟩:=nf _ _ _ bw;obtain⟨B3,s3⟩:=nf _ _ _ dh;obtain⟨B4,s4⟩:=nf _ _ _ cn;have B24:Bl w2 w4:=B3.trans (B4.mono (by omega));have B14:Bl w1 w4:=B2.trans (B24.mono (by omega));have B04:Bl w w4:=B1.trans (B14.mono (by omega));have c1:IsC w4 pb #[.pointer (some ⟨P,0,none⟩)] 65:=by have:=nh _ _ _ _ be;rw[←qr];exact this.of (B14.block _ this.lt)
 have c2:IsC w4 ab #[.int .i64 t] 3:=by have:=nh _ _ _ _ bw;rw[←pz];exact this.of (B24.block _ this.lt)
 have c3:IsC w4 kb #[.string key] 9:=by have:=nh _ _ _ _ dh;rw[←xz];exact this.of (B4.block _ this.lt)
 have c4:IsC w4 rb #[.int .i64 0,.int .i64 0,.string {data:=#[]}] 92:=by have:=nh _ _ _ _ cn;rw[←fk];exact this
 have G:w.heap.size≤pb∧w.heap.size≤ab∧w.heap.size≤kb∧w.heap.size≤rb:=by omega
 have aw:=h.below B04;obtain⟨_,_,_,li,_⟩:=id aw;have fw:((t:Nat):Int) <(f.roots.length:Int):=by omega
 have UT:=aA ((aCJ (K:=2576) w4.drew ρ P A f J H (aB f t) none none key (aw.below (bQ _ _).drew) hI.ic hW.ok hI.sz).mono (fun e w' hw=>aI hw.1 (show Bl w4 w' from(bQ _ w4).drew.trans hw.2)));have hS:∀W:World,Bl w4 W→W.cell? ⟨pb,0,none⟩=some (.pointer (some ⟨P,0,none⟩))∧W.cell? ⟨P,0,none⟩=some (.slice (some ⟨A.ra,0,none⟩) f.roots.length (f.roots.length+A.rj.length))∧W.cell? ⟨ab,0,none⟩=some (.int .i64 t)∧W.cell? ⟨A.ra,t*2+1,none⟩=some (.int .i64 (aB f t))∧W.cell? ⟨kb,0,none⟩=some (.string key):=fun W hB=>by
  refine⟨?_,?_,?_,?_,?_⟩
  ·rw[hB.cell c1.lt,c1.cell];rfl
  ·rw[hB.cell li.hP.lt,li.hP.cell];rfl
  ·rw[hB.cell c2.lt,c2.cell];rfl
  ·exact(aw.below hB).rootAt hI.ic ht
  ·rw[hB.cell c3.lt,c3.cell];rfl
 have Uu:=aA hS;have HS:=aA (aI s1 (aI s2 (aI s3 s4)));obtain⟨y1,y2,y3,y4,y5⟩:=hS w4 (bQ _ _);clear s1 s2 s3 s4 hS;go_enter Tryz.func74,Tryz.ntmps74;go_wp2_with fail;go_region_held3 (fun W=>W.cell? ⟨pb,0,none⟩=some (.pointer (some ⟨P,0,none⟩))∧W.cell? ⟨P,0,none⟩=some (.slice (some ⟨A.ra,0,none⟩) f.roots.length (f.roots.length+A.rj.length))∧W.cell? ⟨ab,0,none⟩=some (.int .i64 t)∧W.cell? ⟨A.ra,t*2+1,none⟩=some (.int .i64 (aB f t))∧W.cell? ⟨kb,0,none⟩=some (.string key)) (first | assumption | go_keep)
  ((go_at_call 100;refine UT.out.mono ?_;rintro e w5 ⟨rfl,et⟩;have ly:=Uu.out _ et))
 clear ly y1 y2 y3 y4 y5;have B05:Bl w w5:=B04.trans (et.mono (Nat.le_of_lt (by have:=HS.out;omega)));have cw:=h.below B05;have d1:=c1.of (et.block _ c1.lt);have d2:=c2.of (et.block _ c2.lt);have d3:=c3.of (et.block _ c3.lt);have d4:=c4.of (et.block _ c4.lt);have za:ρ rb=0:=h.no0 G.2.2.2;cases ll:Fo.find f.nodes H (aB f t) key with
 | none=>
  have e0:w5.cell? ⟨rb,0,none⟩=some (.int .i64 0):=d4.c rfl;have e1:w5.cell? ⟨rb,1,none⟩=some (.int .i64 0):=d4.c rfl;have e2:w5.cell? ⟨rb,2,none⟩=some (.string {data:=#[]}):=d4.c rfl;have q0:=d4.frozen 0;have q1:=d4.frozen 1;have q2:=d4.frozen 2;have HX:Hid (mF f t key=(f,9,0,.empty)):=by unfold mF;rw[BI,ll];rfl
  have HF:Hid (∀w8:World,Frm (fun x=>x=rb) w5 w8→DoP w ρ P (f,9,0,.empty) (.returned (bN (9,0,.empty))) w8):=fun w8 hF=>
   ⟨rfl,ρ,A,J,cw.frm (hF.wide fun x _ e=>by rw[e];exact za),(Frm.of_below B05).next hF fun x hx q=>absurd q (by omega),fun x _ h0=>h0⟩
  clear ll;go_wp2;refine bodyPost_ret (v:=bN (9,0,.empty)) (by simp[bN,results,Tryz.results74,go_sem,e0,e1,e2];try rfl) rfl ?_;rw[HX.out];exact HF.out _ (fA _ _ _ _ _)
 | some v=>
  have jy:=kQ hW.ok ll;have k1:w5.cell? ⟨pb,0,none⟩=some (.pointer (some ⟨P,0,none⟩)):=d1.c rfl;have jw:=rA (K:=2576) (L:=2576+20*(H+3)) (25*(H+3)) (fun _=>False) (fun _ _=>True) 101 #[.pointer (some ⟨pb,0,none⟩),.pointer (some ⟨ab,0,none⟩),.pointer (some ⟨kb,0,none⟩)] w5 ρ P A f J (bV f t H key) cw hI.sz (by omega) (by omega) hI.ne hI.r16
   (fun x e=>e.elim) (fun g h1 h2 hh _=>trivial) (fun _ _=>rfl)
   (fun W hF hS=>by
    have hP:P<w.heap.size:=by obtain⟨_,_,_,q,_⟩:=id h;exact q.hP.lt
    exact wL (K:=2576) W ρ P A f t H key pb ab kb hS hW er jy hI.sz (by omega) (by omega) (by omega) (d1.frm hF (by omega)) (d2.frm hF (by omega)) (d3.frm hF (by omega)) hI.r16)
  have Nn:=aA ll;clear ll;go_wp2_with fail;refine jw.mono ?_;rintro e w7 ⟨rfl,⟨ρ7,A7,J7,s7,f7,r7⟩,-⟩;have f4:IsC w7 rb #[.int .i64 0,.int .i64 0,.string {data:=#[]}] 92:=d4.frm f7 (fun q=>q.elim (fun q=>q za) id);have e0:w7.cell? ⟨rb,0,none⟩=some (.int .i64 0):=f4.c rfl;have e1:w7.cell? ⟨rb,1,none⟩=some (.int .i64 0):=f4.c rfl;have e2:w7.cell? ⟨rb,2,none⟩=some (.string {data:=#[]}):=f4.c rfl;have q0:=f4.frozen 0;have q1:=f4.frozen 1;have q2:=f4.frozen 2;have KH:rb<w5.heap.size:=d4.lt;have HF:Hid (∀(r:fZ×An) (w8:World),r.1=(jA f (bV f t H key)).1→Frm (fun x=>x=rb) w7 w8→DoP w ρ P r (.returned (bN r.2)) w8):=fun r w8 hr hF=>by
   refine⟨rfl,ρ7,A7,J7,?_,?_,fun x hx h0=>r7 x (lL hx B05.size) h0⟩
   ·rw[hr];exact s7.frm (hF.wide fun x _ e=>by rw[e];exact r7 rb KH za)
   ·exact((Frm.of_below B05).next f7 fun x hx q=>q.elim id False.elim).next hF fun x hx q=>absurd q (by omega)
  have fe:mF f t key=match bV f t H key with
   | none=>(f,7,0,.empty)
   | some g=>if fI g.cur g.com<2*fJ g.cur.length then(f,7,0,.empty)else(g,0,0,v):=by unfold mF;rw[BI,Nn.out]<;>rfl
  cases cg:bV f t H key with
  | none=>
   have hr:f=(jA f (bV f t H key)).1:=by rw[cg];rfl
   have hc:(jA f none).2=7:=rfl;rw[cg]at fe;rw[hc];have HX:=aA (aI fe hr);clear fe hr hc cg;go_wp2;refine bodyPost_ret (v:=bN (7,0,.empty)) (by simp[bN,results,Tryz.results74,go_sem,e0,e1,e2];try rfl) rfl ?_;rw[HX.out.1];exact HF.out (f,7,0,ByteArray.empty) _ HX.out.2 (fA _ _ _ _ _)
  | some g=>
   rw[cg]at fe;simp only at fe;by_cases ai:fI g.cur g.com<2*fJ g.cur.length
   ·rw[if_pos ai]at fe
    have nz:jA f (some g)=(f,7):=by show(if fI g.cur g.com<2*fJ g.cur.length then(f,(7:Int))else(g,0))=_;rw[if_pos ai]
    have hr:f=(jA f (bV f t H key)).1:=by rw[cg,nz]
    rw[nz];have HX:=aA (aI fe hr);clear fe hr nz cg ai;go_wp2;refine bodyPost_ret (v:=bN (7,0,.empty)) (by simp[bN,results,Tryz.results74,go_sem,e0,e1,e2];try rfl) rfl ?_;rw[HX.out.1];exact HF.out (f,7,0,ByteArray.empty) _ HX.out.2 (fA _ _ _ _ _)
   ·rw[if_neg ai]at fe
    have nz:jA f (some g)=(g,0):=by show(if fI g.cur g.com<2*fJ g.cur.length then(f,(7:Int))else(g,0))=_;rw[if_neg ai]
    have hr:g=(jA f (bV f t H key)).1:=by rw[cg,nz]
    rw[nz];have HX:=aA (aI fe hr);clear fe hr nz cg ai;go_wp2;refine bodyPost_ret (v:=bN (0,0,v)) (by simp[bN,results,Tryz.results74,go_sem,e0,e1,e2];try rfl) rfl ?_;rw[HX.out.1];exact HF.out (g,0,0,v) _ HX.out.2 (fA _ _ _ _ _)

import Derived.Test.YtaahkgkdpnnhhaaGreatSq17
set_option maxHeartbeats 9999999
set_option maxRecDepth 99999
set_option linter.all false
namespace Go.Proofs.YtaahkgkdpnnhhaaGreat
open Go.RowKit Go.Shelf Fo
variable{K:Int}{L oj:List (ByteArray×ByteArray)}{B1 base t:Nat}{ag:Option Nat}{W W' w w' wr wr1:World}
attribute [local go_sem] Oper.semAt_some
theorem Ely.Own.grow{α:Type}{Y:Ely α}{u:Value}{l:List α}{row:Option Nat}(h:Y.Own base w u l)(hg:w.grownBy w' row)(hr:∀r,row=some r→∃o:Obj,w.heap[r]?=some o∧o.isCells=false):Y.Own base w' u l:=by
 obtain⟨a,junk,rfl,h1,h2⟩:=h;exact⟨a,junk,rfl,⟨fun g e=>(h1.arr g e).own hg hr,h1.nil,h1.small⟩,h2⟩
def AvZ(t base:Nat)(w:World)(k:Nat):Prop:=base≤k∧∃cs,IsC w k cs t
theorem AvZ.next(h:Frm (AvZ t base w) w W)(k:Frm (fun k=>k=B1∨AvZ t base W k) W W')(hB:w.heap.size≤B1):Frm (AvZ t base w) w W':=by
 refine⟨k.os.trans h.os,k.tape.trans h.tape,k.output.trans h.output,lT h.size k.size,fun x hx hn=>?_⟩;refine(k.block x (lL hx h.size) fun q=>?_).trans (h.block x hx hn);rcases q with q | ⟨q1,cs,q2⟩
 ·omega
 ·refine hn ⟨q1,cs,?_⟩
  unfold IsC at q2 ⊢;rw[←h.block x hx hn];exact q2
theorem AvZ.next1(h:Frm (fun k=>k=B1∨AvZ t base w k) w W)(k:Frm (fun k=>k=B1∨AvZ t base W k) W W'):Frm (fun k=>k=B1∨AvZ t base w k) w W':=by
 refine⟨k.os.trans h.os,k.tape.trans h.tape,k.output.trans h.output,lT h.size k.size,fun x hx hn=>?_⟩;refine(k.block x (lL hx h.size) fun q=>?_).trans (h.block x hx hn);rcases q with q | ⟨q1,cs,q2⟩
 ·exact hn (.inl q)
 ·refine hn (.inr ⟨q1,cs,?_⟩)
  unfold IsC at q2 ⊢;rw[←h.block x hx hn];exact q2
theorem aJY{es pre post:List Nat}{x:Nat}(h:es=pre++x :: post):pre.length<es.length∧es.getD pre.length 0=x:=by
 subst h;simp
attribute [local go_sem] Oper.semAt_some
structure AiP(w:World)(base:Nat)(l:List (ByteArray×ByteArray))(e:Ending)(w':World):Prop where
 ex:∃u,e=.returned u∧yI.Own base w' u l
 frm:Frm (AvZ 85 base w) w w'
def lfI(d:Nd):List (ByteArray×ByteArray):=if d.1=1 then d.2.map fun e=>(e.1,e.2.1)else []
structure LfR(W:World)(base B1:Nat)(L:List (ByteArray×ByteArray))(wr:World):Prop where
 ex:∃ag oj,Boxed wr B1 40 (.slice (adr ag) L.length (L.length+oj.length))∧yI.Rw wr ag L oj∧∀g,ag=some g→base≤g
 frm:Frm (fun k=>k=B1∨AvZ 85 base W k) W wr
theorem LfR.box(h1:Boxed wr B1 40 (.slice (adr ag) L.length (L.length+oj.length)))(h2:yI.Rw wr ag L oj)(hb:Bl wr wr1)(k3:Frm (fun k=>ag=some k) wr1 w'):Boxed w' B1 40 (.slice (adr ag) L.length (L.length+oj.length)):=
 (k3.block B1 (lL h1.lt hb.size) fun e=>(show IsC wr B1 _ _ from h1).type_ne (h2.arr _ e) (by decide) rfl).trans ((hb.block _ h1.lt).trans h1)
theorem LfR.step(h1:Boxed wr B1 40 (.slice (adr ag) L.length (L.length+oj.length)))(h2:yI.Rw wr ag L oj)(h3:∀g,ag=some g→base≤g)(hf:Frm (fun k=>k=B1∨AvZ 85 base W k) W wr)(lm:base≤wr.heap.size)(hb:Bl wr wr1)
  {L':List (ByteArray×ByteArray)} {a':Option Nat} {j':List (ByteArray×ByteArray)} (k1:yI.Rw w' a' L' j') (k2:∀g,a'=some g→ag=some g∨wr1.heap.size≤g) (k3:Frm (fun k=>ag=some k) wr1 w'):LfR W base B1 L' (w'.setCell ⟨B1,0,none⟩ (.slice (adr a') L'.length (L'.length+j'.length))):=by
 have hx:=LfR.box h1 h2 hb k3;refine⟨⟨a',j',hx.set _,k1.frm (Frm.set (S:=fun k=>k=B1) w' (p:=⟨B1,0,none⟩) rfl _) fun g e=>((show IsC w' B1 _ _ from hx).type_ne (k1.arr g e) (by decide)).symm,fun g e=>(k2 g e).elim (fun q=>h3 g q) fun q=>lT lm (lT hb.size q)⟩,?_⟩;exact AvZ.next1 hf (((Frm.of_below hb).trans (k3.wide fun k _ e=>.inr ⟨h3 k e,_,h2.arr k e⟩)).trans (Frm.set w' (p:=⟨B1,0,none⟩) (.inl rfl) _))
theorem pH(F:Fence)(n:Nat)(hF:mX F Tryz.prog)(hC:∀{c:Code} {Q:Exit→Act→World→Prop} {a:Act} {w:World},c.wp Tryz.prog Q a w→c.wpIn F n Tryz.prog Q a w)(c9:F.round=none)(hn:5≤n)
  (w:World) (ρ:Nat→Nat) (P:Nat) (A:Adr) (f:fZ) (J:List aQ) (b:Nat) (hS:St w ρ P A f J) (hz:Sz K f) (d:Nd) (hd:f.nodes b=some d) (ie:d.1=1∨d.1=2) (Av:d.1=2→∀e∈d.2,0≤e.2.2)
  (base:Nat) (lm:base≤w.heap.size) (hρ:∀k,base≤k→ρ k=0) (ua:Option Addr) (cp:Nat) (l:List (ByteArray×ByteArray)) (ap:yI.Own base w (.slice ua l.length cp) l) (V:Nat→List (ByteArray×ByteArray)) (Bb:(l++(kids d).flatMap V).length≤900000)
  (IH:∀(pre:List Nat) (x:Nat) (post:List Nat),kids d=pre++x :: post→∀(W:World) (va:Option Addr) (vc:Nat),St W ρ P A f J→base≤W.heap.size→yI.Own base W (.slice va (l++pre.flatMap V).length vc) (l++pre.flatMap V)→
   Calls Tryz.prog 45 #[.pointer (some ⟨P,0,none⟩),.slice va (l++pre.flatMap V).length vc,.int .i64 (x:Int)] W (AiP W base (l++(pre++[x]).flatMap V))):
  CallsIn F n Tryz.prog 45 #[.pointer (some ⟨P,0,none⟩),.slice ua l.length cp,.int .i64 b] w (AiP w base (l++(kids d).flatMap V++lfI d)):=by
 have nk:1≤n:=by omega
 have pa:∀k,F.fn k:=hF.fn;have DN:=aGB;have fj:d.2.length≤10:=hz.ent b d hd;have d9:b<f.cur.length:=hz.lt b d hd;obtain⟨B0,cw⟩:=eZ (w.heap.size);obtain⟨w1,bh⟩:=eZ (w.alloc (.cells #[.pointer (some ⟨P,0,none⟩)] 65));have ao:=bAl bh;have x0:Boxed w1 B0 65 (.pointer (some ⟨P,0,none⟩)):=by rw[←bh,←cw];exact Boxed.new _ _ _
 obtain⟨B1,eX⟩:=eZ (w1.heap.size);obtain⟨w2,ci⟩:=eZ (w1.alloc (.cells #[.slice ua l.length cp] 40));have ba:=bAl ci;have t1:Boxed w2 B1 40 (.slice ua l.length cp):=by rw[←ci,←eX];exact Boxed.new _ _ _
 have e1:B1=B0+1:=by rw[←eX,←bh,←cw];simp
 have e2:w2.heap.size=B0+2:=by rw[←ci];simp;omega
 have dz:=ao.trans (ba.mono ao.size);have t0:Boxed w2 B0 65 (.pointer (some ⟨P,0,none⟩)):=(ba.block _ (by omega)).trans x0;have ax:=hS.below dz;obtain⟨ja2,jp2,jj2,gi,nu⟩:=id ax;obtain⟨p3,p4,p5,p7⟩:=gi.cells;obtain⟨q,hφ,ww,wu,junk,hN⟩:=gi.nd b d hd;have gx:(Instr.lookup 68 (.map (some A.m)) (.int .i64 b) false).run Tryz.prog w2=.ok (.pointer (some ⟨q,0,none⟩)) w2:=by
  have:=gi.hm.lookup b (by have:=hz.n512;omega)
  rw[hφ]at this;simpa only[eT,Option.map_some] using this
 have Hb:q<base:=Nat.lt_of_not_le fun e=>by have:=hρ _ e;rw[ww]at this;unfold cE at this;omega
 have pn:∀g,A.α b=some g→g<base:=fun g hg=>Nat.lt_of_not_le fun e=>by have:=hρ _ e;rw[wu g hg]at this;unfold cB at this;omega
 have k0:=t0.cell;have k1:=t1.cell;have HE:=aA (aI e1 e2);have CH:=ap.below dz;have Lt:Frm (AvZ 85 base w) w w2:=Frm.of_below dz;refine callsIn_of_wp_marks Tryz.func45 rfl (hF.fn _) ?_ c9;simp only[Tryz.ntmps45,List.size_toArray,List.length_cons,List.length_nil,Nat.reduceAdd,Nat.reduceSub,Array.replicate_succ,Array.replicate_zero,List.push_toArray,List.append_toArray,List.nil_append,List.cons_append];clear e1 e2;gi_wp2_with (gi_at_call 59;refine(kO F (n-1) (hF.fn _) c9 _ _).mono ?_;rintro e w' ⟨rfl,rfl⟩);obtain⟨e1,e2⟩:=HE.out;have FV:Bl w2 (w2.alloc (.cells #[.pointer (some ⟨q,0,none⟩)] 112)):=(bQ _ w2).alloc (nR _) _;have EC:IsC (w2.alloc (.cells #[.pointer (some ⟨q,0,none⟩)] 112)) w2.heap.size #[.pointer (some ⟨q,0,none⟩)] 112:=IsC.new _ _ _;have Bw:(w2.alloc (.cells #[.pointer (some ⟨q,0,none⟩)] 112)).heap.size=w2.heap.size+1:=by simp
 generalize P8:w2.alloc (.cells #[.pointer (some ⟨q,0,none⟩)] 112)=w7 at *;have IL:Frm (AvZ 85 base w) w w7:=Lt.trans (Frm.of_below FV);have L7:aK w7 q d (A.α b) junk:=hN.below FV;have it:St w7 ρ P A f J:=ax.below FV;have v0:Boxed w7 B0 65 (.pointer (some ⟨P,0,none⟩)):=(FV.block _ (by omega)).trans t0;have v1:Boxed w7 B1 40 (.slice ua l.length cp):=(FV.block _ (by omega)).trans t1;have TD:=CH.below FV;have C1:q<w7.heap.size:=L7.box.lt;have V7:base≤w7.heap.size:=by omega
 have Xc:w.heap.size≤B1:=by omega
 clear ax gi nu hN Lt t0 t1 CH P8 FV dz ao ba bh ci x0 ap hS hφ ww wu p3 p4 p5 p7 k0 k1 gx e1 e2;refine jB c9 nk (gf:=82) (lb:=#[.pointer (some ⟨w2.heap.size,0,none⟩)]) rfl (pa _) (enters_of Tryz.func82 (by kernel_rfl) rfl)
  (jT F (n-1) (pa _) c9 (by omega) w2.heap.size q d (A.α b) junk fj Av w7 EC L7) KpC.trans (KpC.put EC.lt C1 (fun g e=>(L7.arr g e).1.lt)) (bQ _ _) rfl
  (fun pre W=>∃va vc,Boxed W B1 40 (.slice va (l++pre.flatMap V).length vc)∧yI.Own base W (.slice va (l++pre.flatMap V).length vc) (l++pre.flatMap V)∧Frm (fun k=>k=B1∨AvZ 85 base w7 k) w7 W)
  ?_ ⟨ua,cp,by simpa using v1,by simpa using TD,Frm.refl _ _⟩ ?_ ?_
 ·rintro pre X Y row ⟨va,vc,h1,h2,h3⟩ hg jo
  have CW:∀x,row=some x→w7.heap.size≤x:=fun x e=>(jo x e).1;have e1:=HE.out;exact⟨va,vc,h1.kept hg fun e=>by have:=CW _ e.symm;omega,h2.grow hg fun r e=>(jo r e).2,h3.own hg CW⟩
 ·intro l' pre x W hi lg
  gi_wp2
  refine⟨trivial,?_⟩;clear hi;rintro W ⟨va,vc,h1,h2,h3⟩;obtain⟨post,KD⟩:=lg;obtain⟨e1,e2⟩:=HE.out;have AO:kids d=pre++x :: post:=by rw[←KD];simp
  have OI:St W ρ P A f J:=it.frm (h3.wide fun k _ e=>hρ k (by rcases e with e | e;omega;exact e.1));have FG:w7.heap.size≤W.heap.size:=h3.size;have L1:=IH pre x post AO W va vc OI (by omega) h2;have r0:Boxed W B0 65 (.pointer (some ⟨P,0,none⟩)):=(h3.block _ v0.lt fun e=>by
   rcases e with e | ⟨_,cs,e⟩
   ·omega
   ·exact(show IsC w7 B0 _ _ from v0).type_ne e (by decide) rfl).trans v0
  have rn:IsC W w2.heap.size #[.pointer (some ⟨q,0,none⟩)] 112:=EC.frm h3 fun e=>by
   rcases e with e | ⟨_,cs,e⟩
   ·omega
   ·exact EC.type_ne e (by decide) rfl
  have j0:=r0.cell;have j1:=h1.cell;have HH:=aA (aI h1 h3);have yx:=aA FG;have HR:=aA rn;obtain⟨LL,IW⟩:=eZ (l++pre.flatMap V);have Uk:=aA IW;rw[IW]at L1 j1;clear h1 h2 h3 KD AO OI FG rn IW e1 e2 Bw;gi_wp2;refine⟨fun _=>by omega,(CallsIn.inRound l' (hF.calls _ _ _ _ _ L1)).mono ?_⟩;rintro e W2 ⟨⟨u2,rfl,CH⟩,du⟩;obtain⟨va2,vc2,rfl⟩:=CH.sl.len;obtain⟨h1,h3⟩:=HH.out;rw[Uk.out]at h1;have RT:∀{k:Nat} {cs:Array Value} {t:TypeId},IsC W k cs t→t≠85→¬AvZ 85 base W k:=fun hk ht e=>by
   obtain⟨_,cs,e⟩:=e;exact hk.type_ne e ht rfl
  have q4:Boxed W2 B1 40 (.slice va LL.length vc):=(du.block B1 h1.lt (RT (show IsC W B1 _ _ from h1) (by decide))).trans h1;have q5:=q4.cell;have q6:=q4.frozen;have FG:=yx.out;have rn:=HR.out;obtain⟨N2,sa⟩:=eZ (l++(pre++[x]).flatMap V);rw[sa]at CH;have O3:=aA sa;rw[sa];obtain⟨W3,Aq⟩:=eZ (W2.setCell ⟨B1,0,none⟩ (.slice va2 N2.length vc2));have io:∀k,k<W.heap.size→k≠B1→¬AvZ 85 base W k→W3.heap[k]?=W.heap[k]?:=fun k hk e1 e2=>by
   rw[←Aq];exact(aZ W2 _ e1).trans (du.block k hk e2)
  have bd:W.heap.size≤W3.heap.size:=by rw[←Aq];exact lT du.size (Nat.le_of_eq (cZ (g:=B1) [_] W2 0).symm)
  have lc:KeepsFrom w7.heap.size W W3:=⟨bd,fun k o hk ze ho=>(io k (Array.getElem?_eq_some_iff.1 ze).1 (by have:=v1.lt;omega) fun e=>by
   obtain⟨_,cs,e⟩:=e;have e':W.heap[k]?=some (.cells cs 85 (0,0)):=e;rw[ze]at e';cases e';cases ho).trans ze⟩
  have av:∀k,k<base→k≠B1∧¬AvZ 85 base W k:=fun k hk=>⟨by omega,fun e=>by have:=e.1;omega⟩;have vn:KpC w2.heap.size q (A.α b) W W3:=⟨bd,io _ rn.lt (by have:=HE.out;omega) (RT rn (by decide)),io q (by omega) (av q Hb).1 (av q Hb).2,fun g e=>io g (by have:=pn g e;omega) (av g (pn g e)).1 (av g (pn g e)).2⟩;have bx:Boxed W3 B1 40 (.slice va2 N2.length vc2):=by rw[←Aq];exact q4.set _
  have vw:yI.Own base W3 (.slice va2 N2.length vc2) N2:=by
   obtain⟨a9,j9,z1,z2,z3⟩:=CH;rw[←Aq];exact⟨a9,j9,z1,z2.frm (Frm.set (S:=fun k=>k=B1) W2 (p:=⟨B1,0,none⟩) rfl _) fun g e=>((show IsC W2 B1 _ _ from q4).type_ne (z2.arr g e) (by decide)).symm,z3⟩
  have bu:Frm (fun k=>k=B1∨AvZ 85 base w7 k) w7 W3:=by
   rw[←Aq];exact AvZ.next1 h3 ((du.wide fun k _ e=>.inr e).trans (Frm.set W2 (p:=⟨B1,0,none⟩) (.inl rfl) _))
  have HF:=aA (aI lc (aI vn (aI bx (aI vw bu))));clear lc vn bx vw bu io av RT du CH q4 h1 h3 bd sa L1 rn FG;gi_wp2;obtain⟨lc,vn,bx,vw,bu⟩:=HF.out;rw[←O3.out]at bx vw;exact⟨lc,vn,va2,vc2,bx,vw,bu⟩
 ·rintro D W hD ⟨va,vc,h1,h2,h3⟩ hK
  have j1:=h1.cell;obtain⟨e1,e2⟩:=HE.out;have vp:∀k,k<base→¬(k=B1∨AvZ 85 base w7 k):=fun k hk e=>by
   rcases e with e | e
   ·omega
   ·have:=e.1;omega
  have L9:aK W q d (A.α b) junk:=L7.frm h3 (vp q Hb) fun g hg=>vp g (pn g hg);have n0:W.cell? ⟨q,0,none⟩=some (.int .i64 d.1):=by rw[L9.box.cell];rfl
  have n1:W.cell? ⟨q,1,none⟩=some (.slice (adr (A.α b)) d.2.length (d.2.length+junk.length)):=by rw[L9.box.cell];rfl
  have FG:w7.heap.size≤W.heap.size:=h3.size;have je:Hid (∀wr va vc,yI.Own base wr (.slice va (l++(kids d).flatMap V++lfI d).length vc) (l++(kids d).flatMap V++lfI d)→Frm (fun k=>k=B1∨AvZ 85 base W k) W wr→∃w',(Instr.takeDeferred D).run Tryz.prog wr=.ok [] w'∧AiP w base (l++(kids d).flatMap V++lfI d) (.returned (.slice va (l++(kids d).flatMap V++lfI d).length vc)) w'):=fun wr va vc ho hf=>by
   have VQ:¬(D=B1∨AvZ 85 base W D):=fun e=>by
    rcases e with e | ⟨_,cs,e⟩
    ·have:=v1.lt;omega
    ·have e':W.heap[D]?=some (.cells cs 85 (0,0)):=e
     rw[hK]at e';cases e'
   have S8:wr.heap[D]?=some (.deferred (some [])):=(hf.block D (Array.getElem?_eq_some_iff.1 hK).1 VQ).trans hK;have bm:wr.grownBy (wr.putObj D (.deferred none)) (some D):=grownBy_putObj' wr D _;refine⟨_,run_takeDeferred S8,⟨_,rfl,ho.grow bm fun r e=>by cases e;exact⟨_,S8,rfl⟩⟩,?_⟩;exact(AvZ.next IL (AvZ.next1 h3 hf) Xc).own bm fun x e=>by cases e;have:=IL.size;omega
  rename_i kk ow
  refine ow _ _ (hC ?_);clear ow kk hK h3 L7 EC it vp HE e1 e2 TD v0 v1 IH IL;rcases ie with fw | uh
  ·obtain⟨k,es⟩:=d
   simp only at fw
   subst fw;have ul:lfI (1,es)=es.map fun e=>(e.1,e.2.1):=by simp[lfI]
   rw[ul]at je;simp only at n0 n1 fj;obtain⟨LL,IW⟩:=eZ (l++(kids (1,es)).flatMap V);rw[IW]at h1 h2 j1 je Bb;obtain⟨ag,oj,LN,d5,E5⟩:=h2;rw[LN]at h1;have S9:LfR W base B1 (LL++(es.take 0).map fun e:E3=>(e.1,e.2.1)) W:=by simpa using (⟨⟨ag,oj,h1,d5,E5⟩,Frm.refl _ _⟩:LfR W base B1 LL W)
   have Up:=aA L9;have HQ:=aA (aI IW ul);clear IW LN d5 E5 h1 j1 L9 ul;go_wp2;go_loopw [34] (fun i wr=>∃j:Nat,j≤es.length∧i=.int .i64 j∧LfR W base B1 (LL++(es.take j).map fun e:E3=>(e.1,e.2.1)) wr) (fun i _=>es.length -(intOf i).toNat)
   case atStart=>exact⟨0,by omega,rfl,S9⟩
   case round=>
    obtain⟨j,hj,rfl,hR⟩:=hrel;by_cases ai:j<es.length
    ·have dm:(j:Int) <(es.length:Int):=by omega
     have qk:Hid (j+1≤es.length):=ai;have LK:W.heap.size≤wr.heap.size:=hR.frm.size;have DJ:aK wr q (1,es) (A.α b) junk:=Up.out.frm hR.frm (fun e=>by
      rcases e with e | e
      ·omega
      ·have:=e.1;omega) fun g hg e=>by
      have:=pn g hg
      rcases e with e | e
      ·omega
      ·have:=e.1;omega
     obtain⟨g,Tq,ue,_⟩:=DJ.some (by simp only;omega);obtain⟨y0,y1,y2⟩:=bF ue (i:=j) (by simp;omega);have eg:(es++junk).getD j e0=es.getD j e0:=by rw[cM,if_pos ai]
     simp only at y0 y1 y2
     rw[eg]at y0 y1 y2;have Kd:adr (A.α b)=some ⟨g,0,none⟩:=by rw[Tq];rfl
     have HS:Hid (LL++((es.take (j+1)).map fun e:E3=>(e.1,e.2.1))=(LL++(es.take j).map fun e:E3=>(e.1,e.2.1))++[((es.getD j e0).1,(es.getD j e0).2.1)]):=by
      show _=_
      rw[cC es j e0 ai,List.map_append,List.append_assoc];rfl
     have ah:(LL++(es.take j).map fun e:E3=>(e.1,e.2.1)).length<1000000:=by
      rw[lP,List.length_map,List.length_take];omega
     generalize (es.getD j e0).1=kx at *;generalize (es.getD j e0).2.1=vx at *;generalize (es.getD j e0).2.2=cx at *;generalize LL++(es.take j).map (fun e:E3=>(e.1,e.2.1))=pm at *;obtain⟨⟨ag,oj,bj,d5,E5⟩,wm⟩:=hR;obtain⟨C,VM⟩:=eZ (wr.heap.size);obtain⟨wr1,Nc⟩:=eZ (wr.alloc (.cells #[.string kx,.string vx,.int .i64 cx] 110));have qo:=bAl Nc;have QY:=iNw Nc VM;have c0:wr1.cell? ⟨C,0,none⟩=some (.string kx):=QY.c rfl;have c1:wr1.cell? ⟨C,1,none⟩=some (.string vx):=QY.c rfl;have EG:Boxed wr1 B1 40 (.slice (adr ag) pm.length (pm.length+oj.length)):=(qo.block _ bj.lt).trans bj;have jb:=EG.cell;have qg:=d5.frm (Frm.of_below (S:=fun _=>False) qo) fun _ _=>id;have qm:Hid (∀a' junk' w',yI.Rw w' a' (pm++[(kx,vx)]) junk'→(∀g,a'=some g→ag=some g∨wr1.heap.size≤g)→Frm (fun k=>ag=some k) wr1 w'→LfR W base B1 (pm++[(kx,vx)]) (w'.setCell ⟨B1,0,none⟩ (.slice (adr a') (pm++[(kx,vx)]).length ((pm++[(kx,vx)]).length+junk'.length)))∧Boxed w' B1 40 (.slice (adr ag) pm.length (pm.length+oj.length))):=fun a' junk' w' k1 k2 k3=>⟨LfR.step bj d5 E5 wm (by omega) qo k1 k2 k3,LfR.box bj d5 qo k3⟩;have Xw:=aA Kd;rw[Kd];clear DJ Tq ue Kd d5 bj wm E5 QY EG S9 n0 n1 eg LK;go_wp2_with (first | (at_builtin;refine yI.wpApp1F rfl _ _ rfl qg rfl (kx,vx) rfl rfl ah ?_;intro a' junk' w9 k1 k2 k3;have Kh:=qm.out a' junk' w9 k1 k2 k3;have q4:=Kh.2;have q5:=q4.cell;have q6:=q4.frozen;have Uc:=aA Kh.1;clear qm Kh k1 k2 k3 q4) | go_in);go_roundw
     case rel=>
      have e9:(pm++[(kx,vx)]).length=pm.length+1:=by simp
      have Kh:=Uc.out;rw[e9,←HS.out]at Kh;exact⟨j+1,qk.out,by go_num,Kh⟩
     case measure=>have Jk:=qk.out;simp[intOf];omega
    ·obtain rfl:j=es.length:=by omega
     rw[List.take_of_length_le (nR _)]at hR;obtain⟨⟨ag,oj,bj,d5,E5⟩,wm⟩:=hR;have jb:=bj.cell;obtain⟨w',R0,hP⟩:=je.out wr _ _ ⟨ag,oj,rfl,d5,E5⟩ wm;have HP:Hid (AiP w base (l++(kids (1,es)).flatMap V++lfI (1,es)) (.returned (.slice (adr ag) (LL++es.map fun e:E3=>(e.1,e.2.1)).length ((LL++es.map fun e:E3=>(e.1,e.2.1)).length+oj.length))) w'):=by
      show AiP _ _ _ _ _
      rw[HQ.out.2,HQ.out.1];exact hP
     generalize LL++es.map (fun e:E3=>(e.1,e.2.1))=fin at *;clear d5 E5 wm bj je hP;go_wp2;refine⟨by simp,.inl ⟨_,_,rfl,R0,?_⟩⟩;exact⟨_,by simp[results,Tryz.f45,go_sem],HP.out⟩
  ·have ul:lfI d=[]:=by simp[lfI,uh]
   rw[ul,List.append_nil]at je ⊢;rw[uh]at n0;obtain⟨w',R0,hP⟩:=je.out W va vc h2 (Frm.refl _ _);clear h2 h1 L9 ul n1;go_wp2;refine⟨by simp,.inl ⟨_,_,rfl,R0,?_⟩⟩;exact⟨_,by simp[results,Tryz.f45,go_sem],hP⟩
theorem mY{K:Int}{f:fZ}(hI:IC f)(hz:Sz K f)(ρ:Nat→Nat)(P:Nat)(A:Adr)(J:List aQ)(base:Nat)(hρ:∀k,base≤k→ρ k=0):
  ∀(h b:Nat) (lo hi:OB) (w:World) (ua:Option Addr) (cp:Nat) (l:List (ByteArray×ByteArray)),Ok f.nodes h b lo hi→St w ρ P A f J→base≤w.heap.size→yI.Own base w (.slice ua l.length cp) l→l.length+(aS f.nodes h b).length≤900000→
   Calls Tryz.prog 45 #[.pointer (some ⟨P,0,none⟩),.slice ua l.length cp,.int .i64 b] w (AiP w base (l++aS f.nodes h b))
 | 0,b,lo,hi,w,ua,cp,l,hk,hS,lm,ho,hf=>by
  obtain⟨es,af,so,_⟩:=hk;have ie:kids (1,es)=[]:=by simp[kids]
  have:=(callsIn_wide (n:=5)).1 (pH (K:=K) Fence.wide 5 (mX.wide _) (fun h=>wpIn_wide.2 h) rfl (nR _) w ρ P A f J b hS hz (1,es) af (.inl rfl) (fun q=>by cases q) base lm hρ ua cp l ho (fun _=>[]) (by rw[ie];simp;omega) (fun pre x post e=>by rw[ie]at e;simp at e))
  rw[ie,List.flatMap_nil,List.append_nil]at this;have e:aS f.nodes 0 b=lfI (1,es):=by simp[aS,cH af,lfI]
  rw[e];exact this
 | h+1,b,lo,hi,w,ua,cp,l,hk,hS,lm,ho,hf=>by
  obtain⟨es,af,so,av,h4,ow⟩:=hk;have ie:kids (2,es)=es.map ch:=by simp[kids]
  have cg:∀e∈es,0≤e.2.2:=fun e he=>by
   obtain⟨j,hj,rfl⟩:=cN he;have:=hI.child_pos af hj;omega
  have e:aS f.nodes (h+1) b=(kids (2,es)).flatMap fun c=>aS f.nodes h c:=by
   rw[ie,rU af,List.flatMap_map]
  rw[e]at hf;have:=(callsIn_wide (n:=5)).1 (pH (K:=K) Fence.wide 5 (mX.wide _) (fun h=>wpIn_wide.2 h) rfl (nR _) w ρ P A f J b hS hz (2,es) af (.inr rfl) (fun _=>cg) base lm hρ ua cp l ho (fun c=>aS f.nodes h c) (by rw[lP];exact hf) (fun pre x post AO W va vc OI Vx Wu=>by
   have jt:=aJY AO;rw[ie,List.length_map]at jt;have hx:x=kd es pre.length:=by
    rw[←jt.2];simp[kd,gD,jt.1]
   have ee:=congrArg (fun l=>(List.flatMap (fun c=>aS f.nodes h c) l).length) AO;simp only[List.flatMap_append,List.flatMap_cons,lP]at ee;have hC:=mY hI hz ρ P A J base hρ h x _ _ W va vc _ (by rw[hx];exact(ow pre.length jt.1).2) OI Vx Wu (by simp only[lP];omega);have e2:(pre++[x]).flatMap (fun c=>aS f.nodes h c)=pre.flatMap (fun c=>aS f.nodes h c)++aS f.nodes h x:=by simp
   rw[e2,←List.append_assoc];exact hC))
  have e3:lfI (2,es)=[]:=by simp[lfI]
  rw[e3,List.append_nil]at this;rw[e];exact this

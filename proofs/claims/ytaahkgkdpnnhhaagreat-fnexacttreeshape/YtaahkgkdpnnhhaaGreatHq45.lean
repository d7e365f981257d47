import Derived.Test.YtaahkgkdpnnhhaaGreatSq28
set_option maxHeartbeats 9999999
set_option maxRecDepth 99999
set_option linter.all false
namespace Go.Proofs.YtaahkgkdpnnhhaaGreat
open Go.RowKit Go.Shelf Fo
variable{K:Int}{B1 base t:Nat}{W W' w:World}
attribute [local go_sem] Oper.semAt_some
theorem Ely.Own.grow{α:Type}{Y:Ely α}{w':World}{u:Value}{l:List α}{row:Option Nat}(h:Y.Own base w u l)(hg:w.grownBy w' row)(hr:∀r,row=some r→∃o:Obj,w.heap[r]?=some o∧o.isCells=false):Y.Own base w' u l:=by
 obtain⟨a,junk,rfl,h1,h2⟩:=h;exact⟨a,junk,rfl,⟨fun g e=>(h1.arr g e).own hg hr,h1.nil,h1.small⟩,h2⟩
def AvZ(t base:Nat)(w:World)(k:Nat):Prop:=base≤k∧∃cs,IsC w k cs t
theorem AvZ.next(h:Frm (AvZ t base w) w W)(k:Frm (fun k=>k=B1∨AvZ t base W k) W W')(hB:w.heap.size≤B1):Frm (AvZ t base w) w W':=by
 refine⟨k.os.trans h.os,k.tape.trans h.tape,k.output.trans h.output,lT h.size k.size,fun x hx hn=>?_⟩;refine(k.block x (lL hx h.size) fun q=>?_).trans (h.block x hx hn);rcases q with q | ⟨q1,cs,q2⟩
 ·omega
 ·refine hn ⟨q1,cs,?_⟩
  unfold IsC at q2 ⊢;rw[←h.block x hx hn];exact q2
theorem AvZ.next1(h:Frm (fun k=>k=B1∨AvZ t base w k) w W)(k:Frm (fun k=>k=B1∨AvZ t base W k) W W'):Frm (fun k=>k=B1∨AvZ t base w k) w W':=by
 refine⟨k.os.trans h.os,k.tape.trans h.tape,k.output.trans h.output,lT h.size k.size,fun x hx hn=>?_⟩;refine(k.block x (lL hx h.size) fun q=>?_).trans (h.block x hx hn);rcases q with q | ⟨q1,cs,q2⟩
 ·exact hn (.inl q)
 ·refine hn (.inr ⟨q1,cs,?_⟩)
  unfold IsC at q2 ⊢;rw[←h.block x hx hn];exact q2
structure AvP(w:World)(base:Nat)(l:List VW)(e:Ending)(w':World):Prop where
 ex:∃u,e=.returned u∧yW.Own base w' u l
 frm:Frm (AvZ 82 base w) w w'
theorem aFE{F:Fence}{n:Nat}{P:Program}{c:Code}{K:Act→World→Prop}{Q:Exit→Act→World→Prop}{a:Act}(h:c.wpIn F n P (Exit.then K (fun _ _ _=>False)) a w):c.wpIn F n P (Exit.then K Q) a w:=
 Code.wpIn_mono (fun e a w q=>by cases e<;>first | exact q | exact q.elim) h
theorem pH(F:Fence)(n:Nat)(hF:mU F Tryz.prog)(cy:F.round=none)(hn:5≤n)
  (w:World) (ρ:Nat→Nat) (P:Nat) (A:Adr) (f:fZ) (J:List aQ) (b:Nat) (hS:St w ρ P A f J) (hz:Sz K f) (d:Nd) (hd:f.nodes b=some d) (Av:d.1=2→∀e∈d.2,0≤e.2.2)
  (base:Nat) (lu:base≤w.heap.size) (hρ:∀k,base≤k→ρ k=0) (ua:Option Addr) (cp:Nat) (l:List VW) (ap:yW.Own base w (.slice ua l.length cp) l) (dp:Int) (WC:0≤dp∧dp≤90000) (V:Nat→List VW) (ug:l.length≤900000) (L:List VW) (hL:l++[((b:Int),dp,d.1,(d.2.length:Int),cu f b)]=L)
  (IH:∀(pre:List Nat) (x:Nat) (post:List Nat),kids d=pre++x :: post→∀(W:World) (va:Option Addr) (vc:Nat),St W ρ P A f J→base≤W.heap.size→yW.Own base W (.slice va (L++pre.flatMap V).length vc) (L++pre.flatMap V)→
   Calls Tryz.prog 42 #[.pointer (some ⟨P,0,none⟩),.slice va (L++pre.flatMap V).length vc,.int .i64 (x:Int),.int .i64 (dp+1)] W (AvP W base (L++(pre++[x]).flatMap V))):
  CallsIn F n Tryz.prog 42 #[.pointer (some ⟨P,0,none⟩),.slice ua l.length cp,.int .i64 b,.int .i64 dp] w (AvP w base (L++(kids d).flatMap V)):=by
 have nm:1≤n:=by omega
 have o9:∀k,F.fn k:=hF.fn;have CR:=aFU;have ft:d.2.length≤10:=hz.ent b d hd;have d5:b<f.cur.length:=hz.lt b d hd;have Vx:(b:Int) <(f.cur.length:Int):=by omega
 have WD:IntKind.i64.wrap (dp+1)=dp+1:=IntWalk.i64_in _ ⟨by omega,by omega⟩;obtain⟨B0,c9⟩:=eZ (w.heap.size);obtain⟨w1,be⟩:=eZ (w.alloc (.cells #[.pointer (some ⟨P,0,none⟩)] 65));have ao:=bAl be;have x0:Boxed w1 B0 65 (.pointer (some ⟨P,0,none⟩)):=by rw[←be,←c9];exact Boxed.new _ _ _
 obtain⟨B1,d9⟩:=eZ (w1.heap.size);obtain⟨w2,bw⟩:=eZ (w1.alloc (.cells #[.slice ua l.length cp] 34));have ba:=bAl bw;have x1:Boxed w2 B1 34 (.slice ua l.length cp):=by rw[←bw,←d9];exact Boxed.new _ _ _
 obtain⟨B2,cx⟩:=eZ (w2.heap.size);obtain⟨w3,dh⟩:=eZ (w2.alloc (.cells #[.int .i64 dp] 2));have ce:=bAl dh;have x2:Boxed w3 B2 2 (.int .i64 dp):=by rw[←dh,←cx];exact Boxed.new _ _ _
 have e1:B1=B0+1:=by rw[←d9,←be,←c9];simp
 have e2:B2=B0+2:=by rw[←cx,←bw];simp;omega
 have e3:w3.heap.size=B0+3:=by rw[←dh];simp;omega
 have oz:Bl w w3:=(ao.trans (ba.mono ao.size)).trans (ce.mono (lT ao.size ba.size));have y0:Boxed w3 B0 65 (.pointer (some ⟨P,0,none⟩)):=(ce.block _ (by omega)).trans ((ba.block _ (by omega)).trans x0);have y1:Boxed w3 B1 34 (.slice ua l.length cp):=(ce.block _ (by omega)).trans x1;have cq:=hS.below oz;obtain⟨ja3,jp3,jj3,mh,sy⟩:=id cq;obtain⟨p3,p4,p5,p7⟩:=mh.cells;have jh:=mh.count d5;obtain⟨q,hφ,wn,wl,junk,hN⟩:=mh.nd b d hd;have gk:(Instr.lookup 68 (.map (some A.m)) (.int .i64 b) false).run Tryz.prog w3=.ok (.pointer (some ⟨q,0,none⟩)) w3:=by
  have:=mh.hm.lookup b (by have:=hz.n512;omega)
  rw[hφ]at this;simpa only[eQ,Option.map_some] using this
 have VY:P<base:=Nat.lt_of_not_le fun q=>by have:=hρ P q;rw[mh.rP]at this;omega
 have pp:A.c<base:=Nat.lt_of_not_le fun q=>by have:=hρ _ q;rw[mh.rc]at this;omega
 have GF:q<base:=Nat.lt_of_not_le fun e=>by have:=hρ _ e;rw[wn]at this;unfold cE at this;omega
 have pz:∀g,A.α b=some g→g<base:=fun g hg=>Nat.lt_of_not_le fun e=>by have:=hρ _ e;rw[wl g hg]at this;unfold cB at this;omega
 obtain⟨na,nc,hna,AS⟩:∃na nc,adr (A.α b)=na∧d.2.length+junk.length=nc:=⟨_,_,rfl,rfl⟩;have n0:w3.cell? ⟨q,0,none⟩=some (.int .i64 d.1):=by rw[hN.box.cell];rfl
 have n1:w3.cell? ⟨q,1,none⟩=some (.slice na d.2.length nc):=by rw[hN.box.cell,←hna,←AS];rfl
 have k0:=y0.cell;have k1:=y1.cell;have k2:=x2.cell;have HK:Hid (∀W:World,(∀k,k<w3.heap.size→(k<base∨k=B0∨k=B1∨k=B2)→W.heap[k]?=w3.heap[k]?)→W.cell? ⟨B0,0,none⟩=some (.pointer (some ⟨P,0,none⟩))∧W.cell? ⟨B1,0,none⟩=some (.slice ua l.length cp)∧W.cell? ⟨B2,0,none⟩=some (.int .i64 dp)∧W.cell? ⟨q,0,none⟩=some (.int .i64 d.1)∧W.cell? ⟨q,1,none⟩=some (.slice na d.2.length nc)∧W.cell? ⟨P,4,none⟩=some (.slice (some ⟨A.c,0,none⟩) f.cur.length f.cur.length)∧W.cell? ⟨A.c,b,none⟩=some (.int .i64 (cu f b))):=fun W hW=>by
  have hc:∀g o,g<base∨g=B0∨g=B1∨g=B2→W.cell? ⟨g,o,none⟩=w3.cell? ⟨g,o,none⟩:=fun g o hg=>by
   have:=hW g (by omega) hg
   simp[World.cell?,this]
  exact⟨(hc _ _ (by omega)).trans k0,(hc _ _ (by omega)).trans k1,(hc _ _ (by omega)).trans k2,(hc _ _ (.inl GF)).trans n0,(hc _ _ (.inl GF)).trans n1,(hc _ _ (.inl VY)).trans p4,(hc _ _ (.inl pp)).trans jh⟩
 have HE:=aA (aI e1 (aI e2 e3));have ak:=HK.out w3.drew fun _ _ _=>rfl;have M5:=ap.below oz;refine callsIn_of_wp_marks Tryz.func42 rfl (hF.fn _) ?_ cy;simp only[Tryz.ntmps42,List.size_toArray,List.length_cons,List.length_nil,Nat.reduceAdd,Nat.reduceSub,Array.replicate_succ,Array.replicate_zero,List.push_toArray,List.append_toArray,List.nil_append,List.cons_append];clear e1 e2 e3;gi_wp2;refine aFE ?_;refine gI (fun W=>W.cell? ⟨B0,0,none⟩=some (.pointer (some ⟨P,0,none⟩))∧W.cell? ⟨B1,0,none⟩=some (.slice ua l.length cp)∧W.cell? ⟨B2,0,none⟩=some (.int .i64 dp)∧W.cell? ⟨q,0,none⟩=some (.int .i64 d.1)∧W.cell? ⟨q,1,none⟩=some (.slice na d.2.length nc)∧W.cell? ⟨P,4,none⟩=some (.slice (some ⟨A.c,0,none⟩) f.cur.length f.cur.length)∧W.cell? ⟨A.c,b,none⟩=some (.int .i64 (cu f b))) 22 hF (fun _=>by omega) (by kernel_rfl) ?_ (by kernel_rfl) ?_
 ·rintro⟨a,w,h⟩;exact h
 refine tJ 0 17 (.slice ua l.length cp) rfl ak ?_;simp only[Act.put,sB,sZ,sS];refine tJ 1 18 (.int .i64 b) rfl ak ?_;simp only[Act.put,sB,sZ,sS];refine tJ 2 19 (.int .i64 dp) rfl ak ?_;simp only[Act.put,sB,sZ,sS];refine tJ 3 20 (.pointer (some ⟨q,0,none⟩)) rfl ak ?_;simp only[Act.put,sB,sZ,sS];refine tJ 4 21 (.pointer (some ⟨q,0,none⟩)) rfl ak ?_;simp only[Act.put,sB,sZ,sS];refine tJ 5 22 (.pointer (some ⟨q,0,none⟩)) rfl ak ?_;simp only[Act.put,sB,sZ,sS];refine tJ 6 23 (.int .i64 d.1) rfl ak ?_;simp only[Act.put,sB,sZ,sS];refine tJ 7 24 (.pointer (some ⟨q,0,none⟩)) rfl ak ?_;simp only[Act.put,sB,sZ,sS];refine tJ 8 25 (.pointer (some ⟨q,0,none⟩)) rfl ak ?_;simp only[Act.put,sB,sZ,sS];refine tJ 9 26 (.pointer (some ⟨q,1,none⟩)) rfl ak ?_;simp only[Act.put,sB,sZ,sS];refine tJ 10 27 (.slice na d.2.length nc) rfl ak ?_;simp only[Act.put,sB,sZ,sS];refine tJ 11 28 (.int .i64 d.2.length) rfl ak ?_;simp only[Act.put,sB,sZ,sS];refine tJ 12 29 (.pointer (some ⟨P,0,none⟩)) rfl ak ?_;simp only[Act.put,sB,sZ,sS];refine tJ 13 30 (.pointer (some ⟨P,0,none⟩)) rfl ak ?_;simp only[Act.put,sB,sZ,sS];refine tJ 14 31 (.pointer (some ⟨P,4,none⟩)) rfl ak ?_;simp only[Act.put,sB,sZ,sS];refine tJ 15 32 (.slice (some ⟨A.c,0,none⟩) f.cur.length f.cur.length) rfl ak ?_;simp only[Act.put,sB,sZ,sS];refine tJ 16 33 (.int .i64 b) rfl ak ?_;simp only[Act.put,sB,sZ,sS];refine tJ 17 34 (.pointer (some ⟨A.c,b,none⟩)) rfl ak ?_;simp only[Act.put,sB,sZ,sS];refine tJ 18 35 (.int .i64 (cu f b)) rfl ak ?_;simp only[Act.put,sB,sZ,sS];refine tJ 19 36 (.agg #[.int .i64 b,.int .i64 dp,.int .i64 d.1,.int .i64 d.2.length,.int .i64 (cu f b)]) rfl ak ?_;simp only[Act.put,sB,sZ,sS];refine oE 20 rfl fun K2 ae=>?_;go_simp;obtain⟨ag,oj,LC,GI,OL⟩:=ap;obtain⟨B3,Od⟩:=exH (w3.heap.size);obtain⟨w4,Cf⟩:=exH ((w3.alloc (.cells #[.int .i64 b,.int .i64 dp,.int .i64 d.1,.int .i64 d.2.length,.int .i64 (cu f b)] 82)).drew);rw[←Cf.out,←Od.out];have jq:Bl w3 w4:=by rw[Cf.out];exact((bQ _ w3).alloc (nR _) _).drew
 have C4:yW.Sl w4 (.slice (some ⟨B3,0,none⟩) 1 1) [((b:Int),dp,d.1,(d.2.length:Int),cu f b)]:=by rw[Cf.out,Od.out];exact(Ely.Sl.new (Y:=yW) w3 ((b:Int),dp,d.1,(d.2.length:Int),cu f b) rfl).below (bQ _ _).drew
 have re:=oz.trans (jq.mono oz.size);have Sg:=aA LC;clear LC;have NF:=GI.frm (Frm.of_below (S:=fun _=>False) re) fun _ _=>id;have Br:=HK.out w4 fun k hk _=>jq.block k hk;refine ae _ _ (fun _=>Br) ?_;clear ae K2 ak;obtain⟨u',w5,a',junk',hr,NU,k1',k2',k3'⟩:=yW.append ag l oj [((b:Int),dp,d.1,(d.2.length:Int),cu f b)] _ _ NF C4 (by simp;omega);rw[←lP,hL]at NU;rw[hL]at k1';refine oE 21 rfl fun K2 ae=>?_;refine kE (.tmp 17) (.tmp 37) _ _ (by rfl) (.slice ua l.length cp) (.slice (some ⟨B3,0,none⟩) 1 1) (by rfl) (by rfl) u' w5 (by rw[Sg.out];exact hr _) ?_;have BS:∀g,ag=some g→base≤g∧g<B0:=fun g e=>⟨OL g e,by rw[←c9];exact(GI.arr g e).lt⟩;have AD:∀k,k<w3.heap.size→(k<base∨k=B0∨k=B1∨k=B2)→w5.heap[k]?=w3.heap[k]?:=fun k hk hx=>by
  obtain⟨e1,e2,e3⟩:=HE.out;exact(k3'.block k (lL hk jq.size) fun e=>by have:=BS k e;omega).trans (jq.block k hk)
 have ly:=HK.out w5 AD;refine ae _ _ (fun _=>ly) ?_;clear ae K2 Br;obtain⟨va,vc,hva⟩:∃va vc,u'=.slice va L.length vc:=⟨_,_,NU⟩;have Dq:yW.Own base w5 (.slice va L.length vc) L:=⟨a',junk',by rw[←hva];exact NU,k1',fun g e=>(k2' g e).elim (fun q=>(BS g q).1) fun q=>lT (lT lu re.size) q⟩;have L3:∀g,a'=some g→g≠B1:=fun g e=>by
  obtain⟨e1,e2,e3⟩:=HE.out;have:=jq.size;rcases k2' g e with q | q
  ·have:=BS g q;omega
  ·omega
 subst hva;have Sf:=aA NU;clear NU;simp only[Act.put,sB,sZ,sS];have z1:Boxed w5 B1 34 (.slice ua l.length cp):=(AD B1 (by have:=HE.out;omega) (by omega)).trans y1;have Gt:=z1.frozen;refine oE 22 rfl fun K2 ae=>?_;go_simp;refine ae _ _ (fun q=>absurd rfl q) ?_;clear ae K2;refine aS (by kernel_rfl) ?_ _;obtain⟨e1,e2,e3⟩:=HE.out;obtain⟨w6,rx⟩:=eZ (w5.setCell ⟨B1,0,none⟩ (.slice va L.length vc));rw[rx];have Rl:w6.heap.size=w5.heap.size:=by rw[←rx];exact cN (g:=B1) [_] w5 0
 have EE:∀k,k≠B1→w6.heap[k]?=w5.heap[k]?:=fun k hk=>by rw[←rx];exact aX w5 _ hk
 have Ll:Frm (fun k=>base≤k) w3 w5:=(Frm.of_below jq).trans (k3'.wide fun k _ e=>(BS k e).1);have IM:Frm (fun k=>base≤k) w3 w6:=by rw[←rx];exact Ll.trans (Frm.set w5 (p:=⟨B1,0,none⟩) (show base≤B1 by omega) _)
 have Li:Frm (AvZ 82 base w) w w6:=by
  rw[←rx];exact((Frm.of_below re).next k3' fun x hx e=>⟨(BS x e).1,_,GI.arr x e⟩).put _ _ fun q=>by exfalso;have q':B1<w.heap.size:=q;omega
 have t0:Boxed w6 B0 65 (.pointer (some ⟨P,0,none⟩)):=(EE B0 (by omega)).trans ((AD B0 (by omega) (by omega)).trans y0);have t2:Boxed w6 B2 2 (.int .i64 dp):=(EE B2 (by omega)).trans ((AD B2 (by omega) (by omega)).trans x2);have t1:Boxed w6 B1 34 (.slice va L.length vc):=by rw[←rx];exact z1.set _
 have S9:yW.Own base w6 (.slice va L.length vc) L:=by
  rw[←rx];exact⟨a',junk',Sf.out,k1'.frm (Frm.set (S:=fun k=>k=B1) w5 (p:=⟨B1,0,none⟩) rfl _) L3,fun g e=>(k2' g e).elim (fun q=>(BS g q).1) fun q=>lT (lT lu re.size) q⟩
 have XH:w3.heap.size≤w6.heap.size:=IM.size;clear ly hr Sf k1' k2' k3' Dq L3 C4 NF Cf Od AD EE Gt z1 rx jq re Ll Sg Rl HK gk p3 p4 p5 p7 jh n0 n1 k0 k1 k2 e1 e2 e3;gi_wp2_with (gi_at_call 59;refine(kN F (n-1) (hF.fn _) cy _ _).mono ?_;rintro e w' ⟨rfl,rfl⟩);obtain⟨e1,e2,e3⟩:=HE.out;have FR:Bl w6 (w6.alloc (.cells #[.pointer (some ⟨q,0,none⟩)] 112)):=(bQ _ w6).alloc (nR _) _;have Fp:IsC (w6.alloc (.cells #[.pointer (some ⟨q,0,none⟩)] 112)) w6.heap.size #[.pointer (some ⟨q,0,none⟩)] 112:=IsC.new _ _ _;have Bx:(w6.alloc (.cells #[.pointer (some ⟨q,0,none⟩)] 112)).heap.size=w6.heap.size+1:=by simp
 generalize P8:w6.alloc (.cells #[.pointer (some ⟨q,0,none⟩)] 112)=w7 at *;have BH:Frm (fun k=>base≤k) w3 w7:=IM.trans (Frm.of_below FR);have Lj:Frm (AvZ 82 base w) w w7:=Li.trans (Frm.of_below FR);have Po:aM w7 q d (A.α b) junk:=hN.frm BH (by omega) (fun g e=>by have:=pz g e;omega);have iz:St w7 ρ P A f J:=cq.frm (BH.wide fun k _ e=>hρ k e);have v0:Boxed w7 B0 65 (.pointer (some ⟨P,0,none⟩)):=(FR.block _ (by omega)).trans t0;have v1:Boxed w7 B1 34 (.slice va L.length vc):=(FR.block _ (by omega)).trans t1;have v2:Boxed w7 B2 2 (.int .i64 dp):=(FR.block _ (by omega)).trans t2;have VV:=S9.below FR;have C2:q<w7.heap.size:=Po.box.lt;have Vz:base≤w7.heap.size:=by omega
 have Xa:w.heap.size≤B1:=by omega
 clear cq mh sy hN IM Li t0 t1 t2 S9 P8 FR oz ao ba ce be bw dh x0 x1 x2 y0 y1 M5 hS hL CR hφ wn wl hna AS GI BS OL e1 e2 e3;refine jD cy nm (gf:=82) (lb:=#[.pointer (some ⟨w6.heap.size,0,none⟩)]) rfl (o9 _) (enters_of Tryz.func82 (by kernel_rfl) rfl)
  (jQ F (n-1) (o9 _) cy (by omega) w6.heap.size q d (A.α b) junk ft Av w7 Fp Po) KpC.trans (KpC.put Fp.lt C2 (fun g e=>(Po.arr g e).1.lt)) (bQ _ _) rfl
  (fun pre W=>∃va vc,Boxed W B1 34 (.slice va (L++pre.flatMap V).length vc)∧yW.Own base W (.slice va (L++pre.flatMap V).length vc) (L++pre.flatMap V)∧Frm (fun k=>k=B1∨AvZ 82 base w7 k) w7 W)
  ?_ ⟨va,vc,by simpa using v1,by simpa using VV,Frm.refl _ _⟩ ?_ ?_
 ·rintro pre X Y row ⟨va,vc,h1,h2,h3⟩ hg jr
  have AS:∀x,row=some x→w7.heap.size≤x:=fun x e=>(jr x e).1;have e1:=HE.out;exact⟨va,vc,h1.kept hg fun e=>by have:=AS _ e.symm;omega,h2.grow hg fun r e=>(jr r e).2,h3.own hg AS⟩
 ·intro l' pre x W hi lg
  gi_wp2
  refine⟨trivial,?_⟩;clear hi;rintro W ⟨va,vc,h1,h2,h3⟩;obtain⟨post,KC⟩:=lg;obtain⟨e1,e2,e3⟩:=HE.out;have AN:kids d=pre++x :: post:=by rw[←KC];simp
  have OG:St W ρ P A f J:=iz.frm (h3.wide fun k _ e=>hρ k (by rcases e with e | e;omega;exact e.1));have GK:w7.heap.size≤W.heap.size:=h3.size;have Lt:=IH pre x post AN W va vc OG (by omega) h2;have r0:Boxed W B0 65 (.pointer (some ⟨P,0,none⟩)):=(h3.block _ v0.lt fun e=>by
   rcases e with e | ⟨_,cs,e⟩
   ·omega
   ·exact(show IsC w7 B0 _ _ from v0).type_ne e (by decide) rfl).trans v0
  have r2:Boxed W B2 2 (.int .i64 dp):=(h3.block _ v2.lt fun e=>by
   rcases e with e | ⟨_,cs,e⟩
   ·omega
   ·exact(show IsC w7 B2 _ _ from v2).type_ne e (by decide) rfl).trans v2
  have rn:IsC W w6.heap.size #[.pointer (some ⟨q,0,none⟩)] 112:=Fp.frm h3 fun e=>by
   rcases e with e | ⟨_,cs,e⟩
   ·omega
   ·exact Fp.type_ne e (by decide) rfl
  have j0:=r0.cell;have j1:=h1.cell;have j2:=r2.cell;have HH:=aA (aI h1 h3);have yq:=aA GK;have HR:=aA rn;obtain⟨LL,Pm⟩:=eZ (L++pre.flatMap V);have Uh:=aA Pm;rw[Pm]at Lt j1;clear h1 h2 h3 KC AN OG GK rn Pm e1 e2 e3 Bx;gi_wp2;refine⟨fun _=>by omega,(CallsIn.inRound l' (hF.calls _ _ _ _ _ Lt)).mono ?_⟩;rintro e W2 ⟨⟨u2,rfl,Dp⟩,du⟩;obtain⟨va2,vc2,rfl⟩:=Dp.sl.len;obtain⟨h1,h3⟩:=HH.out;rw[Uh.out]at h1;have RU:∀{k:Nat} {cs:Array Value} {t:TypeId},IsC W k cs t→t≠82→¬AvZ 82 base W k:=fun hk ht e=>by
   obtain⟨_,cs,e⟩:=e;exact hk.type_ne e ht rfl
  have q4:Boxed W2 B1 34 (.slice va LL.length vc):=(du.block B1 h1.lt (RU (show IsC W B1 _ _ from h1) (by decide))).trans h1;have q5:=q4.cell;have q6:=q4.frozen;have GK:=yq.out;have rn:=HR.out;obtain⟨N2,sc⟩:=eZ (L++(pre++[x]).flatMap V);rw[sc]at Dp;have O2:=aA sc;rw[sc];obtain⟨W3,yy⟩:=eZ (W2.setCell ⟨B1,0,none⟩ (.slice va2 N2.length vc2));have il:∀k,k<W.heap.size→k≠B1→¬AvZ 82 base W k→W3.heap[k]?=W.heap[k]?:=fun k hk e1 e2=>by
   rw[←yy];exact(aX W2 _ e1).trans (du.block k hk e2)
  have bd:W.heap.size≤W3.heap.size:=by rw[←yy];exact lT du.size (Nat.le_of_eq (cN (g:=B1) [_] W2 0).symm)
  have lc:KeepsFrom w7.heap.size W W3:=⟨bd,fun k o hk y8 ho=>(il k (Array.getElem?_eq_some_iff.1 y8).1 (by have:=v1.lt;omega) fun e=>by
   obtain⟨_,cs,e⟩:=e;have e':W.heap[k]?=some (.cells cs 82 (0,0)):=e;rw[y8]at e';cases e';cases ho).trans y8⟩
  have av:∀k,k<base→k≠B1∧¬AvZ 82 base W k:=fun k hk=>⟨by omega,fun e=>by have:=e.1;omega⟩;have vi:KpC w6.heap.size q (A.α b) W W3:=⟨bd,il _ rn.lt (by have:=HE.out;omega) (RU rn (by decide)),il q (by omega) (av q GF).1 (av q GF).2,fun g e=>il g (by have:=pz g e;omega) (av g (pz g e)).1 (av g (pz g e)).2⟩;have ce:Boxed W3 B1 34 (.slice va2 N2.length vc2):=by rw[←yy];exact q4.set _
  have wy:yW.Own base W3 (.slice va2 N2.length vc2) N2:=by
   obtain⟨a9,j9,z1,z2,z3⟩:=Dp;rw[←yy];exact⟨a9,j9,z1,z2.frm (Frm.set (S:=fun k=>k=B1) W2 (p:=⟨B1,0,none⟩) rfl _) fun g e=>((show IsC W2 B1 _ _ from q4).type_ne (z2.arr g e) (by decide)).symm,z3⟩
  have bu:Frm (fun k=>k=B1∨AvZ 82 base w7 k) w7 W3:=by
   rw[←yy];exact AvZ.next1 h3 ((du.wide fun k _ e=>.inr e).trans (Frm.set W2 (p:=⟨B1,0,none⟩) (.inl rfl) _))
  have HF:=aA (aI lc (aI vi (aI ce (aI wy bu))));clear lc vi ce wy bu il av RU du Dp q4 h1 h3 bd sc Lt rn GK;gi_wp2;obtain⟨lc,vi,ce,wy,bu⟩:=HF.out;rw[←O2.out]at ce wy;exact⟨lc,vi,va2,vc2,ce,wy,bu⟩
 ·rintro D W hD ⟨va,vc,h1,h2,h3⟩ hK
  have j1:=h1.cell;have HF:=aA (aI h2 (aI h3 hK));clear h2 h3 hK;gi_wp2;obtain⟨h2,h3,hK⟩:=HF.out;have bm:W.grownBy (W.putObj D (.deferred none)) (some D):=grownBy_putObj' W D _;refine⟨by simp,.inl ⟨_,_,rfl,run_takeDeferred hK,?_⟩⟩;refine⟨_,by simp[results,Tryz.f42,go_sem],⟨⟨_,rfl,h2.grow bm fun r e=>by cases e;exact⟨_,hK,rfl⟩⟩,(AvZ.next Lj h3 Xa).own bm fun x e=>by cases e;have:=Lj.size;omega⟩⟩
theorem aJO{es pre post:List Nat}{x:Nat}(h:es=pre++x :: post):pre.length<es.length∧es.getD pre.length 0=x:=by
 subst h;simp
theorem mV{K:Int}{f:fZ}(hI:IC f)(hz:Sz K f)(ρ:Nat→Nat)(P:Nat)(A:Adr)(J:List aQ)(base:Nat)(hρ:∀k,base≤k→ρ k=0):
  ∀(h b:Nat) (lo hi:OB) (dp:Int) (w:World) (ua:Option Addr) (cp:Nat) (l:List VW),Ok f.nodes h b lo hi→St w ρ P A f J→base≤w.heap.size→yW.Own base w (.slice ua l.length cp) l→l.length+(cG f h b dp).length≤900000→0≤dp→dp+h≤90000→
   Calls Tryz.prog 42 #[.pointer (some ⟨P,0,none⟩),.slice ua l.length cp,.int .i64 b,.int .i64 dp] w (AvP w base (l++cG f h b dp))
 | 0,b,lo,hi,dp,w,ua,cp,l,hk,hS,lu,ho,hf,h0,h9=>by
  obtain⟨es,af,qg,_⟩:=hk;have iw:kids (1,es)=[]:=by simp[kids]
  have:=(callsIn_wide (n:=5)).1 (pH (K:=K) Fence.wide 5 (mU.wide _) rfl (nR _) w ρ P A f J b hS hz (1,es) af (fun q=>by cases q) base lu hρ ua cp l ho dp ⟨h0,by omega⟩ (fun _=>[]) (by omega) _ rfl (fun pre x post e=>by rw[iw]at e;simp at e))
  rw[iw,List.flatMap_nil,List.append_nil]at this;have e:cG f 0 b dp=[((b:Int),dp,1,(es.length:Int),cu f b)]:=by simp only[cG,pU,eW af]
  rw[e];exact this
 | h+1,b,lo,hi,dp,w,ua,cp,l,hk,hS,lu,ho,hf,h0,h9=>by
  obtain⟨es,af,qg,av,h4,pd⟩:=hk;have iw:kids (2,es)=es.map ch:=by simp[kids]
  have bz:∀e∈es,0≤e.2.2:=fun e he=>by
   obtain⟨j,hj,rfl⟩:=cY he;have:=hI.child_pos af hj;omega
  have e:cG f (h+1) b dp=((b:Int),dp,2,(es.length:Int),cu f b) ::(kids (2,es)).flatMap fun c=>cG f h c (dp+1):=by
   rw[iw];simp only[cG,pU,eW af,List.flatMap_map]
  have ah:((kids (2,es)).flatMap fun c=>cG f h c (dp+1)).length+1=(cG f (h+1) b dp).length:=by rw[e];simp
  have:=(callsIn_wide (n:=5)).1 (pH (K:=K) Fence.wide 5 (mU.wide _) rfl (nR _) w ρ P A f J b hS hz (2,es) af (fun _=>bz) base lu hρ ua cp l ho dp ⟨h0,by omega⟩ (fun c=>cG f h c (dp+1)) (by omega) _ rfl (fun pre x post AN W va vc OG Vs Wq=>by
   have jw:=aJO AN;rw[iw,List.length_map]at jw;have hx:x=kd es pre.length:=by
    rw[←jw.2];simp[kd,gD,jw.1]
   have d8:=congrArg (fun l=>(List.flatMap (fun c=>cG f h c (dp+1)) l).length) AN;simp only[List.flatMap_append,List.flatMap_cons,lP]at d8;have hC:=mV hI hz ρ P A J base hρ h x _ _ (dp+1) W va vc _ (by rw[hx];exact(pd pre.length jw.1).2) OG Vs Wq (by simp only[lP,List.length_cons,List.length_nil];omega) (by omega) (by omega);have e2:(pre++[x]).flatMap (fun c=>cG f h c (dp+1))=pre.flatMap (fun c=>cG f h c (dp+1))++cG f h x (dp+1):=by simp
   rw[e2,←List.append_assoc];exact hC))
  rw[e,show l++((b:Int),dp,2,(es.length:Int),cu f b) ::(kids (2,es)).flatMap (fun c=>cG f h c (dp+1))=(l++[((b:Int),dp,2,(es.length:Int),cu f b)])++(kids (2,es)).flatMap (fun c=>cG f h c (dp+1)) by simp];exact this

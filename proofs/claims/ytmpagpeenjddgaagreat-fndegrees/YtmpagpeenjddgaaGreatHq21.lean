import Derived.Test.YtmpagpeenjddgaaGreatHq16
set_option maxHeartbeats 9999999
set_option maxRecDepth 99999
set_option linter.all false
namespace Go.Proofs.YtmpagpeenjddgaaGreat
open Go.RowKit Go.Shelf Fo
variable{m t:Nat}
theorem tX(w:World)(p:TypeId)(b o n a:Nat)(hn:0<n)(hc:∀j,j<n*2->(w.cell? (aD b (o+j))).isSome=true)(h:∀j,j<n*2->w.frozen? (aD b (o+j))=false):
  (Builtin.clear_ #[56] p #[sL b o n a]).run Tryz.prog w=.ok (.tuple #[]) (w.setCells b o ((List.replicate n t0).flatMap aW)):=by
 have d:((List.replicate n t0).flatMap aW).length=n*2:=by rw[bY];simp
 have e:=run_storeCells_cells (P:=Tryz.prog) b o ((List.replicate n t0).flatMap aW) 0 w (by rw[d];simpa using hc) (by rw[d];simpa using h) (lW _);obtain⟨i,k,q,_,l⟩:=aDW;have f:(zeroValue 92).run Tryz.prog w=.ok (.agg #[iV 0,iV 0]) w:=by
  simp[zeroValue,typeInfo,k,l]
 have g:(Value.agg #[iV 0,iV 0]).cells=#[iV 0,iV 0]:=by kernel_rfl
 have c:(Builtin.zeroCells (Value.agg #[iV 0,iV 0]).cells n).toList=(List.replicate n t0).flatMap aW:=by rw[g,aKZ]
 generalize (Value.agg #[iV 0,iV 0])=Z at f c;generalize (List.replicate n t0).flatMap aW=L at *;obtain⟨m,rfl⟩:∃m,n=m+1:=⟨n-1,by omega⟩;simp at e;simp[Builtin.clear_,run_underlying Tryz.underlying56,f,c,e]
theorem vV(l:List (Int×Int))(t:Nat)(x y:Int)(ht:t<l.length):((cY l).setIfInBounds (t*2) (iV x)).setIfInBounds (t*2+1) (iV y)=cY (l.set t (x,y)):=by
 have key:∀(l:List (Int×Int)) (t:Nat),t<l.length->((l.flatMap aW).set (t*2) (iV x)).set (t*2+1) (iV y)=(l.set t (x,y)).flatMap aW:=by
  intro l;induction l with
  | nil=>intro t ht;simp at ht
  | cons e l ih=>
   intro t ht;have a:(aW e).length=2:=rfl;cases t with
   | zero=>simp[aW]
   | succ t=>
    simp only[List.flatMap_cons,List.set_cons_succ];rw[List.set_append_right _ _ (by rw[a];omega),a,List.set_append_right _ _ (by rw[a];omega),a,show(t+1)*2-2=t*2 by omega,show(t+1)*2+1-2=t*2+1 by omega,ih t (by simpa using ht)]
 unfold cY;rw[<-key l t ht];simp
def sh(rs:List (Int×Int))(t m:Nat):List (Int×Int):=(delE rs t).take (t+m)++rs.drop (t+m)
theorem aCO(rs:List (Int×Int))(ht:t<rs.length)(a:t+m+1<=rs.length):(sh rs t m).length=rs.length:=by
 have:=bU rs t ht
 unfold sh;simp only[lP,List.length_take,List.length_drop];omega
theorem aPQ(rs:List (Int×Int))(ht:t<rs.length):sh rs t 0=rs:=by
 unfold sh delE;rw[Nat.add_zero,List.take_append,List.length_take,show t-min t rs.length=0 by omega,List.take_take,show min t t=t by omega];simp
theorem aIY{l l':List (Int×Int)}(h:l.length=l'.length)(h2:∀j,j<l.length->l.getD j (0,0)=l'.getD j (0,0)):l=l':=by
 refine List.ext_getElem h fun i a b=>?_;have:=h2 i a;rw[gD,gD,gE a,gE b]at this;exact this
theorem aCN(rs:List (Int×Int))(ht:t<rs.length)(d:t+m+1<=rs.length)(j:Nat):(sh rs t m).getD j (0,0)=if j<t then rs.getD j (0,0)else if j<t+m then rs.getD (j+1) (0,0)else rs.getD j (0,0):=by
 have c:=bU rs t ht;unfold sh;rw[gD];by_cases b:j<t+m
 ·rw[List.getElem?_append_left (by rw[List.length_take];omega),List.getElem?_take,if_pos b,<-gD,iJ _ _ _ (by omega)]
  by_cases a:j<t
  ·rw[if_pos a,if_pos a]
  ·rw[if_neg a,if_neg a,if_pos b]
 ·rw[List.getElem?_append_right (by rw[List.length_take];omega),List.length_take,show min (t+m) (delE rs t).length=t+m by omega,List.getElem?_drop,show t+m+(j -(t+m))=j by omega,<-gD,if_neg (by omega),if_neg b]
theorem aMQ(rs:List (Int×Int))(ht:t<rs.length)(g:t+m+1<rs.length):(sh rs t m).set (t+m) (rs.getD (t+m+1) (0,0))=sh rs t (m+1):=by
 have c:=aCO rs (m:=m) ht (by omega);have d:=aCO rs (m:=m+1) ht (by omega);refine aIY (by simp;omega) fun j f=>?_;rw[bF _ _ _ _ _ (by omega),aCN rs ht (by omega),aCN rs ht (by omega)];by_cases e:j=t+m
 ·rw[if_pos e,if_neg (by omega),if_pos (by omega),e]
 ·rw[if_neg e]
  by_cases a:j<t
  ·rw[if_pos a,if_pos a]
  ·rw[if_neg a,if_neg a]
   by_cases b:j<t+m
   ·rw[if_pos b,if_pos (by omega)]
   ·rw[if_neg b,if_neg (by omega)]
theorem aOL(rs:List (Int×Int))(ht:t<rs.length)(rj:List (Int×Int)):(sh rs t (rs.length-1-t)++rj).set (rs.length-1) (0,0)=delE rs t++((0,0) :: rj):=by
 have b:=bU rs t ht;unfold sh;rw[show t+(rs.length-1-t)=rs.length-1 by omega,List.take_of_length_le (by omega),List.append_assoc,List.set_append_right _ _ (by omega),show rs.length-1 -(delE rs t).length=0 by omega];have:rs.drop (rs.length-1)=[rs.getD (rs.length-1) (0,0)]:=by
  have a:rs.length-1<rs.length:=by omega
  rw[List.drop_eq_getElem_cons a,List.drop_of_length_le (by omega),gD,gE a];rfl
 rw[this];rfl
theorem rU(g B t:Nat)(rs rj:List (Int×Int))(f g2:Int)(w:World)(Y:IsC w g (cY (rs++rj)) 92)(X:IsC w B #[iV f,iV g2] 92)(MH:g≠B)(ht:t<rs.length)(he:rs.getD t (0,0)=(f,g2))(au:∀i,i<rs.length->i≠t->rs.getD i (0,0)≠(f,g2))(hl:rs.length<=100)(hm:rs.length+rj.length<=maxLen):
  Calls Tryz.prog 107 #[sL g 0 rs.length (rs.length+rj.length),.func (.func 108) #[] #[pT B 0]] w fun e w'=>e=.returned (sL g 0 (rs.length-1) (rs.length+rj.length))/\IsC w' g (cY (delE rs t++((0,0) :: rj))) 92/\Frm (fun k=>k=g) w w':=by
 have ik:rs.length+rj.length<=9223372036854775807:=by simp[maxLen]at hm;omega
 go_enter Tryz.func107,Tryz.ntmps107
 go_wp2_with fail
 refine(uS g B _ t rs rj f g2 w Y X ht he (fun i hi=>au i (by omega) (by omega)) hl).mono ?_;rintro e w1 ⟨rfl,U⟩;have Sb:IsC w1 g (cY (rs++rj)) 92:=Y.of (U.block g Y.lt);have fe:IsC w1 B #[iV f,iV g2] 92:=X.of (U.block B X.lt);have EI:¬((t:Int)=-1):=by omega
 have hwt:IntKind.i64.wrap ((t:Int)+1)=((t+1:Nat):Int):=(IntWalk.i64_in _ ⟨by omega,by omega⟩).trans (by omega);have WW:(-1:Int) <(t:Int):=by omega
 go_wp2
 go_loopw [5,6] (fun u v wr=>∃m:Nat,t+m+1<=rs.length/\u=iV (t+m:Nat)/\v=iV (t+m+1:Nat)/\IsC wr g (cY (sh rs t m++rj)) 92/\IsC wr B #[iV f,iV g2] 92/\Frm (fun k=>k=g) w wr) (fun _ v _=>rs.length -(intOf v).toNat)
 case atStart=>exact⟨0,by omega,by simp,by simp,by rw[aPQ rs ht];exact Sb,fe,Frm.aa U⟩
 case round=>
  obtain⟨m,yo,rfl,rfl,j,M5,hF⟩:=hrel;have R:=aCO rs (m:=m) ht yo;by_cases ai:t+m+1<rs.length
  ·have eX:((t+m+1:Nat):Int) <(rs.length:Int):=by omega
   have F:((t+m:Nat):Int) <(rs.length:Int):=by omega
   obtain⟨r,s⟩:=kD j (i:=t+m+1) (by simp;omega);have e1:(sh rs t m++rj).getD (t+m+1) (0,0)=rs.getD (t+m+1) (0,0):=by
    rw[gD,List.getElem?_append_left (by omega),<-gD,aCN rs ht yo,if_neg (by omega),if_neg (by omega)]
   rw[e1]at r s;obtain⟨⟨x,y⟩,l⟩:∃xy,rs.getD (t+m+1) (0,0)=xy:=⟨_,rfl⟩;rw[l]at r s;simp only at r s;have Z:=au (t+m+1) ai (by omega);rw[l]at Z;have pn:=aMQ rs ht ai;rw[l]at pn;have HX:=aA (aI l (aI Z pn));clear l Z pn e1;obtain⟨ji,Q⟩:=eZ (t+m+1);obtain⟨d,P⟩:=eZ (t+m);have O:=aA (aI Q P);rw[Q]at r s eX |-;rw[P]at F |-;clear Q P;obtain⟨J,N⟩:=eZ (wr.alloc (.cells #[iV x,iV y] 92));obtain⟨V,hV⟩:=eZ (wr.heap.size);have q:=bAl N;have E:=iNw N hV;have v1:J.cell? (aD V 0)=some (iV x):=E.c rfl;have v2:J.cell? (aD V 1)=some (iV y):=E.c rfl;have W:IsC J B #[iV f,iV g2] 92:=M5.of (q.block B M5.lt);go_wp2_with fail;refine(mR x y f g2 B J W).mono ?_;rintro e h ⟨rfl,K⟩;have Ks:decide ((x,y)=(f,g2))=false:=by simpa using HX.out.2.1
   rw[Ks];have D:IsC h g (cY (sh rs t m++rj)) 92:=(j.of (q.block g j.lt)).of (K.block g (lL j.lt q.size));have fv:IsC h B #[iV f,iV g2] 92:=W.of (K.block B W.lt);have Fx:IsC h V #[iV x,iV y] 92:=E.of (K.block V E.lt);have y1:h.cell? (aD V 0)=some (iV x):=Fx.c rfl;have y2:h.cell? (aD V 1)=some (iV y):=Fx.c rfl;obtain⟨z1,z2⟩:=kD D (i:=d) (by simp;omega);have f1:=D.frozen (d*2);have f2:=D.frozen (d*2+1);have L:Frm (fun k=>k=g) w ((h.setCell (aD g (d*2)) (iV x)).setCell (aD g (d*2+1)) (iV y)):=(((hF.trans (Frm.aa q)).trans (Frm.aa K)).trans (Frm.set (S:=fun k=>k=g) h (p:=aD g (d*2)) rfl _)).trans (Frm.set (S:=fun k=>k=g) _ (p:=aD g (d*2+1)) rfl _);have M:IsC ((h.setCell (aD g (d*2)) (iV x)).setCell (aD g (d*2+1)) (iV y)) B #[iV f,iV g2] 92:=(fv.set_ne _ (Ne.symm MH)).set_ne _ (Ne.symm MH);have I:IsC ((h.setCell (aD g (d*2)) (iV x)).setCell (aD g (d*2+1)) (iV y)) g (cY (sh rs t (m+1)++rj)) 92:=by
    have z:=(D.set (d*2) (iV x)).set (d*2+1) (iV y);have P5:d <(sh rs t m).length:=by rw[R];omega
    rw[vV _ d x y (by rw[lP];omega),List.set_append_left _ _ P5,<-O.out.2,HX.out.2.2]at z;rw[<-O.out.2];exact z
   have H:=aA (aI I (aI M L));have WB:d+1=t+(m+1)/\ji+1=t+(m+1)+1:=by have:=O.out;omega
   have HJ:=aA WB;clear Ks q r s v1 v2 N hV L M I WB;go_wp2;go_roundw
   case rel=>
    obtain⟨I,M,L⟩:=H.out;obtain⟨j1,j2⟩:=HJ.out;exact⟨_,_,_,_,_,_,_,_,_,_,_,_,_,_,_,_,_,_,_,_,_,_,_,⟨m+1,by omega,by rw[<-j1];go_num,by rw[<-j2];go_num,I,M,L⟩,rfl⟩
   case measure=>simp[intOf];omega
  ·have T:m=rs.length-1-t:=by omega
   have F:t+m=rs.length-1:=by omega
   have S5:t+m+1=rs.length:=by omega
   obtain⟨a,A⟩:∃a,a=rs.length-1:=⟨_,rfl⟩;have OE:IsC wr g (cY (sh rs t (rs.length-1-t)++rj)) 92:=by rw[<-T];exact j
   have ap:=tX (n:=1) (b:=g) (o:=a*2) wr;have Nw:∀ty c,(Builtin.clear_ #[56] ty #[sL g (a*2) 1 c]).run Tryz.prog wr=.ok (.tuple #[]) (wr.setCells g (a*2) ((List.replicate 1 t0).flatMap aW)):=fun ty c=>
    tX wr ty g (a*2) 1 c (by omega) (fun k hk=>by rw[j.cell,Array.getElem?_eq_getElem (by rw[vW,lP,R];omega)];rfl) (fun k hk=>j.frozen _)
   clear ap;have Iw:wr.setCells g (a*2) ((List.replicate 1 t0).flatMap aW)=(wr.setCell (aD g (a*2)) (iV 0)).setCell (aD g (a*2+1)) (iV 0):=rfl;have C:IsC (wr.setCells g (a*2) ((List.replicate 1 t0).flatMap aW)) g (cY (delE rs t++((0,0) :: rj))) 92:=by
    rw[Iw];have z:=(OE.set (a*2) (iV 0)).set (a*2+1) (iV 0);rw[vV _ a 0 0 (by rw[lP,<-T,R];omega),A,aOL rs ht rj]at z;rw[A];exact z
   have G:Frm (fun k=>k=g) w (wr.setCells g (a*2) ((List.replicate 1 t0).flatMap aW)):=hF.trans (Frm.a8 (S:=fun k=>k=g) wr rfl _ _);rw[S5,F,<-A];have H:=aA (aI C G);have HL:=aA A;obtain⟨Wf,Vn⟩:=eZ (wr.setCells g (a*2) ((List.replicate 1 t0).flatMap aW));rw[Vn]at Nw H;have q1:¬rs.length+rj.length=a:=by omega
   have q2:(a:Int)<=(rs.length:Int):=by omega
   have q3:(rs.length:Int)<=(rs.length:Int)+(rj.length:Int):=by omega
   have q4:rs.length-a=1:=by omega
   have q5:a<=rs.length+rj.length:=by omega
   have q6:(a:Int)<=(rs.length:Int)+(rj.length:Int):=by omega
   clear C G Iw OE j Vn A F S5 T;go_wp2;go_ret;obtain⟨C,G⟩:=H.out;rw[<-HL.out];exact⟨rfl,C,G⟩
structure DpP(w:World)(ρ:Nat->Nat)(P:Nat)(J:List aS)(r:fZ×Int)(e:Ending)(w':World):Prop where
 e:e=.returned (iV r.2)
 ex:∃ρ' A',St w' ρ' P A' r.1 J/\Mv (fun _=>False) w ρ w' ρ'
theorem aLT{K:Int}(w:World)(ρ:Nat->Nat)(P:Nat)(A:Adr)(f:fZ)(J:List aS)(t H:Nat)(x:Int)(h:St w ρ P A f J)(j:Inv f)(F:Sz K f)(W:K<=900000)(ht:t<f.r.length)(hk:Ok f.n H (aB f t) none none)(hx:f.r.getD t (0,0)=(x,(aB f t:Int))):
  Calls Tryz.prog 86 #[pT P 0,.agg #[iV x,iV (aB f t)]] w (DpP w ρ P J (drop f t H)):=by
 have OS:∀(fn:Fn) (first cap:Array Value) (w:World),(Instr.makeFunc fn first cap).run Tryz.prog w=.ok (.func fn first cap) w:=fun _ _ _ _=>rfl;obtain⟨B,E⟩:=eZ (w.heap.size);obtain⟨w0,l⟩:=eZ (w.alloc (.cells #[iV x,iV (aB f t)] 92));have C:Bl w w0:=by rw[<-l];exact(bQ w.heap.size w).alloc (nR _) _
 have u:=iNw l E;have G:=h.below C;obtain⟨ja,jp,jj,a,hJ⟩:=id G;have s:ρ B=0:=Nat.eq_zero_of_not_pos fun q=>by
  obtain⟨_,_,_,L,_⟩:=id h;have:=L.own B (by omega);omega
 have r:A.ra≠B:=fun e=>by have:=a.rr;rw[e,s]at this;omega
 have r0:w0.cell? (aD P 0)=some (sL A.ra 0 f.r.length (f.r.length+A.rj.length)):=by rw[a.hP.cell];rfl
 have kz:=j.br;have m:=bU f.r t ht;have N:A.ra≠P:=fun e=>by have g:=a.rr;have c:=a.rP;rw[e]at g;omega
 have O:B≠P:=fun e=>by have c:=a.rP;rw[<-e,s]at c;omega
 have HE:=aA (aI E l);go_enter Tryz.func86,Tryz.ntmps86;go_wp2_with fail;refine(rU A.ra B t f.r A.rj x (aB f t) w0 a.hr u r ht hx (fun i Z S=>by rw[<-hx];exact aAI j ht Z S) (by omega) a.rs).mono ?_;rintro e w1 ⟨rfl,lw,k⟩;obtain⟨b,d⟩:=G.bx k lw (.inl rfl) (by have:=a.rs;simp only[List.length_cons];omega);have U:oT ρ A.ra=ρ:=funext fun y=>by
  unfold oT;split
  ·rename_i e;rw[e];exact a.rr.symm
  ·rfl
 rw[U]at b d;have R:(delE f.r t).length+((0,0) :: A.rj:List (Int×Int)).length=f.r.length+A.rj.length:=by rw[m];simp only[List.length_cons];omega
 rw[R,m]at b d;have p:IsC w1 P _ _:=a.hP.ae k (fun e=>N e.symm);have r1:w1.cell? (aD P 0)=some (sL A.ra 0 f.r.length (f.r.length+A.rj.length)):=p.c rfl;have z1:=p.frozen 0;have D:IsC (w1.setCell (aD P 0) (sL A.ra 0 (f.r.length-1) (f.r.length+A.rj.length))) B #[iV x,iV (aB f t)] 92:=(u.ae k (Ne.symm r)).set_ne _ O;have T:(w1.setCell (aD P 0) (sL A.ra 0 (f.r.length-1) (f.r.length+A.rj.length))).cell? (aD B 1)=some (iV (aB f t)):=D.c rfl;have I:Mv (fun _=>False) w ρ (w1.setCell (aD P 0) (sL A.ra 0 (f.r.length-1) (f.r.length+A.rj.length))) ρ:=((Mv.aa (X:=fun y=>y=A.ra/\ρ y=0) C).trans d (fun _ _ e=>e)).up fun y _ e=>by
  obtain⟨g,c⟩:=e;rw[g,a.rr]at c;omega
 have Q:=aLU j ht hk;have M:Sz K (fU f t):=F.of rfl rfl F.cb fun _ _ q=>.inl q;obtain⟨w2,V⟩:=eZ (w1.setCell (aD P 0) (sL A.ra 0 (f.r.length-1) (f.r.length+A.rj.length)));rw[V]at b d I T D;go_wp2_with fail;refine(aGZ W H w2 ρ P {A with ra:=A.ra,rj:=(0,0) :: A.rj} (fU f t) J (aB f t) b M Q).mono ?_;rintro e w3 ⟨rfl,⟨φ',z⟩,v⟩;have n:Mv (fun _=>False) w ρ w3 ρ:=by
  refine I.trans (Y:=fun _=>False) ⟨v.wide fun y _ e=>.inl ?_,fun _ _ _=>rfl⟩ (fun _ _ e=>e);rcases e with e | e
  ·rw[e];have:=a.rc;show ρ A.c≠0;omega
  ·rw[e];have:=a.rm;show ρ A.m≠0;omega
 have o:=aA (aI z n);clear z n v;go_wp2;go_ret;exact⟨rfl,ρ,_,o.out.1,o.out.2⟩
end Go.Proofs.YtmpagpeenjddgaaGreat
namespace Go.Proofs.YtmpagpeenjddgaaGreat
open Go.RowKit Fo
def RdT(w:World)(v:Value)(rs:List (Int×Int)):Prop:=
 ∃a cap,v=.slice a rs.length cap/\(0<rs.length->∃b off,a=some ⟨b,off,none⟩/\∀i,i<rs.length->w.cell? (aD b (off+i*2))=some (iV (rs.getD i (0,0)).1)/\w.cell? (aD b (off+i*2+1))=some (iV (rs.getD i (0,0)).2))
theorem RdT.of{w:World}{g cap:Nat}{rs rj:List (Int×Int)}(h:IsC w g (cY (rs++rj)) 92):RdT w (sL g 0 rs.length cap) rs:=
 ⟨_,cap,rfl,fun _=>⟨g,0,rfl,fun i a=>by
  have:=kD h (i:=i) (by simp;omega)
  rw[gD,List.getElem?_append_left a,<-gD]at this;simpa using this⟩⟩
def qN(x y:Int):Int:=if x<y then -1 else if x>y then 1 else 0
theorem vN(x:Int)(w:World):Calls Tryz.prog 89 #[iV x] w fun e w'=>e=.returned (.bool false)/\w=w':=by
 have h:(x != x)=false:=by simp
 go_enter Tryz.func89,Tryz.ntmps89
 go_wp2
 go_ret
 exact⟨rfl,rfl⟩
theorem yR(x y:Int)(w:World):Calls Tryz.prog 62 #[iV x,iV y] w fun e w'=>e=.returned (iV (qN x y))/\w=w':=by
 have b:Hid (qN x y=if x<y then -1 else if x>y then 1 else 0):=rfl;go_enter Tryz.func62,Tryz.ntmps62;go_wp2_with fail;refine(vN _ _).mono ?_;rintro e w1 ⟨rfl,rfl⟩;go_wp2_with fail;refine(vN _ _).mono ?_;rintro e w1 ⟨rfl,rfl⟩;by_cases c:x<y
 ·have a:Hid (qN x y=-1):=by rw[b.out,if_pos c];rfl
  go_wp2
  go_ret
  exact⟨by rw[a.out];rfl,rfl⟩
 ·by_cases d:y<x
  ·have a:Hid (qN x y=1):=by rw[b.out,if_neg c,if_pos d];rfl
   go_wp2
   go_ret
   exact⟨by rw[a.out];rfl,rfl⟩
  ·have a:Hid (qN x y=0):=by rw[b.out,if_neg c,if_neg d];rfl
   go_wp2
   go_ret
   exact⟨by rw[a.out];rfl,rfl⟩
theorem xW(x y:Int)(w:World):Calls Tryz.prog 175 #[.agg #[iV x,iV y]] w fun e w'=>e=.returned (iV x)/\Bl w w':=by
 have a:=(bQ w.heap.size w).alloc (nR _) (.cells #[iV x,iV y] 92);go_enter Tryz.func175,Tryz.ntmps175;go_wp2;go_ret;exact⟨rfl,a⟩
theorem tD(v:Value)(w:World):(Go.method 335 92 v "loop.example/s01595/impl.sortKey").run Tryz.prog w=.ok (175,v) w:=by kernel_rfl
theorem oR(x y k:Int)(w:World):Calls Tryz.prog 61 #[.agg #[iV x,iV y],iV k] w fun e w'=>e=.returned (iV (qN x k))/\Bl w w':=by
 have b:=(bQ w.heap.size w).alloc (nR _) (.cells #[iV x,iV y] 92);have d:=tD;go_enter Tryz.func61,Tryz.ntmps61;go_wp2_with fail;refine(xW x y _).mono ?_;rintro e w1 ⟨rfl,a⟩;have c:=b.trans (a.mono b.size);clear a;go_wp2_with fail;refine(yR _ _ _).mono ?_;rintro e f ⟨rfl,rfl⟩;go_wp2;go_ret;exact⟨rfl,c⟩
def aHG(rs:List (Int×Int)):Prop:=∀i j,i<=j->j<rs.length->(rs.getD i (0,0)).1<=(rs.getD j (0,0)).1
def aHK(rs:List (Int×Int))(key:Int)(e:Ending):Prop:=∃i:Nat,∃b,e=.returned (.tuple #[iV i,.bool b])/\i<=rs.length/\(∀a,a<i->(rs.getD a (0,0)).1<key)/\(∀a,i<=a->a<rs.length->key<=(rs.getD a (0,0)).1)/\(b=true↔i<rs.length/\(rs.getD i (0,0)).1=key)
theorem aAL(v:Value)(rs:List (Int×Int))(key:Int)(w:World)(L:RdT w v rs)(hn:rs.length<=1048576)(D:aHG rs):
  Calls Tryz.prog 60 #[v,iV key,.func (.func 61) #[] #[]] w fun e w'=>Bl w w'/\aHK rs key e:=by
 obtain⟨a,J,rfl,l⟩:=L;go_enter Tryz.func60,Tryz.ntmps60;go_wp2;go_loopw [9,10] (fun u v wr=>∃i j:Nat,i<=j/\j<=rs.length/\u=iV i/\v=iV j/\Bl w wr/\(∀a,a<i->(rs.getD a (0,0)).1<key)/\∀a,j<=a->a<rs.length->key<=(rs.getD a (0,0)).1) (fun u v _=>(intOf v).toNat -(intOf u).toNat)
 case atStart=>exact⟨0,rs.length,Nat.zero_le _,nR _,rfl,rfl,bQ _ _,fun a K=>by omega,fun a B C=>by omega⟩
 case round=>
  obtain⟨i,j,R,t,rfl,rfl,d,s,n⟩:=hrel;by_cases Q:i<j
  ·obtain⟨b,off,rfl,h⟩:=l (by omega)
   have P:i<=(i+j) / 2/\(i+j) / 2<j:=by omega
   obtain⟨c,f⟩:=h ((i+j) / 2) (by omega);have m:b<w.heap.size:=World.block_lt_of_cell? _ _ c;rw[<-d.cell (p:=aD b (off+(i+j) / 2*2)) m]at c;rw[<-d.cell (p:=aD b (off+(i+j) / 2*2+1)) m]at f;have N:(i:Int) <(j:Int):=by omega
   obtain⟨p,g⟩:∃p,Hid (rs.getD ((i+j) / 2) (0,0)=p):=⟨_,rfl⟩;rw[g.out]at c f;obtain⟨x,y⟩:=p;simp only at c f;have o:Hid (∀a,a<i->(rs.getD a (0,0)).1<key):=s;have q:Hid (∀a,j<=a->a<rs.length->key<=(rs.getD a (0,0)).1):=n;clear l h s n;go_wp2_with fail;refine(oR x y key _).mono ?_;rintro e w1 ⟨rfl,k⟩;have r:=d.trans (k.mono d.size);have A:Hid (qN x key=if x<key then -1 else if x>key then 1 else 0):=rfl;clear c f k d;by_cases z:x<key
   ·rw[A.out,if_pos z]
    have I:Hid (∀a,a <(i+j) / 2+1->(rs.getD a (0,0)).1<key):=fun a K=>by
     have:=D a ((i+j) / 2) (by omega) (by omega)
     rw[g.out]at this;simp only at this;omega
    go_wp2
    go_roundw
    case rel=>exact⟨(i+j) / 2+1,j,by omega,t,by go_num,rfl,r,I.out,q.out⟩
    case measure=>simp[intOf];omega
   ·have O:¬qN x key<0:=by rw[A.out,if_neg z];split<;>omega
    have H:Hid (∀a,(i+j) / 2<=a->a<rs.length->key<=(rs.getD a (0,0)).1):=fun a B C=>by
     have:=D ((i+j) / 2) a B C
     rw[g.out]at this;simp only at this;omega
    generalize qN x key=cv at *;clear z;go_wp2;go_roundw
    case rel=>exact⟨i,(i+j) / 2,by omega,by omega,rfl,by go_num,r,o.out,H.out⟩
    case measure=>simp[intOf];omega
  ·have F:i=j:=by omega
   subst F;have o:Hid (∀a,a<i->(rs.getD a (0,0)).1<key):=s;have q:Hid (∀a,i<=a->a<rs.length->key<=(rs.getD a (0,0)).1):=n;clear s n;by_cases M:i<rs.length
   ·obtain⟨b,off,rfl,h⟩:=l (by omega)
    obtain⟨c,f⟩:=h i M;have m:b<w.heap.size:=World.block_lt_of_cell? _ _ c;rw[<-d.cell (p:=aD b (off+i*2)) m]at c;rw[<-d.cell (p:=aD b (off+i*2+1)) m]at f;have G:(i:Int) <(rs.length:Int):=by omega
    obtain⟨p,g⟩:∃p,Hid (rs.getD i (0,0)=p):=⟨_,rfl⟩;rw[g.out]at c f;obtain⟨x,y⟩:=p;simp only at c f;clear l h;go_wp2_with fail;refine(oR x y key _).mono ?_;rintro e w1 ⟨rfl,k⟩;have r:=d.trans (k.mono d.size);have E:Hid ((qN x key == 0)=true↔i<rs.length/\(rs.getD i (0,0)).1=key):=by
     show _↔_
     rw[g.out];unfold qN;split
     ·simp;omega
     ·split
      ·simp;omega
      ·simp;omega
    generalize qN x key=cv at *;clear c f k d;go_wp2;exact bodyPost_ret (v:=.tuple #[iV i,.bool (cv == 0)]) (by simp[results,Tryz.results60,go_sem]) rfl ⟨r,i,_,rfl,t,o.out,q.out,E.out⟩
   ·clear l
    have G:¬(i:Int) <(rs.length:Int):=by omega
    go_wp2
    exact bodyPost_ret (v:=.tuple #[iV i,.bool false]) (by simp[results,Tryz.results60,go_sem]) rfl ⟨d,i,_,rfl,t,o.out,q.out,by simp;omega⟩
theorem oS(v:Value)(rs:List (Int×Int))(key:Int)(w:World)(j:RdT w v rs)(hn:rs.length<=1048576)(o:aHG rs):
  Calls Tryz.prog 37 #[v,iV key] w fun e w'=>Bl w w'/\aHK rs key e:=by
 obtain⟨a,c,k,n⟩:=id j;subst k;have p:∀(fn:Fn) (first c:Array Value) (w:World),(Instr.makeFunc fn first c).run Tryz.prog w=.ok (.func fn first c) w:=fun _ _ _ _=>rfl;clear n;go_enter Tryz.func37,Tryz.ntmps37;go_wp2_with fail;refine(aAL _ rs key _ j hn o).mono ?_;rintro e w1 ⟨m,i,b,rfl,d,f,g,h⟩;have l:Hid (aHK rs key (.returned (.tuple #[iV i,.bool b]))):=⟨i,b,rfl,d,f,g,h⟩;clear d f g h;go_wp2;exact bodyPost_ret (v:=.tuple #[iV i,.bool b]) (by simp[results,Tryz.results37,go_sem]) rfl ⟨m,l.out⟩
end Go.Proofs.YtmpagpeenjddgaaGreat
namespace Go.Proofs.YtmpagpeenjddgaaGreat
open Go.RowKit Go.Shelf Fo
def atT(f:fZ)(tree:Int):Option Nat:=(List.range f.r.length).find? fun i=>rid f i == tree
theorem mP{f:fZ}{tree:Int}{t:Nat}(h:atT f tree=some t):t<f.r.length/\rid f t=tree:=by
 unfold atT at h;rw[List.find?_range_eq_some]at h;exact⟨by simpa using h.2.1,by simpa using h.1⟩
theorem aNH{f:fZ}(h:Inv f):aHG f.r:=fun i j b a=>by
 rcases Nat.lt_or_eq_of_le b with q | q
 ·have:=h.ids i j q a;unfold rid at this;omega
 ·subst q;exact Int.le_refl _
theorem aHQ{f:fZ}{tree:Int}{i:Nat}{b:Bool}(h1:i<=f.r.length)(h2:∀a,a<i->(f.r.getD a (0,0)).1<tree)(k:Inv f)(h3:∀a,i<=a->a<f.r.length->tree<=(f.r.getD a (0,0)).1)(g:b=true↔i<f.r.length/\(f.r.getD i (0,0)).1=tree):atT f tree=if b then some i else none:=by
 unfold atT;cases b with
 | true=>
  obtain⟨l,m⟩:=g.1 rfl;simp only[if_true];rw[List.find?_range_eq_some];refine⟨by rw[show rid f i=tree from m];simp,by simpa using l,fun j c=>?_⟩;have:=h2 j c;have d:¬rid f j=tree:=by unfold rid;omega
  simp[d]
 | false=>
  simp only[Bool.false_eq_true,if_false];rw[List.find?_range_eq_none];intro j c;have d:¬rid f j=tree:=fun e=>by
   by_cases q:j<i
   ·have:=h2 j q;unfold rid at e;omega
   ·by_cases n:j=i
    ·subst n;have:=g.2 ⟨c,e⟩;cases this
    ·have h:=k.ids i j (by omega) c
     have o:=h3 i (nR _) (by omega);unfold rid at h e;omega
  simp[d]
def aKH(f:fZ)(tree:Int):Int:=match atT f tree with
 | some t=>(aB f t:Int)
 | none=>0
theorem vY{f:fZ}{tree:Int}{t:Nat}(h:atT f tree=some t):aKH f tree=(aB f t:Int):=by unfold aKH;rw[h]
theorem vX{f:fZ}{tree:Int}(h:atT f tree=none):aKH f tree=0:=by unfold aKH;rw[h]
theorem aGM{K:Int}(w:World)(ρ:Nat->Nat)(P:Nat)(A:Adr)(f:fZ)(J:List aS)(tree:Int)(h:St w ρ P A f J)(c:Inv f)(y:Sz K f):
  Calls Tryz.prog 20 #[pT P 0,iV tree] w fun e w'=>e=.returned (iV (aKH f tree))/\Bl w w':=by
 obtain⟨z,C,B,o,x⟩:=id h;have r0:w.cell? (aD P 0)=some (sL A.ra 0 f.r.length (f.r.length+A.rj.length)):=by rw[o.hP.cell];rfl
 have g:RdT w (sL A.ra 0 f.r.length (f.r.length+A.rj.length)) f.r:=RdT.of o.hr;go_enter Tryz.func20,Tryz.ntmps20;go_wp2_with fail;refine(oS _ f.r tree w g (by have:=c.br;omega) (aNH c)).mono ?_;rintro e w1 ⟨m,i,b,rfl,r,k,l,a⟩;have d:=aHQ r k c l a;cases b with
 | true=>
  obtain⟨p,t⟩:=a.1 rfl;have n:=h.below m;have q:0<=(f.r.getD i (0,0)).2:=(c.ic.rb _ (aQ p)).1;obtain⟨v,-⟩:=n.bh p q;obtain⟨_,_,_,s,_⟩:=id n;have r1:w1.cell? (aD P 0)=some (sL A.ra 0 f.r.length (f.r.length+A.rj.length)):=by rw[s.hP.cell];rfl
  have u:(i:Int) <(f.r.length:Int):=by omega
  have j:=aA (vY d);clear d k l a t g;go_wp2;go_ret;refine⟨?_,m⟩;rw[j.out];rfl
 | false=>
  have j:=aA (vX d);clear d k l a g;go_wp2;go_ret;refine⟨?_,m⟩;rw[j.out];rfl
def aV(f:fZ)(kind tree:Int)(key val:ByteArray):Nat×Int:=
 if inB kind 1 6=false then(0,5)else if kind=5 then(0,0)else match atT f tree with
  | none=>(0,8)
  | some t=>if((kind=1\/kind=2\/kind=6)/\12<key.size)\/(kind=1/\10<val.size)then(0,4)else(t,0)
theorem aHM{K:Int}(w:World)(ρ:Nat->Nat)(P:Nat)(A:Adr)(f:fZ)(J:List aS)(kind tree:Int)(key val:ByteArray)(h:St w ρ P A f J)(I:Inv f)(hz:Sz K f):
  Calls Tryz.prog 53 #[pT P 0,.agg #[iV kind,iV tree,.string key,.string val]] w fun e w'=>e=.returned (.tuple #[iV (aV f kind tree key val).1,iV (aV f kind tree key val).2])/\Bl w w':=by
 obtain⟨B,d⟩:=eZ (w.heap.size);obtain⟨w0,T⟩:=eZ (w.alloc (.cells #[iV kind,iV tree,.string key,.string val] 33));have k:Bl w w0:=by rw[<-T];exact(bQ w.heap.size w).alloc (nR _) _
 have s:=iNw T d;have lh:=h.below k;obtain⟨ja,jp,jj,L,hJ⟩:=id lh;have k0:w0.cell? (aD B 0)=some (iV kind):=s.c rfl;have S:w0.cell? (aD B 1)=some (iV tree):=s.c rfl;obtain⟨r,l⟩:∃r,Hid (aV f kind tree key val=r):=⟨_,rfl⟩;rw[l.out];by_cases M:inB kind 1 6=true
 ·have O:aV f kind tree key val=(if kind=5 then((0,0):Nat×Int)else match atT f tree with
   | none=>(0,8)
   | some t=>if((kind=1\/kind=2\/kind=6)/\12<key.size)\/(kind=1/\10<val.size)then(0,4)else(t,0)):=by
   unfold aV;rw[if_neg (by rw[M];simp)]
  have q:=aA O;clear O;go_enter Tryz.func53,Tryz.ntmps53;go_wp2_with fail;refine(fC kind 1 6 w0).mono ?_;rintro e w1 ⟨rfl,rfl⟩;rw[M];by_cases m:kind=5
  ·have a:Hid (r=(0,0)):=by show _=_;rw[<-l.out,q.out,if_pos m]
   subst m;go_wp2;refine bodyPost_ret (v:=.tuple #[iV 0,iV 0]) (by simp[results,Tryz.results53,go_sem]) rfl ?_;rw[a.out];exact⟨rfl,by first | exact k | (rw[<-d];exact k)⟩
  ·have r0:w0.cell? (aD P 0)=some (sL A.ra 0 f.r.length (f.r.length+A.rj.length)):=by rw[L.hP.cell];rfl
   have y:RdT w0.drew (sL A.ra 0 f.r.length (f.r.length+A.rj.length)) f.r:=RdT.of L.hr;have h5':(kind == 5)=false:=by simpa using m
   have V:=L.hP.lt;have U:=s.lt;go_wp2;go_region_held3 (fun w'=>w'.cell? (aD P 0)=some (sL A.ra 0 f.r.length (f.r.length+A.rj.length))/\w'.cell? (aD B 1)=some (iV tree)) (first | go_keep | exact⟨r0,S⟩ | exact⟨(u.cell (p:=aD P 0) V).trans r0,(u.cell (p:=aD B 1) U).trans S⟩) ((go_at_call 37;refine(oS _ f.r tree _ y (by have:=I.br;omega) (aNH I)).mono ?_;rintro e o ⟨il,i,b,rfl,Z,F,G,H⟩;have u:Bl w0 o:=(bQ w0.heap.size w0).drew.trans il));have x:=aHQ Z F I G H;have c:=k.trans (u.mono k.size);have E:IsC o B #[iV kind,iV tree,.string key,.string val] 33:=s.of (u.block B U);have q0:o.cell? (aD B 0)=some (iV kind):=E.c rfl;have q2:o.cell? (aD B 2)=some (.string key):=E.c rfl;have q3:o.cell? (aD B 3)=some (.string val):=E.c rfl;cases b with
   | false=>
    have a:Hid (r=(0,8)):=by show _=_;rw[<-l.out,q.out,if_neg m,x];rfl
    clear x F G H y;go_wp2;refine bodyPost_ret (v:=.tuple #[iV 0,iV 8]) (by simp[results,Tryz.results53,go_sem]) rfl ?_;rw[a.out];exact⟨rfl,by first | exact c | (rw[<-d];exact c)⟩
   | true=>
    have N:r=if((kind=1\/kind=2\/kind=6)/\12<key.size)\/(kind=1/\10<val.size)then(0,4)else(i,0):=by rw[<-l.out,q.out,if_neg m,x];rfl
    have g:=aA N;clear N x F G H y q l;by_cases z:kind=1
    ·subst z
     by_cases j:12<key.size
     ·have n:(12:Int) <(key.size:Int):=by omega
      have a:Hid (r=(0,4)):=by show _=_;rw[g.out];simp[j]
      go_wp2
      refine bodyPost_ret (v:=.tuple #[iV 0,iV 4]) (by simp[results,Tryz.results53,go_sem]) rfl ?_;rw[a.out];exact⟨rfl,by first | exact c | (rw[<-d];exact c)⟩
     ·have n:¬(12:Int) <(key.size:Int):=by omega
      by_cases R:10<val.size
      ·have q8:(10:Int) <(val.size:Int):=by omega
       have a:Hid (r=(0,4)):=by show _=_;rw[g.out];simp[R]
       go_wp2
       refine bodyPost_ret (v:=.tuple #[iV 0,iV 4]) (by simp[results,Tryz.results53,go_sem]) rfl ?_;rw[a.out];exact⟨rfl,by first | exact c | (rw[<-d];exact c)⟩
      ·have q8:¬(10:Int) <(val.size:Int):=by omega
       have a:Hid (r=(i,0)):=by show _=_;rw[g.out];simp[j,R]
       go_wp2
       refine bodyPost_ret (v:=.tuple #[iV i,iV 0]) (by simp[results,Tryz.results53,go_sem]) rfl ?_;rw[a.out];exact⟨rfl,by first | exact c | (rw[<-d];exact c)⟩
    ·have W:(kind == 1)=false:=by simpa using z
     by_cases C:kind=2
     ·subst C
      by_cases j:12<key.size
      ·have n:(12:Int) <(key.size:Int):=by omega
       have a:Hid (r=(0,4)):=by show _=_;rw[g.out];simp[j]
       go_wp2
       refine bodyPost_ret (v:=.tuple #[iV 0,iV 4]) (by simp[results,Tryz.results53,go_sem]) rfl ?_;rw[a.out];exact⟨rfl,by first | exact c | (rw[<-d];exact c)⟩
      ·have n:¬(12:Int) <(key.size:Int):=by omega
       have a:Hid (r=(i,0)):=by show _=_;rw[g.out];simp[j]
       go_wp2
       refine bodyPost_ret (v:=.tuple #[iV i,iV 0]) (by simp[results,Tryz.results53,go_sem]) rfl ?_;rw[a.out];exact⟨rfl,by first | exact c | (rw[<-d];exact c)⟩
     ·have X:(kind == 2)=false:=by simpa using C
      by_cases D:kind=6
      ·subst D
       by_cases j:12<key.size
       ·have n:(12:Int) <(key.size:Int):=by omega
        have a:Hid (r=(0,4)):=by show _=_;rw[g.out];simp[j]
        go_wp2
        refine bodyPost_ret (v:=.tuple #[iV 0,iV 4]) (by simp[results,Tryz.results53,go_sem]) rfl ?_;rw[a.out];exact⟨rfl,by first | exact c | (rw[<-d];exact c)⟩
       ·have n:¬(12:Int) <(key.size:Int):=by omega
        have a:Hid (r=(i,0)):=by show _=_;rw[g.out];simp[j]
        go_wp2
        refine bodyPost_ret (v:=.tuple #[iV i,iV 0]) (by simp[results,Tryz.results53,go_sem]) rfl ?_;rw[a.out];exact⟨rfl,by first | exact c | (rw[<-d];exact c)⟩
      ·have Y:(kind == 6)=false:=by simpa using D
       have a:Hid (r=(i,0)):=by show _=_;rw[g.out];simp[z,C,D]
       go_wp2
       refine bodyPost_ret (v:=.tuple #[iV i,iV 0]) (by simp[results,Tryz.results53,go_sem]) rfl ?_;rw[a.out];exact⟨rfl,by first | exact c | (rw[<-d];exact c)⟩
 ·have Q:inB kind 1 6=false:=by simpa using M
  have a:Hid (r=(0,5)):=by show _=_;rw[<-l.out];unfold aV;rw[if_pos Q]
  go_enter Tryz.func53,Tryz.ntmps53
  go_wp2_with fail
  refine(fC kind 1 6 w0).mono ?_;rintro e w1 ⟨rfl,rfl⟩;rw[Q];go_wp2;refine bodyPost_ret (v:=.tuple #[iV 0,iV 5]) (by simp[results,Tryz.results53,go_sem]) rfl ?_;rw[a.out];exact⟨rfl,by first | exact k | (rw[<-d];exact k)⟩
attribute [local go_sem] Oper.semAt_some
def aLD(F:Fence)(n:Nat)(P:Program)(g:Nat)(lb:Array Value)(vs:List (Array Value))(Kp:World->World->Prop)(w:World):Prop:=
 ∀(l:Nat) (J:List (Array Value)->World->Prop) (W:World),Bl w W->AbidesFrom W.heap.size J->
  (∀(pre:List (Array Value)) (x:Array Value) (W1:World),J pre W1->pre++[x] <+: vs->YieldAt F (n-1) P l x W1 fun e W'=>e=.returned (.bool true)/\J (pre++[x]) W'/\Kp W1 W')->
  J [] W->CallsIn F n P g (#[.func (.yield l) #[] #[]]++lb) W fun e W'=>(∃v,e=.returned v)/\J vs W'
structure KpB(B:Nat)(a:Option Nat)(W W':World):Prop where
 size:W.heap.size<=W'.heap.size
 b:W'.heap[B]?=W.heap[B]?
 g:∀g,a=some g->W'.heap[g]?=W.heap[g]?
theorem KpB.refl(B:Nat)(a:Option Nat)(W:World):KpB B a W W:=⟨nR _,rfl,fun _ _=>rfl⟩
theorem KpB.trans{B:Nat}{a:Option Nat}{X Y Z:World}(h:KpB B a X Y)(k:KpB B a Y Z):KpB B a X Z:=⟨lT h.size k.size,k.b.trans h.b,fun g e=>(k.g g e).trans (h.g g e)⟩
theorem KpB.put{B N:Nat}{a:Option Nat}(h1:B<N)(h2:∀g,a=some g->g<N)(W:World)(l:Nat)(o b:Obj)(c:N<=l)(_ho:W.heap[l]?=some o)(_:o.isCells=false)(_:o.isWalk=false):KpB B a W (W.putObj l b):=
 ⟨by simp[World.putObj],World.putObj_heap_other (by omega),fun g e=>World.putObj_heap_other (by have:=h2 g e;omega)⟩
def aKF(r:JE):Value:=.agg #[iV r.1,iV r.2.1,fB r.2.2]
def iZ(jp:List JE):List (Array Value):=((List.range jp.length).map fun i=>#[iV ((jp.length-1-i:Nat):Int),aKF (jp.getD (jp.length-1-i) j0)])
theorem pD(a:List JE):(iZ a).length=a.length:=by simp[iZ]
theorem yG(a:List JE){m:Nat}(b:m<a.length):(iZ a)[m]?=some #[iV ((a.length-1-m:Nat):Int),aKF (a.getD (a.length-1-m) j0)]:=by
 unfold iZ;rw[List.getElem?_map,List.getElem?_range b];rfl
theorem aCI{w:World}{g:Nat}{xs:List JE}(h:IsC w g (iY xs) 178){i:Nat}(a:i<xs.length):w.cell? (aD g (i*3))=some (iV (xs.getD i j0).1)/\w.cell? (aD g (i*3+1))=some (iV (xs.getD i j0).2.1)/\w.cell? (aD g (i*3+2))=some (fB (xs.getD i j0).2.2):=by
 rw[h.cell,h.cell,h.cell];exact aKD xs a
theorem wJ(F:Fence)(n:Nat)(U:F.fn 132)(Q:F.round=none)(hn:1<=n)(l B c:Nat)(b:Option Nat)(a u:List JE)(P8:a.length<=1000000)(J:List (Array Value)->World->Prop)(B0:Nat)(hJ:AbidesFrom B0 J)
  (E:∀pre (x:Array Value) W,J pre W->pre++[x] <+: iZ a->YieldAt F (n-1) Tryz.prog l x W fun e W'=>e=.returned (.bool true)/\J (pre++[x]) W'/\KpB B b W W')
  (W:World) (C:IsC W B #[.slice (adr b) a.length c] 65) (T:∀g,b=some g->IsC W g (iY (a++u)) 178) (H:b=none->a=[]) (S:J [] W):
  CallsIn F n Tryz.prog 132 #[.func (.yield l) #[] #[],pT B 0] W fun e W'=>(∃v,e=.returned v)/\J (iZ a) W':=by
 have c0:W.cell? (aD B 0)=some (.slice (adr b) a.length c):=C.c rfl;have ng:IntKind.i64.wrap ((a.length:Int)-1)=(a.length:Int)-1:=IntWalk.i64_in _ ⟨by omega,by omega⟩;refine callsIn_of_wp Tryz.func132 rfl U ?_ Q;simp only[Tryz.ntmps132,List.size_toArray,List.length_cons,List.length_nil,Nat.reduceAdd,Nat.reduceSub,Array.replicate_succ,Array.replicate_zero,List.push_toArray,List.append_toArray,List.nil_append,List.cons_append];gi_wp2;gi_loopw [3] (fun i wr=>∃m:Nat,m<=a.length/\i=iV ((a.length:Int)-1-m)/\J ((iZ a).take m) wr/\KpB B b W wr) (fun i _=>((intOf i)+1).toNat)
 case atStart=>exact⟨0,Nat.zero_le _,by simp,by simpa using S,KpB.refl _ _ _⟩
 case round=>
  obtain⟨m,hm,rfl,z,o⟩:=hrel;have K:IsC wr B #[.slice (adr b) a.length c] 65:=C.of o.b;have A:wr.cell? (aD B 0)=some (.slice (adr b) a.length c):=K.c rfl;by_cases s:m<a.length
  ·obtain⟨g,t⟩:∃g,b=some g:=by
    cases b with
    | none=>rw[H rfl]at s;simp at s
    | some g=>exact⟨g,rfl⟩
   subst t;have P:IsC wr g (iY (a++u)) 178:=(T g rfl).of (o.g g rfl);simp only[adr,Option.map_some]at A;obtain⟨i,q⟩:=exH (a.length-1-m);have p:(a.length:Int)-1-m=(i:Int):=by have:=q.out;omega
   have R:i<a.length:=by have:=q.out;omega
   rw[p];have GE:(i:Int) <(a.length:Int):=by omega
   obtain⟨j,k,f⟩:=aCI P (i:=i) (by simp;omega);have w:(a++u).getD i j0=a.getD i j0:=by rw[gD,List.getElem?_append_left R,<-gD]
   rw[w]at j k f;have d:=yG a s;rw[<-q.out]at d;unfold aKF at d;obtain⟨⟨Y,Z,x3⟩,r⟩:∃x,a.getD i j0=x:=⟨_,rfl⟩;rw[r]at j k f d;simp only at j k f d;obtain⟨y,I⟩:∃y,fB x3=.pointer y:=⟨_,rfl⟩;rw[I]at f d;have h:Hid ((iZ a).take m++[#[iV (i:Int),.agg #[iV Y,iV Z,.pointer y]]]=(iZ a).take (m+1)):=by
    show _=_
    rw[List.take_add_one,d];rfl
   obtain⟨fn,tmps,assign,body,X,D⟩:=E _ _ _ z (by rw[h.out];exact List.take_prefix _ _);have V:IntKind.i64.wrap ((i:Int)-1)=(i:Int)-1:=IntWalk.i64_in _ ⟨by omega,by omega⟩;have M:=aA (aI d (aI w (aI r p)));have L:=aA o;clear E d w r p o;gi_wp2;refine D.mono ?_;rintro e W3 ⟨rfl,G,N⟩;rw[h.out]at G;clear A j k f X D;gi_wp2;go_roundw
   case rel=>exact⟨m+1,by omega,by have:=M.out.2.2.2;congr 1;omega,G,L.out.trans N⟩
   case measure=>simp[intOf]<;>omega
  ·obtain rfl:m=a.length:=by omega
   have h:Hid ((iZ a).take a.length=iZ a):=List.take_of_length_le (by rw[pD];exact nR _);have O:(a.length:Int)-1-a.length=-1:=by omega
   rw[O];gi_wp2;go_end0;exact⟨⟨_,rfl⟩,by rw[<-h.out];exact z⟩
theorem yH(F:Fence)(n:Nat)(d:F.fn 112)(b:F.round=none)(a:Option Addr)(k c:Nat)(w:World):
  CallsIn F n Tryz.prog 112 #[.slice a k c] w fun e w'=>e=.returned (.func (.func 132) #[] #[pT w.heap.size 0])/\w'=w.alloc (.cells #[.slice a k c] 65):=by
 refine callsIn_of_wp Tryz.func112 rfl d ?_ b;simp only[Tryz.ntmps112,List.size_toArray,List.length_cons,List.length_nil,Nat.reduceAdd,Nat.reduceSub,Array.replicate_succ,Array.replicate_zero,List.push_toArray,List.append_toArray,List.nil_append,List.cons_append];gi_wp2;go_ret;exact⟨rfl,rfl⟩
theorem aAJ{n:Nat}{P:Program}{row:String}{args:Array Value}{w:World}{R:Value->World->Prop}(h:Rows P row args w R):RowsIn Fence.wide n P row args w R:=
 fun c cs _=>let ⟨v,w',r,s⟩:=h c cs;⟨v,w',r,stepsIn_wide.2 s⟩
structure nJ(F:Fence)(P:Program):Prop where
 fn:∀k,F.fn k
 calls:∀(f:FuncId) (args:Array Value) (w:World) (R:Ending->World->Prop) (m:Nat),Calls P f args w R->CallsIn F m P f args w R
 rows:∀(row:String) (args:Array Value) (w:World) (R:Value->World->Prop) (m:Nat),Rows P row args w R->RowsIn F m P row args w R
theorem nJ.wide(P:Program):nJ Fence.wide P:=⟨fun _=>trivial,fun _ _ _ _ _ h=>callsIn_wide.2 h,fun _ _ _ _ _ h=>aAJ h⟩
theorem nJ.inRound{F:Fence}{P:Program}(h:nJ F P)(l:Nat):nJ (F.inRound l) P:=⟨h.fn,fun f args w R m k=>CallsIn.inRound l (h.calls f args w R m k),fun r args w R m k=>h.rows r args w R m k⟩
section
variable {F : Fence} {n : Nat} {P : Program} {ops : Array Oper} {Q : Exit -> Act -> World -> Prop} {md : Region.Mode}
theorem aDF{o:Oper}{a:Act}{w:World}{K:Act->World->Prop}(hF:nJ F P)(hn:F.depth.isSome=true->1<=n)(hd:∀c,o.op≠.defer c)(h:o.wp P a w K Q):o.wpIn F n P a w K Q:=by
 refine⟨fun f _=>hF.fn f,?_⟩;rw[Oper.semAt_eq _ _ _ hd];unfold Oper.wp at h;generalize (execOp a.eval o).run P w=r at *;cases r with
 | ok x w'=>
  cases x<;>first | exact h | exact⟨hn,hF.calls _ _ _ _ _ h⟩ | exact⟨hn,hF.rows _ _ _ _ _ h⟩ | exact h.elim
 | halt x w'=>cases x<;>exact h
theorem uN{i:Nat}{a:Act}{w:World}{K:Act->World->Prop}(hF:nJ F P)(hn:F.depth.isSome=true->1<=n)(hd:∀(j:Nat) (o:Oper),ops[j]?=some o->∀c,o.op≠.defer c)(e:¬LetsOut Q)(h:wpOp P ops Q i K a w):wpOpIn F n P ops Q i K a w:=by
 unfold wpOp at h;unfold wpOpIn;cases b:ops[i]? with
 | none=>rw[b]at h;exact h
 | some o=>
  rw[b]at h;simp only at h |-;split
  ·rename_i d
   rw[if_pos d]at h;rcases h with h | h
   ·exact aDF hF hn (hd i o b) h
   ·exact absurd h.2 e
  ·rename_i d
   rw[if_neg d]at h;exact⟨fun f _=>hF.fn f,h⟩
theorem lU(hF:nJ F P)(hn:F.depth.isSome=true->1<=n)(hd:∀(j:Nat) (o:Oper),ops[j]?=some o->∀c,o.op≠.defer c)(b:¬LetsOut Q):∀(fuel:Nat) (listed:Array Bool) (a:Act) (w:World),wpAny P md ops Q fuel listed a w->wpAnyIn F n P md ops Q fuel listed a w
 | 0,_,_,_,h=>h
 | fuel+1,_,_,_,h=>⟨h.1,fun i f=>wpOpIn_mono (fun d w' e=>lU hF hn hd b fuel _ d w' e) (uN hF hn hd b (h.2 i f))⟩
def xH(ops:Array Oper):Bool:=ops.toList.all fun o=>match o.op with
 | .defer _=>false
 | _=>true
theorem xI(h:xH ops=true)(j:Nat)(o:Oper)(b:ops[j]?=some o)(c:Call):o.op≠.defer c:=fun e=>by
 unfold xH at h;have a:o∈ops.toList:=by
  have:=Array.mem_of_getElem? b
  simpa using this
 have:=List.all_eq_true.1 h o a
 rw[e]at this;cases this
theorem gK(S:World->Prop)(L:Nat){id:Nat}{a:Act}{w:World}(hF:nJ F P)(hn:F.depth.isSome=true->1<=n)(hd:xH ops=true)(b:¬LetsOut Q)(c:P.follows .mixedOrders=true)
  (h:eB P .any ops Q S L ops.size (Array.replicate ops.size false) a w.drew):(Code.region id ops true).wpIn F n P Q a w:=
 wpIn_region_any c (lU hF hn (xI hd) b _ _ _ _ (nH _ _ _ _ h))
end
end Go.Proofs.YtmpagpeenjddgaaGreat
namespace Go.Proofs.YtmpagpeenjddgaaGreat
open Go.RowKit Go.Shelf Fo
variable {w w' : World} {ρ ρ' : Nat -> Nat} {P : Nat} {A : Adr} {f : fZ} {S : Nat -> Prop} {ja : Option Nat} {jp jj : List JE} {J : List aS}
structure JrK(w:World)(ρ:Nat->Nat)(ja:Option Nat)(jp jj:List JE)(J:List aS)(k:Nat):Prop where
 arr:∀g,ja=some g->IsC w g (iY (jp++jj)) 178/\ρ g=6
 nil:ja=none->jp=[]/\jj=[]
 len:jp.length=J.length
 row:∀i,i<k->(jp.getD i j0).1=((J.getD i jr0).1:Int)/\(jp.getD i j0).2.1=(J.getD i jr0).2.1/\
  (match (J.getD i jr0).2.2 with
  | none=>(jp.getD i j0).2.2=none
  | some d=>∃q a junk,(jp.getD i j0).2.2=some q/\ρ q=jZ i/\(∀g,a=some g->ρ g=kC i)/\aN w q d a junk)
theorem JrL.e6(h:JrL w ρ ja jp jj J):JrK w ρ ja jp jj J J.length:=⟨h.arr,h.nil,h.len,h.row⟩
def isK(k r:Nat):Prop:=r=6\/∃i,i<k/\(r=jZ i\/r=kC i)
theorem JrK.ae{k k':Nat}(h:JrK w ρ ja jp jj J k)(D:k'<=k)(hF:Frm S w w')(E:∀x,ρ x≠0->x<w.heap.size)(y:∀x,S x->¬isK k' (ρ x))(A:∀x,isK k' (ρ x)->ρ' x=ρ x):JrK w' ρ' ja jp jj J k':=by
 have b:∀{x r},ρ x=r->isK k' r->ρ' x=r:=fun {x r} e m=>by rw[A x (e▸m),e]
 have n:∀{x r},ρ x=r->isK k' r->¬S x:=fun {x r} e m z=>y x z (e▸m);have p:isK k' 6:=.inl rfl;refine⟨fun g e=>?_,h.nil,h.len,fun i o=>?_⟩
 ·obtain⟨l,f⟩:=h.arr g e
  exact⟨l.ae hF (n f p),b f p⟩
 ·have s:isK k' (jZ i):=.inr ⟨i,o,.inl rfl⟩
  have t:isK k' (kC i):=.inr ⟨i,o,.inr rfl⟩;obtain⟨l,f,j⟩:=h.row i (by omega);refine⟨l,f,?_⟩;cases e:(J.getD i jr0).2.2 with
  | none=>rw[e]at j;exact j
  | some d=>
   rw[e]at j;obtain⟨q,a,c,B,u,v,C⟩:=j;exact⟨q,a,c,B,b u s,fun g e=>b (v g e) t,C.ae hF (n u s) fun g e=>n (v g e) t⟩
theorem St.dead(h:St w ρ P A f J):St w ρ P A f fT:=by
 obtain⟨c,e,d,a,_⟩:=h;exact⟨c,e,d,a,fun b=>absurd b vF⟩
def aCK(ρ:Nat->Nat)(q:Nat)(a:Option Nat):Nat->Nat:=fun x=>if x=q\/a=some x then 0 else ρ x
theorem St.dw(h:St w ρ P A f fT){q:Nat}{a:Option Nat}(k:isJ (ρ q))(i:∀g,a=some g->isJ (ρ g)):St w (aCK ρ q a) P A f fT:=by
 obtain⟨l,n,m,d,_⟩:=h;refine⟨l,n,m,d.ae (S:=fun _=>False) ⟨Frm.refl _ _,fun x b c=>?_,fun x b=>?_⟩ (fun _ _ e=>e.elim),fun j=>absurd j vF⟩
 ·unfold aCK
  split
  ·rename_i e
   rcases e with e | e
   ·rw[e]at c;exact absurd k c.2
   ·exact absurd (i x e) c.2
  ·rfl
 ·unfold aCK at b
  split at b
  ·exact absurd rfl b
  ·exact d.own x b
theorem aOG{k i:Nat}(h:¬i<k):¬isK k (jZ i):=fun e=>by
 rcases e with e | ⟨j,a,e | e⟩
 ·unfold jZ at e;omega
 ·unfold jZ at e;omega
 ·unfold jZ kC at e;omega
theorem aOH{k i:Nat}(h:¬i<k):¬isK k (kC i):=fun e=>by
 rcases e with e | ⟨j,a,e | e⟩
 ·unfold kC at e;omega
 ·unfold jZ kC at e;omega
 ·unfold kC at e;omega
theorem aPF{k r:Nat}(h:isK k r):isJ r:=by
 rcases h with e | ⟨j,a,e | e⟩
 ·rw[e];exact aJA
 ·rw[e];exact rA j
 ·rw[e];exact rB j
theorem aEV(f:fZ){i:Nat}(a:i<J.length):eF f (J.drop i)=aNB (eF f (J.drop (i+1))) (J.getD i jr0):=by
 have:J.drop i=J.getD i jr0 :: J.drop (i+1):=by
  rw[gD,gE a];exact List.drop_eq_getElem_cons a
 rw[this];rfl
end Go.Proofs.YtmpagpeenjddgaaGreat
namespace Go.Proofs.YtmpagpeenjddgaaGreat
open Go.RowKit Go.Shelf Fo
attribute [local go_sem] Oper.semAt_some
theorem uM{F:Fence}{n:Nat}{P:Program}{g:Operand}{ps:Array Tmp}{assign body:Code}{Q:Exit->Act->World->Prop}{a:Act}{w:World}
  (db:F.round=none) (h1:1<=n) {gf:Nat} {lb:Array Value} (hg:a.eval g=.func (.func gf) #[] lb) (RR:F.fn gf) (eg:∀args w,(callFunc gf args).run P w=.ok (.enter gf args) w)
  {Kp:World->World->Prop} {vs:List (Array Value)} {w0:World} (Lk:aLD F (n-1) P gf lb vs Kp w0)
  (G:∀{A B C:World},Kp A B->Kp B C->Kp A C) (E:∀(W:World) (l:Nat) (o o':Obj),w.heap.size<=l->W.heap[l]?=some o->o.isCells=false->o.isWalk=false->Kp W (W.putObj l o')) (U:Bl w0 w) (Lc:∀x∈vs,x.size=ps.size)
  (I:List (Array Value)->World->Prop) (d:OwnFrom w.heap.size I) (h0:I [] w)
  (wu:∀(l:Nat) (pre:List (Array Value)) (x:Array Value) (W:World),I pre W->pre++[x] <+: vs->
   assign.wpIn (F.inRound l) (n-1-1) P (Exit.then (fun a' W'=>KeepsFrom w.heap.size W W'/\Kp W W'/\∃I2:List Unit->World->Prop,OwnFrom w.heap.size I2/\I2 [] W'/\∀W2,I2 [] W2->body.wpIn (F.inRound l) (n-1-1) P (ownPostG w.heap.size Kp I (fun _ _ _=>False) (pre++[x]) W2) a' W2) (fun _ _ _=>False)) {tmps:=(ps.zip x).foldl (fun t (p,v)=>t.setIfInBounds p v) a.tmps,defers:=[]} W)
  (S:∀(D:Nat) (W:World),w.heap.size<=D->I vs W->W.heap[D]?=some (.deferred (some []))->Q .normal {a with defers:={target:=.collected D,args:=#[]} :: a.defers} W):
  (Code.rangeFunc g ps assign body).wpIn F n P Q a w:=by
 refine wpIn_rangeFunc fun fn qu=>?_;rw[db];obtain⟨D,q⟩:=eZ (w.heap.size);obtain⟨R,b⟩:∃R:LoopState->Option Code->Loop,R=fun st pe=>{state:=st,pending:=pe,fn,tmps:=a.tmps,params:=ps,assign,body,defers:=w.heap.size}:=⟨_,rfl⟩;obtain⟨V,f⟩:=eZ ((w.alloc (.deferred (some []))).alloc (.loop (R .ready none)));have sz:V.heap.size=D+2:=by rw[<-f,<-q];simp
 have J:V.heap[D+1]?=some (.loop (R .ready none)):=by
  have:=World.alloc_heap_new (w.alloc (.deferred (some []))) (.loop (R .ready none))
  rw[World.size_alloc,f,q]at this;exact this
 have H:V.heap[D]?=some (.deferred (some [])):=by
  rw[<-f,<-q];exact(Below.heap_alloc _ _ _ (by simp)).trans (World.alloc_heap_new w _)
 have c:I [] V:=by rw[<-f];exact d.alloc _ (d.alloc _ h0)
 have old:Bl w0 V:=by
  rw[<-f];exact U.trans ((((bQ _ w).alloc (nR _) _).alloc (by simp) _).mono U.size)
 refine⟨D+1,[{target:=.collected D,args:=#[]}],V,{target:=.fn (.func gf) lb,args:=#[.func (.yield (D+1)) #[] #[]]},V,gf,#[.func (.yield (D+1)) #[] #[]]++lb,V,?_,?_,?_,?_,fun _=>h1,?_⟩
 ·rw[<-f,<-q,b];exact run_enterLoop_outer _ _ _ _ _
 ·simp only[resolve,hg];simp[go_sem]
 ·intro f' T;simp[Target.leads]at T;subst T;exact RR
 ·simp[invoke,go_sem,eg]
 rw[q]at d E wu S;have m:AbidesFrom V.heap.size fun pre W=>I pre W/\W.heap[D+1]?=some (.loop (R .ready none))/\W.heap[D]?=some (.deferred (some [])):=fun s X Y N u O k=>
  ⟨d s X Y N u.1 O fun r e=>by obtain⟨hB,o,ho,hw⟩:=k r e;exact⟨by omega,o,ho,Obj.not_cells_of_walk hw⟩,
   (grownBy_keeps O (fun r e=>(k r e).2) u.2.1 rfl).trans u.2.1,(grownBy_keeps O (fun r e=>(k r e).2) u.2.2 rfl).trans u.2.2⟩
 refine(Lk (D+1) _ V old m (fun pre x W hJ mj=>?_) ⟨c,J,H⟩).mono ?_
 ·obtain⟨K,i,L⟩:=hJ
  have ai:D+1<W.heap.size:=(Array.getElem?_eq_some_iff.1 i).1;have M:=run_yield (P:=P) (args:=x) i (by rw[b];exact Lc x (mj.subset (by simp)));rw[b]at M;refine⟨fn,_,assign,body,M,roundIn_of_wpIn qu (wpIn_mono (wu (D+1) pre x W K mj) ?_)⟩;clear M;rintro e a' W' h;cases e with
  | ret=>exact h
  | exit id=>exact h
  | goto t=>exact h
  | panic ch=>exact h
  | outgrown=>exact h
  | normal=>
  obtain⟨kA,pA,I2,Fq,AW,Ez⟩:=h;have z:=kA.same _ _ (by omega) i rfl;have sk:=kA.same _ _ (nR _) L rfl;have BM:D+1<W'.heap.size:=(Array.getElem?_eq_some_iff.1 z).1;refine⟨_,run_beginRound z (by rw[b]),?_⟩;have b2:(W'.putObj (D+1) (.loop {R .ready none with state:=.busy})).heap[D+1]?=some (.loop {R .ready none with state:=.busy}):=World.putObj_heap_same BM;have d2:(W'.putObj (D+1) (.loop {R .ready none with state:=.busy})).heap[D]?=some (.deferred (some [])):=(World.putObj_heap_other (by omega)).trans sk;refine wpIn_mono (Ez _ (Fq.putObj _ AW (by omega) z rfl)) ?_;rintro e a3 W3 j;cases e with
  | normal=>
   obtain⟨Z,p3,i3⟩:=j;have y:=Z.same _ _ (by omega) b2 rfl;have k:=run_endRound (P:=P) none y;rw[b]at k y;refine⟨_,_,k,rfl,⟨d.putObj _ i3 (by omega) y rfl,?_,?_⟩,G pA (G (G (E _ _ _ _ (by omega) z rfl rfl) p3) (E _ _ _ _ (by omega) y rfl rfl))⟩
   ·rw[b];exact World.putObj_heap_same (Array.getElem?_eq_some_iff.1 y).1
   ·exact(World.putObj_heap_other (by omega)).trans (Z.same _ _ (nR _) d2 rfl)
  | ret=>exact j.2.elim
  | exit id=>exact j.2.elim
  | goto t=>exact j.2.elim
  | panic ch=>exact j.elim
  | outgrown=>exact j.elim
 ·rintro e W2 ⟨⟨v,rfl⟩,K,i,L⟩
  exact⟨none,_,by have:=run_endLoop (P:=P) i (by rw[b];simp);rw[b]at this;exact this,S _ _ (nR _) (d.putObj _ K (by omega) i rfl) ((World.putObj_heap_other (by omega)).trans L)⟩

import Derived.Test.YtmpagpeenjddgaaGreatHq16
set_option maxHeartbeats 9999999
set_option maxRecDepth 99999
set_option linter.all false
namespace Go.Proofs.YtmpagpeenjddgaaGreat
open Go.RowKit Go.Shelf Fo
variable{m t:Nat}
theorem tV(w:World)(p:TypeId)(b o n a:Nat)(hn:0<n)(hc:∀j,j<n*2->(w.cell? ⟨b,o+j,none⟩).isSome=true)(h:∀j,j<n*2->w.frozen? ⟨b,o+j,none⟩=false):
  (Builtin.clear_ #[56] p #[.slice (some ⟨b,o,none⟩) n a]).run Tryz.prog w=.ok (.tuple #[]) (w.setCells b o ((List.replicate n t0).flatMap aU)):=by
 have d:((List.replicate n t0).flatMap aU).length=n*2:=by rw[bV];simp
 have e:=run_storeCells_cells (P:=Tryz.prog) b o ((List.replicate n t0).flatMap aU) 0 w (by rw[d];simpa using hc) (by rw[d];simpa using h) (lX _);obtain⟨i,k,q,_,l⟩:=aDV;have f:(zeroValue 92).run Tryz.prog w=.ok (.agg #[.int .i64 0,.int .i64 0]) w:=by
  simp[zeroValue,typeInfo,k,l]
 have g:(Value.agg #[.int .i64 0,.int .i64 0]).cells=#[.int .i64 0,.int .i64 0]:=by kernel_rfl
 have c:(Builtin.zeroCells (Value.agg #[.int .i64 0,.int .i64 0]).cells n).toList=(List.replicate n t0).flatMap aU:=by rw[g,aKQ]
 generalize (Value.agg #[.int .i64 0,.int .i64 0])=Z at f c;generalize (List.replicate n t0).flatMap aU=L at *;obtain⟨m,rfl⟩:∃m,n=m+1:=⟨n-1,by omega⟩;simp at e;simp[Builtin.clear_,run_underlying Tryz.underlying56,f,c,e]
theorem vY(l:List (Int×Int))(t:Nat)(x y:Int)(ht:t<l.length):((cZ l).setIfInBounds (t*2) (.int .i64 x)).setIfInBounds (t*2+1) (.int .i64 y)=cZ (l.set t (x,y)):=by
 have key:∀(l:List (Int×Int)) (t:Nat),t<l.length->((l.flatMap aU).set (t*2) (.int .i64 x)).set (t*2+1) (.int .i64 y)=(l.set t (x,y)).flatMap aU:=by
  intro l;induction l with
  | nil=>intro t ht;simp at ht
  | cons e l ih=>
   intro t ht;have a:(aU e).length=2:=rfl;cases t with
   | zero=>simp[aU]
   | succ t=>
    simp only[List.flatMap_cons,List.set_cons_succ];rw[List.set_append_right _ _ (by rw[a];omega),a,List.set_append_right _ _ (by rw[a];omega),a,show(t+1)*2-2=t*2 by omega,show(t+1)*2+1-2=t*2+1 by omega,ih t (by simpa using ht)]
 unfold cZ;rw[<-key l t ht];simp
def sh(rs:List (Int×Int))(t m:Nat):List (Int×Int):=(delE rs t).take (t+m)++rs.drop (t+m)
theorem aCO(rs:List (Int×Int))(ht:t<rs.length)(a:t+m+1<=rs.length):(sh rs t m).length=rs.length:=by
 have:=bM rs t ht
 unfold sh;simp only[lP,List.length_take,List.length_drop];omega
theorem aOW(rs:List (Int×Int))(ht:t<rs.length):sh rs t 0=rs:=by
 unfold sh delE;rw[Nat.add_zero,List.take_append,List.length_take,show t-min t rs.length=0 by omega,List.take_take,show min t t=t by omega];simp
theorem aIO{l l':List (Int×Int)}(h:l.length=l'.length)(h2:∀j,j<l.length->l.getD j (0,0)=l'.getD j (0,0)):l=l':=by
 refine List.ext_getElem h fun i a b=>?_;have:=h2 i a;rw[gD,gD,gE a,gE b]at this;exact this
theorem aCN(rs:List (Int×Int))(ht:t<rs.length)(d:t+m+1<=rs.length)(j:Nat):(sh rs t m).getD j (0,0)=if j<t then rs.getD j (0,0)else if j<t+m then rs.getD (j+1) (0,0)else rs.getD j (0,0):=by
 have c:=bM rs t ht;unfold sh;rw[gD];by_cases b:j<t+m
 ·rw[List.getElem?_append_left (by rw[List.length_take];omega),List.getElem?_take,if_pos b,<-gD,iL _ _ _ (by omega)]
  by_cases a:j<t
  ·rw[if_pos a,if_pos a]
  ·rw[if_neg a,if_neg a,if_pos b]
 ·rw[List.getElem?_append_right (by rw[List.length_take];omega),List.length_take,show min (t+m) (delE rs t).length=t+m by omega,List.getElem?_drop,show t+m+(j -(t+m))=j by omega,<-gD,if_neg (by omega),if_neg b]
theorem aMF(rs:List (Int×Int))(ht:t<rs.length)(g:t+m+1<rs.length):(sh rs t m).set (t+m) (rs.getD (t+m+1) (0,0))=sh rs t (m+1):=by
 have c:=aCO rs (m:=m) ht (by omega);have d:=aCO rs (m:=m+1) ht (by omega);refine aIO (by simp;omega) fun j f=>?_;rw[bB _ _ _ _ _ (by omega),aCN rs ht (by omega),aCN rs ht (by omega)];by_cases e:j=t+m
 ·rw[if_pos e,if_neg (by omega),if_pos (by omega),e]
 ·rw[if_neg e]
  by_cases a:j<t
  ·rw[if_pos a,if_pos a]
  ·rw[if_neg a,if_neg a]
   by_cases b:j<t+m
   ·rw[if_pos b,if_pos (by omega)]
   ·rw[if_neg b,if_neg (by omega)]
theorem aNU(rs:List (Int×Int))(ht:t<rs.length)(rj:List (Int×Int)):(sh rs t (rs.length-1-t)++rj).set (rs.length-1) (0,0)=delE rs t++((0,0) :: rj):=by
 have b:=bM rs t ht;unfold sh;rw[show t+(rs.length-1-t)=rs.length-1 by omega,List.take_of_length_le (by omega),List.append_assoc,List.set_append_right _ _ (by omega),show rs.length-1 -(delE rs t).length=0 by omega];have:rs.drop (rs.length-1)=[rs.getD (rs.length-1) (0,0)]:=by
  have a:rs.length-1<rs.length:=by omega
  rw[List.drop_eq_getElem_cons a,List.drop_of_length_le (by omega),gD,gE a];rfl
 rw[this];rfl
theorem rR(g B t:Nat)(rs rj:List (Int×Int))(g1 g2:Int)(w:World)(W:IsC w g (cZ (rs++rj)) 92)(U:IsC w B #[.int .i64 g1,.int .i64 g2] 92)(IA:g≠B)(ht:t<rs.length)(he:rs.getD t (0,0)=(g1,g2))(aw:∀i,i<rs.length->i≠t->rs.getD i (0,0)≠(g1,g2))(hl:rs.length<=100)(hm:rs.length+rj.length<=maxLen):
  Calls Tryz.prog 107 #[.slice (some ⟨g,0,none⟩) rs.length (rs.length+rj.length),.func (.func 108) #[] #[.pointer (some ⟨B,0,none⟩)]] w fun e w'=>e=.returned (.slice (some ⟨g,0,none⟩) (rs.length-1) (rs.length+rj.length))/\IsC w' g (cZ (delE rs t++((0,0) :: rj))) 92/\Frm (fun k=>k=g) w w':=by
 have iN:rs.length+rj.length<=9223372036854775807:=by simp[maxLen]at hm;omega
 go_enter Tryz.func107,Tryz.ntmps107
 go_wp2_with fail
 refine(uQ g B _ t rs rj g1 g2 w W U ht he (fun i hi=>aw i (by omega) (by omega)) hl).mono ?_;rintro e w1 ⟨rfl,R⟩;have Rn:IsC w1 g (cZ (rs++rj)) 92:=W.of (R.block g W.lt);have fe:IsC w1 B #[.int .i64 g1,.int .i64 g2] 92:=U.of (R.block B U.lt);have Dx:¬((t:Int)=-1):=by omega
 have Z6:IntKind.i64.wrap ((t:Int)+1)=((t+1:Nat):Int):=(IntWalk.i64_in _ ⟨by omega,by omega⟩).trans (by omega);have VY:(-1:Int) <(t:Int):=by omega
 go_wp2
 go_loopw [5,6] (fun u v wr=>∃m:Nat,t+m+1<=rs.length/\u=.int .i64 (t+m:Nat)/\v=.int .i64 (t+m+1:Nat)/\IsC wr g (cZ (sh rs t m++rj)) 92/\IsC wr B #[.int .i64 g1,.int .i64 g2] 92/\Frm (fun k=>k=g) w wr) (fun _ v _=>rs.length -(intOf v).toNat)
 case atStart=>exact⟨0,by omega,by simp,by simp,by rw[aOW rs ht];exact Rn,fe,Frm.aa R⟩
 case round=>
  obtain⟨m,xw,rfl,rfl,h,MW,hF⟩:=hrel;have P:=aCO rs (m:=m) ht xw;by_cases ak:t+m+1<rs.length
  ·have d9:((t+m+1:Nat):Int) <(rs.length:Int):=by omega
   have D:((t+m:Nat):Int) <(rs.length:Int):=by omega
   obtain⟨c1,q⟩:=kI h (i:=t+m+1) (by simp;omega);have e1:(sh rs t m++rj).getD (t+m+1) (0,0)=rs.getD (t+m+1) (0,0):=by
    rw[gD,List.getElem?_append_left (by omega),<-gD,aCN rs ht xw,if_neg (by omega),if_neg (by omega)]
   rw[e1]at c1 q;obtain⟨⟨x,y⟩,j⟩:∃xy,rs.getD (t+m+1) (0,0)=xy:=⟨_,rfl⟩;rw[j]at c1 q;simp only at c1 q;have X:=aw (t+m+1) ak (by omega);rw[j]at X;have Y:=aMF rs ht ak;rw[j]at Y;have HX:=aA (aI j (aI X Y));clear j X Y e1;obtain⟨ji,O⟩:=eZ (t+m+1);obtain⟨d,N⟩:=eZ (t+m);have M:=aA (aI O N);rw[O]at c1 q d9 |-;rw[N]at D |-;clear O N;obtain⟨H,L⟩:=eZ (wr.alloc (.cells #[.int .i64 x,.int .i64 y] 92));obtain⟨V,hV⟩:=eZ (wr.heap.size);have l:=bAl L;have C:=iNw L hV;have v1:H.cell? ⟨V,0,none⟩=some (.int .i64 x):=C.c rfl;have v2:H.cell? ⟨V,1,none⟩=some (.int .i64 y):=C.c rfl;have T:IsC H B #[.int .i64 g1,.int .i64 g2] 92:=MW.of (l.block B MW.lt);go_wp2_with fail;refine(mR x y g1 g2 B H T).mono ?_;rintro e f ⟨rfl,J⟩;have KR:decide ((x,y)=(g1,g2))=false:=by simpa using HX.out.2.1
   rw[KR];have z:IsC f g (cZ (sh rs t m++rj)) 92:=(h.of (l.block g h.lt)).of (J.block g (lL h.lt l.size));have fv:IsC f B #[.int .i64 g1,.int .i64 g2] 92:=T.of (J.block B T.lt);have Fc:IsC f V #[.int .i64 x,.int .i64 y] 92:=C.of (J.block V C.lt);have y1:f.cell? ⟨V,0,none⟩=some (.int .i64 x):=Fc.c rfl;have y2:f.cell? ⟨V,1,none⟩=some (.int .i64 y):=Fc.c rfl;obtain⟨z1,z2⟩:=kI z (i:=d) (by simp;omega);have f1:=z.frozen (d*2);have f2:=z.frozen (d*2+1);have I:Frm (fun k=>k=g) w ((f.setCell ⟨g,d*2,none⟩ (.int .i64 x)).setCell ⟨g,d*2+1,none⟩ (.int .i64 y)):=(((hF.trans (Frm.aa l)).trans (Frm.aa J)).trans (Frm.set (S:=fun k=>k=g) f (p:=⟨g,d*2,none⟩) rfl _)).trans (Frm.set (S:=fun k=>k=g) _ (p:=⟨g,d*2+1,none⟩) rfl _);have K:IsC ((f.setCell ⟨g,d*2,none⟩ (.int .i64 x)).setCell ⟨g,d*2+1,none⟩ (.int .i64 y)) B #[.int .i64 g1,.int .i64 g2] 92:=(fv.set_ne _ (Ne.symm IA)).set_ne _ (Ne.symm IA);have G:IsC ((f.setCell ⟨g,d*2,none⟩ (.int .i64 x)).setCell ⟨g,d*2+1,none⟩ (.int .i64 y)) g (cZ (sh rs t (m+1)++rj)) 92:=by
    have r:=(z.set (d*2) (.int .i64 x)).set (d*2+1) (.int .i64 y);have PP:d <(sh rs t m).length:=by rw[P];omega
    rw[vY _ d x y (by rw[lP];omega),List.set_append_left _ _ PP,<-M.out.2,HX.out.2.2]at r;rw[<-M.out.2];exact r
   have F:=aA (aI G (aI K I));have U7:d+1=t+(m+1)/\ji+1=t+(m+1)+1:=by have:=M.out;omega
   have HJ:=aA U7;clear KR l c1 q v1 v2 L hV I K G U7;go_wp2;go_roundw
   case rel=>
    obtain⟨G,K,I⟩:=F.out;obtain⟨j1,j2⟩:=HJ.out;exact⟨_,_,_,_,_,_,_,_,_,_,_,_,_,_,_,_,_,_,_,_,_,_,_,⟨m+1,by omega,by rw[<-j1];go_num,by rw[<-j2];go_num,G,K,I⟩,rfl⟩
   case measure=>simp[intOf];omega
  ·have Q:m=rs.length-1-t:=by omega
   have D:t+m=rs.length-1:=by omega
   have SG:t+m+1=rs.length:=by omega
   obtain⟨a,s⟩:∃a,a=rs.length-1:=⟨_,rfl⟩;have Nh:IsC wr g (cZ (sh rs t (rs.length-1-t)++rj)) 92:=by rw[<-Q];exact h
   have av:=tV (n:=1) (b:=g) (o:=a*2) wr;have NN:∀Z c,(Builtin.clear_ #[56] Z #[.slice (some ⟨g,a*2,none⟩) 1 c]).run Tryz.prog wr=.ok (.tuple #[]) (wr.setCells g (a*2) ((List.replicate 1 t0).flatMap aU)):=fun Z c=>
    tV wr Z g (a*2) 1 c (by omega) (fun k hk=>by rw[h.cell,Array.getElem?_eq_getElem (by rw[vZ,lP,P];omega)];rfl) (fun k hk=>h.frozen _)
   clear av;have IX:wr.setCells g (a*2) ((List.replicate 1 t0).flatMap aU)=(wr.setCell ⟨g,a*2,none⟩ (.int .i64 0)).setCell ⟨g,a*2+1,none⟩ (.int .i64 0):=rfl;have A:IsC (wr.setCells g (a*2) ((List.replicate 1 t0).flatMap aU)) g (cZ (delE rs t++((0,0) :: rj))) 92:=by
    rw[IX];have r:=(Nh.set (a*2) (.int .i64 0)).set (a*2+1) (.int .i64 0);rw[vY _ a 0 0 (by rw[lP,<-Q,P];omega),s,aNU rs ht rj]at r;rw[s];exact r
   have E:Frm (fun k=>k=g) w (wr.setCells g (a*2) ((List.replicate 1 t0).flatMap aU)):=hF.trans (Frm.a7 (S:=fun k=>k=g) wr rfl _ _);rw[SG,D,<-s];have F:=aA (aI A E);have HL:=aA s;obtain⟨Wf,Uk⟩:=eZ (wr.setCells g (a*2) ((List.replicate 1 t0).flatMap aU));rw[Uk]at NN F;have q1:¬rs.length+rj.length=a:=by omega
   have q2:(a:Int)<=(rs.length:Int):=by omega
   have q3:(rs.length:Int)<=(rs.length:Int)+(rj.length:Int):=by omega
   have q4:rs.length-a=1:=by omega
   have q5:a<=rs.length+rj.length:=by omega
   have q6:(a:Int)<=(rs.length:Int)+(rj.length:Int):=by omega
   clear A E IX Nh h Uk s D SG Q;go_wp2;go_ret;obtain⟨A,E⟩:=F.out;rw[<-HL.out];exact⟨rfl,A,E⟩
structure DpP(w:World)(ρ:Nat->Nat)(P:Nat)(J:List aR)(r:fZ×Int)(e:Ending)(w':World):Prop where
 e:e=.returned (.int .i64 r.2)
 ex:∃ρ' A',St w' ρ' P A' r.1 J/\Mv (fun _=>False) w ρ w' ρ'
theorem aLK{K:Int}(w:World)(ρ:Nat->Nat)(P:Nat)(A:Adr)(f:fZ)(J:List aR)(t H:Nat)(x:Int)(h:St w ρ P A f J)(j:Inv f)(F:Sz K f)(W:K<=900000)(ht:t<f.r.length)(hk:Ok f.n H (aB f t) none none)(hx:f.r.getD t (0,0)=(x,(aB f t:Int))):
  Calls Tryz.prog 86 #[.pointer (some ⟨P,0,none⟩),.agg #[.int .i64 x,.int .i64 (aB f t)]] w (DpP w ρ P J (drop f t H)):=by
 have Nu:∀(fn:Fn) (first cap:Array Value) (w:World),(Instr.makeFunc fn first cap).run Tryz.prog w=.ok (.func fn first cap) w:=fun _ _ _ _=>rfl;obtain⟨B,E⟩:=eZ (w.heap.size);obtain⟨w0,l⟩:=eZ (w.alloc (.cells #[.int .i64 x,.int .i64 (aB f t)] 92));have C:Bl w w0:=by rw[<-l];exact(bQ w.heap.size w).alloc (nR _) _
 have u:=iNw l E;have G:=h.below C;obtain⟨ja,jp,jj,a,hJ⟩:=id G;have s:ρ B=0:=Nat.eq_zero_of_not_pos fun q=>by
  obtain⟨_,_,_,L,_⟩:=id h;have:=L.own B (by omega);omega
 have r:A.ra≠B:=fun e=>by have:=a.rr;rw[e,s]at this;omega
 have r0:w0.cell? ⟨P,0,none⟩=some (.slice (some ⟨A.ra,0,none⟩) f.r.length (f.r.length+A.rj.length)):=by rw[a.hP.cell];rfl
 have jy:=j.bq;have m:=bM f.r t ht;have N:A.ra≠P:=fun e=>by have g:=a.rr;have c:=a.rP;rw[e]at g;omega
 have O:B≠P:=fun e=>by have c:=a.rP;rw[<-e,s]at c;omega
 have HE:=aA (aI E l);go_enter Tryz.func86,Tryz.ntmps86;go_wp2_with fail;refine(rR A.ra B t f.r A.rj x (aB f t) w0 a.hr u r ht hx (fun i Z S=>by rw[<-hx];exact aAJ j ht Z S) (by omega) a.rs).mono ?_;rintro e w1 ⟨rfl,li,k⟩;obtain⟨b,d⟩:=G.bw k li (.inl rfl) (by have:=a.rs;simp only[List.length_cons];omega);have V:oV ρ A.ra=ρ:=funext fun y=>by
  unfold oV;split
  ·rename_i e;rw[e];exact a.rr.symm
  ·rfl
 rw[V]at b d;have R:(delE f.r t).length+((0,0) :: A.rj:List (Int×Int)).length=f.r.length+A.rj.length:=by rw[m];simp only[List.length_cons];omega
 rw[R,m]at b d;have p:IsC w1 P _ _:=a.hP.ae k (fun e=>N e.symm);have r1:w1.cell? ⟨P,0,none⟩=some (.slice (some ⟨A.ra,0,none⟩) f.r.length (f.r.length+A.rj.length)):=p.c rfl;have z1:=p.frozen 0;have D:IsC (w1.setCell ⟨P,0,none⟩ (.slice (some ⟨A.ra,0,none⟩) (f.r.length-1) (f.r.length+A.rj.length))) B #[.int .i64 x,.int .i64 (aB f t)] 92:=(u.ae k (Ne.symm r)).set_ne _ O;have T:(w1.setCell ⟨P,0,none⟩ (.slice (some ⟨A.ra,0,none⟩) (f.r.length-1) (f.r.length+A.rj.length))).cell? ⟨B,1,none⟩=some (.int .i64 (aB f t)):=D.c rfl;have I:Mv (fun _=>False) w ρ (w1.setCell ⟨P,0,none⟩ (.slice (some ⟨A.ra,0,none⟩) (f.r.length-1) (f.r.length+A.rj.length))) ρ:=((Mv.aa (X:=fun y=>y=A.ra/\ρ y=0) C).trans d (fun _ _ e=>e)).up fun y _ e=>by
  obtain⟨g,c⟩:=e;rw[g,a.rr]at c;omega
 have Q:=aLL j ht hk;have M:Sz K (fR f t):=F.of rfl rfl F.cb fun _ _ q=>.inl q;obtain⟨w2,U⟩:=eZ (w1.setCell ⟨P,0,none⟩ (.slice (some ⟨A.ra,0,none⟩) (f.r.length-1) (f.r.length+A.rj.length)));rw[U]at b d I T D;go_wp2_with fail;refine(aGX W H w2 ρ P {A with ra:=A.ra,rj:=(0,0) :: A.rj} (fR f t) J (aB f t) b M Q).mono ?_;rintro e w3 ⟨rfl,⟨φ',z⟩,v⟩;have n:Mv (fun _=>False) w ρ w3 ρ:=by
  refine I.trans (Y:=fun _=>False) ⟨v.wide fun y _ e=>.inl ?_,fun _ _ _=>rfl⟩ (fun _ _ e=>e);rcases e with e | e
  ·rw[e];have:=a.rc;show ρ A.c≠0;omega
  ·rw[e];have:=a.rm;show ρ A.m≠0;omega
 have o:=aA (aI z n);clear z n v;go_wp2;go_ret;exact⟨rfl,ρ,_,o.out.1,o.out.2⟩
end Go.Proofs.YtmpagpeenjddgaaGreat
namespace Go.Proofs.YtmpagpeenjddgaaGreat
open Go.RowKit Fo
def RdT(w:World)(v:Value)(rs:List (Int×Int)):Prop:=
 ∃a cap,v=.slice a rs.length cap/\(0<rs.length->∃b off,a=some ⟨b,off,none⟩/\∀i,i<rs.length->w.cell? ⟨b,off+i*2,none⟩=some (.int .i64 (rs.getD i (0,0)).1)/\w.cell? ⟨b,off+i*2+1,none⟩=some (.int .i64 (rs.getD i (0,0)).2))
theorem RdT.of{w:World}{g cap:Nat}{rs rj:List (Int×Int)}(h:IsC w g (cZ (rs++rj)) 92):RdT w (.slice (some ⟨g,0,none⟩) rs.length cap) rs:=
 ⟨_,cap,rfl,fun _=>⟨g,0,rfl,fun i a=>by
  have:=kI h (i:=i) (by simp;omega)
  rw[gD,List.getElem?_append_left a,<-gD]at this;simpa using this⟩⟩
def qO(x y:Int):Int:=if x<y then -1 else if x>y then 1 else 0
theorem vM(x:Int)(w:World):Calls Tryz.prog 89 #[.int .i64 x] w fun e w'=>e=.returned (.bool false)/\w=w':=by
 have h:(x != x)=false:=by simp
 go_enter Tryz.func89,Tryz.ntmps89
 go_wp2
 go_ret
 exact⟨rfl,rfl⟩
theorem yU(x y:Int)(w:World):Calls Tryz.prog 62 #[.int .i64 x,.int .i64 y] w fun e w'=>e=.returned (.int .i64 (qO x y))/\w=w':=by
 have b:Hid (qO x y=if x<y then -1 else if x>y then 1 else 0):=rfl;go_enter Tryz.func62,Tryz.ntmps62;go_wp2_with fail;refine(vM _ _).mono ?_;rintro e w1 ⟨rfl,rfl⟩;go_wp2_with fail;refine(vM _ _).mono ?_;rintro e w1 ⟨rfl,rfl⟩;by_cases c:x<y
 ·have a:Hid (qO x y=-1):=by rw[b.out,if_pos c];rfl
  go_wp2
  go_ret
  exact⟨by rw[a.out];rfl,rfl⟩
 ·by_cases d:y<x
  ·have a:Hid (qO x y=1):=by rw[b.out,if_neg c,if_pos d];rfl
   go_wp2
   go_ret
   exact⟨by rw[a.out];rfl,rfl⟩
  ·have a:Hid (qO x y=0):=by rw[b.out,if_neg c,if_neg d];rfl
   go_wp2
   go_ret
   exact⟨by rw[a.out];rfl,rfl⟩
theorem xY(x y:Int)(w:World):Calls Tryz.prog 175 #[.agg #[.int .i64 x,.int .i64 y]] w fun e w'=>e=.returned (.int .i64 x)/\Bl w w':=by
 have a:=(bQ w.heap.size w).alloc (nR _) (.cells #[.int .i64 x,.int .i64 y] 92);go_enter Tryz.func175,Tryz.ntmps175;go_wp2;go_ret;exact⟨rfl,a⟩
theorem tD(v:Value)(w:World):(Go.method 335 92 v "loop.example/s01595/impl.sortKey").run Tryz.prog w=.ok (175,v) w:=by kernel_rfl
theorem oS(x y k:Int)(w:World):Calls Tryz.prog 61 #[.agg #[.int .i64 x,.int .i64 y],.int .i64 k] w fun e w'=>e=.returned (.int .i64 (qO x k))/\Bl w w':=by
 have b:=(bQ w.heap.size w).alloc (nR _) (.cells #[.int .i64 x,.int .i64 y] 92);have d:=tD;go_enter Tryz.func61,Tryz.ntmps61;go_wp2_with fail;refine(xY x y _).mono ?_;rintro e w1 ⟨rfl,a⟩;have c:=b.trans (a.mono b.size);clear a;go_wp2_with fail;refine(yU _ _ _).mono ?_;rintro e f ⟨rfl,rfl⟩;go_wp2;go_ret;exact⟨rfl,c⟩
def aHE(rs:List (Int×Int)):Prop:=∀i j,i<=j->j<rs.length->(rs.getD i (0,0)).1<=(rs.getD j (0,0)).1
def aHI(rs:List (Int×Int))(key:Int)(e:Ending):Prop:=∃i:Nat,∃b,e=.returned (.tuple #[.int .i64 i,.bool b])/\i<=rs.length/\(∀a,a<i->(rs.getD a (0,0)).1<key)/\(∀a,i<=a->a<rs.length->key<=(rs.getD a (0,0)).1)/\(b=true↔i<rs.length/\(rs.getD i (0,0)).1=key)
theorem aAM(v:Value)(rs:List (Int×Int))(key:Int)(w:World)(K:RdT w v rs)(hn:rs.length<=1048576)(C:aHE rs):
  Calls Tryz.prog 60 #[v,.int .i64 key,.func (.func 61) #[] #[]] w fun e w'=>Bl w w'/\aHI rs key e:=by
 obtain⟨a,I,rfl,k⟩:=K;go_enter Tryz.func60,Tryz.ntmps60;go_wp2;go_loopw [9,10] (fun u v wr=>∃i j:Nat,i<=j/\j<=rs.length/\u=.int .i64 i/\v=.int .i64 j/\Bl w wr/\(∀a,a<i->(rs.getD a (0,0)).1<key)/\∀a,j<=a->a<rs.length->key<=(rs.getD a (0,0)).1) (fun u v _=>(intOf v).toNat -(intOf u).toNat)
 case atStart=>exact⟨0,rs.length,Nat.zero_le _,nR _,rfl,rfl,bQ _ _,fun a J=>by omega,fun a A B=>by omega⟩
 case round=>
  obtain⟨i,j,Q,s,rfl,rfl,c,r,m⟩:=hrel;by_cases P:i<j
  ·obtain⟨b,off,rfl,g⟩:=k (by omega)
   have O:i<=(i+j) / 2/\(i+j) / 2<j:=by omega
   obtain⟨g1,d⟩:=g ((i+j) / 2) (by omega);have l:b<w.heap.size:=World.block_lt_of_cell? _ _ g1;rw[<-c.cell (p:=⟨b,off+(i+j) / 2*2,none⟩) l]at g1;rw[<-c.cell (p:=⟨b,off+(i+j) / 2*2+1,none⟩) l]at d;have M:(i:Int) <(j:Int):=by omega
   obtain⟨p,f⟩:∃p,Hid (rs.getD ((i+j) / 2) (0,0)=p):=⟨_,rfl⟩;rw[f.out]at g1 d;obtain⟨x,y⟩:=p;simp only at g1 d;have n:Hid (∀a,a<i->(rs.getD a (0,0)).1<key):=r;have o:Hid (∀a,j<=a->a<rs.length->key<=(rs.getD a (0,0)).1):=m;clear k g r m;go_wp2_with fail;refine(oS x y key _).mono ?_;rintro e w1 ⟨rfl,h⟩;have q:=c.trans (h.mono c.size);have z:Hid (qO x key=if x<key then -1 else if x>key then 1 else 0):=rfl;clear g1 d h c;by_cases t:x<key
   ·rw[z.out,if_pos t]
    have E:Hid (∀a,a <(i+j) / 2+1->(rs.getD a (0,0)).1<key):=fun a J=>by
     have:=C a ((i+j) / 2) (by omega) (by omega)
     rw[f.out]at this;simp only at this;omega
    go_wp2
    go_roundw
    case rel=>exact⟨(i+j) / 2+1,j,by omega,s,by go_num,rfl,q,E.out,o.out⟩
    case measure=>simp[intOf];omega
   ·have N:¬qO x key<0:=by rw[z.out,if_neg t];split<;>omega
    have H:Hid (∀a,(i+j) / 2<=a->a<rs.length->key<=(rs.getD a (0,0)).1):=fun a A B=>by
     have:=C ((i+j) / 2) a A B
     rw[f.out]at this;simp only at this;omega
    generalize qO x key=cv at *;clear t;go_wp2;go_roundw
    case rel=>exact⟨i,(i+j) / 2,by omega,by omega,rfl,by go_num,q,n.out,H.out⟩
    case measure=>simp[intOf];omega
  ·have F:i=j:=by omega
   subst F;have n:Hid (∀a,a<i->(rs.getD a (0,0)).1<key):=r;have o:Hid (∀a,i<=a->a<rs.length->key<=(rs.getD a (0,0)).1):=m;clear r m;by_cases L:i<rs.length
   ·obtain⟨b,off,rfl,g⟩:=k (by omega)
    obtain⟨g1,d⟩:=g i L;have l:b<w.heap.size:=World.block_lt_of_cell? _ _ g1;rw[<-c.cell (p:=⟨b,off+i*2,none⟩) l]at g1;rw[<-c.cell (p:=⟨b,off+i*2+1,none⟩) l]at d;have G:(i:Int) <(rs.length:Int):=by omega
    obtain⟨p,f⟩:∃p,Hid (rs.getD i (0,0)=p):=⟨_,rfl⟩;rw[f.out]at g1 d;obtain⟨x,y⟩:=p;simp only at g1 d;clear k g;go_wp2_with fail;refine(oS x y key _).mono ?_;rintro e w1 ⟨rfl,h⟩;have q:=c.trans (h.mono c.size);have D:Hid ((qO x key == 0)=true↔i<rs.length/\(rs.getD i (0,0)).1=key):=by
     show _↔_
     rw[f.out];unfold qO;split
     ·simp;omega
     ·split
      ·simp;omega
      ·simp;omega
    generalize qO x key=cv at *;clear g1 d h c;go_wp2;exact bodyPost_ret (v:=.tuple #[.int .i64 i,.bool (cv == 0)]) (by simp[results,Tryz.results60,go_sem]) rfl ⟨q,i,_,rfl,s,n.out,o.out,D.out⟩
   ·clear k
    have G:¬(i:Int) <(rs.length:Int):=by omega
    go_wp2
    exact bodyPost_ret (v:=.tuple #[.int .i64 i,.bool false]) (by simp[results,Tryz.results60,go_sem]) rfl ⟨c,i,_,rfl,s,n.out,o.out,by simp;omega⟩
theorem oU(v:Value)(rs:List (Int×Int))(key:Int)(w:World)(j:RdT w v rs)(hn:rs.length<=1048576)(o:aHE rs):
  Calls Tryz.prog 37 #[v,.int .i64 key] w fun e w'=>Bl w w'/\aHI rs key e:=by
 obtain⟨a,c,k,n⟩:=id j;subst k;have p:∀(fn:Fn) (first c:Array Value) (w:World),(Instr.makeFunc fn first c).run Tryz.prog w=.ok (.func fn first c) w:=fun _ _ _ _=>rfl;clear n;go_enter Tryz.func37,Tryz.ntmps37;go_wp2_with fail;refine(aAM _ rs key _ j hn o).mono ?_;rintro e w1 ⟨m,i,b,rfl,d,f,g,h⟩;have l:Hid (aHI rs key (.returned (.tuple #[.int .i64 i,.bool b]))):=⟨i,b,rfl,d,f,g,h⟩;clear d f g h;go_wp2;exact bodyPost_ret (v:=.tuple #[.int .i64 i,.bool b]) (by simp[results,Tryz.results37,go_sem]) rfl ⟨m,l.out⟩
end Go.Proofs.YtmpagpeenjddgaaGreat
namespace Go.Proofs.YtmpagpeenjddgaaGreat
open Go.RowKit Go.Shelf Fo
def atT(f:fZ)(tree:Int):Option Nat:=(List.range f.r.length).find? fun i=>rid f i == tree
theorem mO{f:fZ}{tree:Int}{t:Nat}(h:atT f tree=some t):t<f.r.length/\rid f t=tree:=by
 unfold atT at h;rw[List.find?_range_eq_some]at h;exact⟨by simpa using h.2.1,by simpa using h.1⟩
theorem aMU{f:fZ}(h:Inv f):aHE f.r:=fun i j b a=>by
 rcases Nat.lt_or_eq_of_le b with q | q
 ·have:=h.ids i j q a;unfold rid at this;omega
 ·subst q;exact Int.le_refl _
theorem aHP{f:fZ}{tree:Int}{i:Nat}{b:Bool}(h1:i<=f.r.length)(h2:∀a,a<i->(f.r.getD a (0,0)).1<tree)(k:Inv f)(h3:∀a,i<=a->a<f.r.length->tree<=(f.r.getD a (0,0)).1)(g:b=true↔i<f.r.length/\(f.r.getD i (0,0)).1=tree):atT f tree=if b then some i else none:=by
 unfold atT;cases b with
 | true=>
  obtain⟨l,m⟩:=g.1 rfl;simp only[if_true];rw[List.find?_range_eq_some];refine⟨by rw[show rid f i=tree from m];simp,by simpa using l,fun j c=>?_⟩;have:=h2 j c;have d:¬rid f j=tree:=by unfold rid;omega
  simp[d]
 | false=>
  simp only[Bool.false_eq_true,if_false];rw[List.find?_range_eq_none];intro j c;have d:¬rid f j=tree:=fun e=>by
   by_cases q:j<i
   ·have:=h2 j q;unfold rid at e;omega
   ·by_cases n:j=i
    ·subst n;have:=g.2 ⟨c,e⟩;cases this
    ·have h:=k.ids i j (by omega) c
     have o:=h3 i (nR _) (by omega);unfold rid at h e;omega
  simp[d]
def aJW(f:fZ)(tree:Int):Int:=match atT f tree with
 | some t=>(aB f t:Int)
 | none=>0
theorem wB{f:fZ}{tree:Int}{t:Nat}(h:atT f tree=some t):aJW f tree=(aB f t:Int):=by unfold aJW;rw[h]
theorem wA{f:fZ}{tree:Int}(h:atT f tree=none):aJW f tree=0:=by unfold aJW;rw[h]
theorem aGI{K:Int}(w:World)(ρ:Nat->Nat)(P:Nat)(A:Adr)(f:fZ)(J:List aR)(tree:Int)(h:St w ρ P A f J)(c:Inv f)(y:Sz K f):
  Calls Tryz.prog 20 #[.pointer (some ⟨P,0,none⟩),.int .i64 tree] w fun e w'=>e=.returned (.int .i64 (aJW f tree))/\Bl w w':=by
 obtain⟨z,C,B,o,x⟩:=id h;have r0:w.cell? ⟨P,0,none⟩=some (.slice (some ⟨A.ra,0,none⟩) f.r.length (f.r.length+A.rj.length)):=by rw[o.hP.cell];rfl
 have g:RdT w (.slice (some ⟨A.ra,0,none⟩) f.r.length (f.r.length+A.rj.length)) f.r:=RdT.of o.hr;go_enter Tryz.func20,Tryz.ntmps20;go_wp2_with fail;refine(oU _ f.r tree w g (by have:=c.bq;omega) (aMU c)).mono ?_;rintro e w1 ⟨m,i,b,rfl,r,k,l,a⟩;have d:=aHP r k c l a;cases b with
 | true=>
  obtain⟨p,t⟩:=a.1 rfl;have n:=h.below m;have q:0<=(f.r.getD i (0,0)).2:=(c.ic.rb _ (aP p)).1;obtain⟨v,-⟩:=n.bg p q;obtain⟨_,_,_,s,_⟩:=id n;have r1:w1.cell? ⟨P,0,none⟩=some (.slice (some ⟨A.ra,0,none⟩) f.r.length (f.r.length+A.rj.length)):=by rw[s.hP.cell];rfl
  have u:(i:Int) <(f.r.length:Int):=by omega
  have j:=aA (wB d);clear d k l a t g;go_wp2;go_ret;refine⟨?_,m⟩;rw[j.out];rfl
 | false=>
  have j:=aA (wA d);clear d k l a g;go_wp2;go_ret;refine⟨?_,m⟩;rw[j.out];rfl
def aT(f:fZ)(kind tree:Int)(key val:ByteArray):Nat×Int:=
 if inB kind 1 6=false then(0,5)else if kind=5 then(0,0)else match atT f tree with
  | none=>(0,8)
  | some t=>if((kind=1\/kind=2\/kind=6)/\12<key.size)\/(kind=1/\10<val.size)then(0,4)else(t,0)
theorem aHK{K:Int}(w:World)(ρ:Nat->Nat)(P:Nat)(A:Adr)(f:fZ)(J:List aR)(kind tree:Int)(key val:ByteArray)(h:St w ρ P A f J)(H:Inv f)(hz:Sz K f):
  Calls Tryz.prog 53 #[.pointer (some ⟨P,0,none⟩),.agg #[.int .i64 kind,.int .i64 tree,.string key,.string val]] w fun e w'=>e=.returned (.tuple #[.int .i64 (aT f kind tree key val).1,.int .i64 (aT f kind tree key val).2])/\Bl w w':=by
 obtain⟨B,d⟩:=eZ (w.heap.size);obtain⟨w0,S⟩:=eZ (w.alloc (.cells #[.int .i64 kind,.int .i64 tree,.string key,.string val] 33));have k:Bl w w0:=by rw[<-S];exact(bQ w.heap.size w).alloc (nR _) _
 have s:=iNw S d;have kw:=h.below k;obtain⟨ja,jp,jj,I,hJ⟩:=id kw;have k0:w0.cell? ⟨B,0,none⟩=some (.int .i64 kind):=s.c rfl;have R:w0.cell? ⟨B,1,none⟩=some (.int .i64 tree):=s.c rfl;obtain⟨r,l⟩:∃r,Hid (aT f kind tree key val=r):=⟨_,rfl⟩;rw[l.out];by_cases L:inB kind 1 6=true
 ·have M:aT f kind tree key val=(if kind=5 then((0,0):Nat×Int)else match atT f tree with
   | none=>(0,8)
   | some t=>if((kind=1\/kind=2\/kind=6)/\12<key.size)\/(kind=1/\10<val.size)then(0,4)else(t,0)):=by
   unfold aT;rw[if_neg (by rw[L];simp)]
  have q:=aA M;clear M;go_enter Tryz.func53,Tryz.ntmps53;go_wp2_with fail;refine(eW kind 1 6 w0).mono ?_;rintro e w1 ⟨rfl,rfl⟩;rw[L];by_cases m:kind=5
  ·have a:Hid (r=(0,0)):=by show _=_;rw[<-l.out,q.out,if_pos m]
   subst m;go_wp2;refine bodyPost_ret (v:=.tuple #[.int .i64 0,.int .i64 0]) (by simp[results,Tryz.results53,go_sem]) rfl ?_;rw[a.out];exact⟨rfl,by first | exact k | (rw[<-d];exact k)⟩
  ·have r0:w0.cell? ⟨P,0,none⟩=some (.slice (some ⟨A.ra,0,none⟩) f.r.length (f.r.length+A.rj.length)):=by rw[I.hP.cell];rfl
   have y:RdT w0.drew (.slice (some ⟨A.ra,0,none⟩) f.r.length (f.r.length+A.rj.length)) f.r:=RdT.of I.hr;have ZR:(kind == 5)=false:=by simpa using m
   have U:=I.hP.lt;have T:=s.lt;go_wp2;go_region_held3 (fun w'=>w'.cell? ⟨P,0,none⟩=some (.slice (some ⟨A.ra,0,none⟩) f.r.length (f.r.length+A.rj.length))/\w'.cell? ⟨B,1,none⟩=some (.int .i64 tree)) (first | go_keep | exact⟨r0,R⟩ | exact⟨(u.cell (p:=⟨P,0,none⟩) U).trans r0,(u.cell (p:=⟨B,1,none⟩) T).trans R⟩) ((go_at_call 37;refine(oU _ f.r tree _ y (by have:=H.bq;omega) (aMU H)).mono ?_;rintro e o ⟨Z,i,b,rfl,Y,E,F,G⟩;have u:Bl w0 o:=(bQ w0.heap.size w0).drew.trans Z));have x:=aHP Y E H F G;have c:=k.trans (u.mono k.size);have D:IsC o B #[.int .i64 kind,.int .i64 tree,.string key,.string val] 33:=s.of (u.block B T);have q0:o.cell? ⟨B,0,none⟩=some (.int .i64 kind):=D.c rfl;have q2:o.cell? ⟨B,2,none⟩=some (.string key):=D.c rfl;have q3:o.cell? ⟨B,3,none⟩=some (.string val):=D.c rfl;cases b with
   | false=>
    have a:Hid (r=(0,8)):=by show _=_;rw[<-l.out,q.out,if_neg m,x];rfl
    clear x E F G y;go_wp2;refine bodyPost_ret (v:=.tuple #[.int .i64 0,.int .i64 8]) (by simp[results,Tryz.results53,go_sem]) rfl ?_;rw[a.out];exact⟨rfl,by first | exact c | (rw[<-d];exact c)⟩
   | true=>
    have N:r=if((kind=1\/kind=2\/kind=6)/\12<key.size)\/(kind=1/\10<val.size)then(0,4)else(i,0):=by rw[<-l.out,q.out,if_neg m,x];rfl
    have g:=aA N;clear N x E F G y q l;by_cases c1:kind=1
    ·subst c1
     by_cases j:12<key.size
     ·have n:(12:Int) <(key.size:Int):=by omega
      have a:Hid (r=(0,4)):=by show _=_;rw[g.out];simp[j]
      go_wp2
      refine bodyPost_ret (v:=.tuple #[.int .i64 0,.int .i64 4]) (by simp[results,Tryz.results53,go_sem]) rfl ?_;rw[a.out];exact⟨rfl,by first | exact c | (rw[<-d];exact c)⟩
     ·have n:¬(12:Int) <(key.size:Int):=by omega
      by_cases Q:10<val.size
      ·have qu:(10:Int) <(val.size:Int):=by omega
       have a:Hid (r=(0,4)):=by show _=_;rw[g.out];simp[Q]
       go_wp2
       refine bodyPost_ret (v:=.tuple #[.int .i64 0,.int .i64 4]) (by simp[results,Tryz.results53,go_sem]) rfl ?_;rw[a.out];exact⟨rfl,by first | exact c | (rw[<-d];exact c)⟩
      ·have qu:¬(10:Int) <(val.size:Int):=by omega
       have a:Hid (r=(i,0)):=by show _=_;rw[g.out];simp[j,Q]
       go_wp2
       refine bodyPost_ret (v:=.tuple #[.int .i64 i,.int .i64 0]) (by simp[results,Tryz.results53,go_sem]) rfl ?_;rw[a.out];exact⟨rfl,by first | exact c | (rw[<-d];exact c)⟩
    ·have V:(kind == 1)=false:=by simpa using c1
     by_cases z:kind=2
     ·subst z
      by_cases j:12<key.size
      ·have n:(12:Int) <(key.size:Int):=by omega
       have a:Hid (r=(0,4)):=by show _=_;rw[g.out];simp[j]
       go_wp2
       refine bodyPost_ret (v:=.tuple #[.int .i64 0,.int .i64 4]) (by simp[results,Tryz.results53,go_sem]) rfl ?_;rw[a.out];exact⟨rfl,by first | exact c | (rw[<-d];exact c)⟩
      ·have n:¬(12:Int) <(key.size:Int):=by omega
       have a:Hid (r=(i,0)):=by show _=_;rw[g.out];simp[j]
       go_wp2
       refine bodyPost_ret (v:=.tuple #[.int .i64 i,.int .i64 0]) (by simp[results,Tryz.results53,go_sem]) rfl ?_;rw[a.out];exact⟨rfl,by first | exact c | (rw[<-d];exact c)⟩
     ·have W:(kind == 2)=false:=by simpa using z
      by_cases C:kind=6
      ·subst C
       by_cases j:12<key.size
       ·have n:(12:Int) <(key.size:Int):=by omega
        have a:Hid (r=(0,4)):=by show _=_;rw[g.out];simp[j]
        go_wp2
        refine bodyPost_ret (v:=.tuple #[.int .i64 0,.int .i64 4]) (by simp[results,Tryz.results53,go_sem]) rfl ?_;rw[a.out];exact⟨rfl,by first | exact c | (rw[<-d];exact c)⟩
       ·have n:¬(12:Int) <(key.size:Int):=by omega
        have a:Hid (r=(i,0)):=by show _=_;rw[g.out];simp[j]
        go_wp2
        refine bodyPost_ret (v:=.tuple #[.int .i64 i,.int .i64 0]) (by simp[results,Tryz.results53,go_sem]) rfl ?_;rw[a.out];exact⟨rfl,by first | exact c | (rw[<-d];exact c)⟩
      ·have X:(kind == 6)=false:=by simpa using C
       have a:Hid (r=(i,0)):=by show _=_;rw[g.out];simp[c1,z,C]
       go_wp2
       refine bodyPost_ret (v:=.tuple #[.int .i64 i,.int .i64 0]) (by simp[results,Tryz.results53,go_sem]) rfl ?_;rw[a.out];exact⟨rfl,by first | exact c | (rw[<-d];exact c)⟩
 ·have O:inB kind 1 6=false:=by simpa using L
  have a:Hid (r=(0,5)):=by show _=_;rw[<-l.out];unfold aT;rw[if_pos O]
  go_enter Tryz.func53,Tryz.ntmps53
  go_wp2_with fail
  refine(eW kind 1 6 w0).mono ?_;rintro e w1 ⟨rfl,rfl⟩;rw[O];go_wp2;refine bodyPost_ret (v:=.tuple #[.int .i64 0,.int .i64 5]) (by simp[results,Tryz.results53,go_sem]) rfl ?_;rw[a.out];exact⟨rfl,by first | exact k | (rw[<-d];exact k)⟩
attribute [local go_sem] Oper.semAt_some
def aKU(F:Fence)(n:Nat)(P:Program)(g:Nat)(lb:Array Value)(vs:List (Array Value))(Kp:World->World->Prop)(w:World):Prop:=
 ∀(l:Nat) (J:List (Array Value)->World->Prop) (W:World),Bl w W->AbidesFrom W.heap.size J->
  (∀(pre:List (Array Value)) (x:Array Value) (W1:World),J pre W1->pre++[x] <+: vs->YieldAt F (n-1) P l x W1 fun e W'=>e=.returned (.bool true)/\J (pre++[x]) W'/\Kp W1 W')->
  J [] W->CallsIn F n P g (#[.func (.yield l) #[] #[]]++lb) W fun e W'=>(∃v,e=.returned v)/\J vs W'
structure KpB(B:Nat)(a:Option Nat)(W W':World):Prop where
 size:W.heap.size<=W'.heap.size
 b:W'.heap[B]?=W.heap[B]?
 g:∀g,a=some g->W'.heap[g]?=W.heap[g]?
theorem KpB.refl(B:Nat)(a:Option Nat)(W:World):KpB B a W W:=⟨nR _,rfl,fun _ _=>rfl⟩
theorem KpB.trans{B:Nat}{a:Option Nat}{X Y Z:World}(h:KpB B a X Y)(k:KpB B a Y Z):KpB B a X Z:=⟨lT h.size k.size,k.b.trans h.b,fun g e=>(k.g g e).trans (h.g g e)⟩
theorem KpB.put{B N:Nat}{a:Option Nat}(h1:B<N)(h2:∀g,a=some g->g<N)(W:World)(l:Nat)(o b:Obj)(c:N<=l)(_ho:W.heap[l]?=some o)(_:o.isCells=false)(_:o.isWalk=false):KpB B a W (W.putObj l b):=
 ⟨by simp[World.putObj],World.putObj_heap_other (by omega),fun g e=>World.putObj_heap_other (by have:=h2 g e;omega)⟩
def aJU(r:JE):Value:=.agg #[.int .i64 r.1,.int .i64 r.2.1,eV r.2.2]
def jB(jp:List JE):List (Array Value):=((List.range jp.length).map fun i=>#[.int .i64 ((jp.length-1-i:Nat):Int),aJU (jp.getD (jp.length-1-i) j0)])
theorem pG(a:List JE):(jB a).length=a.length:=by simp[jB]
theorem yJ(a:List JE){m:Nat}(b:m<a.length):(jB a)[m]?=some #[.int .i64 ((a.length-1-m:Nat):Int),aJU (a.getD (a.length-1-m) j0)]:=by
 unfold jB;rw[List.getElem?_map,List.getElem?_range b];rfl
theorem aCI{w:World}{g:Nat}{xs:List JE}(h:IsC w g (jA xs) 178){i:Nat}(a:i<xs.length):w.cell? ⟨g,i*3,none⟩=some (.int .i64 (xs.getD i j0).1)/\w.cell? ⟨g,i*3+1,none⟩=some (.int .i64 (xs.getD i j0).2.1)/\w.cell? ⟨g,i*3+2,none⟩=some (eV (xs.getD i j0).2.2):=by
 rw[h.cell,h.cell,h.cell];exact aJS xs a
theorem wN(F:Fence)(n:Nat)(U:F.fn 132)(Q:F.round=none)(hn:1<=n)(l B c:Nat)(b:Option Nat)(a w:List JE)(PR:a.length<=1000000)(J:List (Array Value)->World->Prop)(B0:Nat)(hJ:AbidesFrom B0 J)
  (E:∀pre (x:Array Value) W,J pre W->pre++[x] <+: jB a->YieldAt F (n-1) Tryz.prog l x W fun e W'=>e=.returned (.bool true)/\J (pre++[x]) W'/\KpB B b W W')
  (W:World) (C:IsC W B #[.slice (adr b) a.length c] 65) (T:∀g,b=some g->IsC W g (jA (a++w)) 178) (H:b=none->a=[]) (S:J [] W):
  CallsIn F n Tryz.prog 132 #[.func (.yield l) #[] #[],.pointer (some ⟨B,0,none⟩)] W fun e W'=>(∃v,e=.returned v)/\J (jB a) W':=by
 have c0:W.cell? ⟨B,0,none⟩=some (.slice (adr b) a.length c):=C.c rfl;have mw:IntKind.i64.wrap ((a.length:Int)-1)=(a.length:Int)-1:=IntWalk.i64_in _ ⟨by omega,by omega⟩;refine callsIn_of_wp Tryz.func132 rfl U ?_ Q;simp only[Tryz.ntmps132,List.size_toArray,List.length_cons,List.length_nil,Nat.reduceAdd,Nat.reduceSub,Array.replicate_succ,Array.replicate_zero,List.push_toArray,List.append_toArray,List.nil_append,List.cons_append];gi_wp2;gi_loopw [3] (fun i wr=>∃m:Nat,m<=a.length/\i=.int .i64 ((a.length:Int)-1-m)/\J ((jB a).take m) wr/\KpB B b W wr) (fun i _=>((intOf i)+1).toNat)
 case atStart=>exact⟨0,Nat.zero_le _,by simp,by simpa using S,KpB.refl _ _ _⟩
 case round=>
  obtain⟨m,hm,rfl,z,o⟩:=hrel;have K:IsC wr B #[.slice (adr b) a.length c] 65:=C.of o.b;have A:wr.cell? ⟨B,0,none⟩=some (.slice (adr b) a.length c):=K.c rfl;by_cases s:m<a.length
  ·obtain⟨g,t⟩:∃g,b=some g:=by
    cases b with
    | none=>rw[H rfl]at s;simp at s
    | some g=>exact⟨g,rfl⟩
   subst t;have P:IsC wr g (jA (a++w)) 178:=(T g rfl).of (o.g g rfl);simp only[adr,Option.map_some]at A;obtain⟨i,q⟩:=exH (a.length-1-m);have p:(a.length:Int)-1-m=(i:Int):=by have:=q.out;omega
   have R:i<a.length:=by have:=q.out;omega
   rw[p];have Fm:(i:Int) <(a.length:Int):=by omega
   obtain⟨j,k,f⟩:=aCI P (i:=i) (by simp;omega);have u:(a++w).getD i j0=a.getD i j0:=by rw[gD,List.getElem?_append_left R,<-gD]
   rw[u]at j k f;have d:=yJ a s;rw[<-q.out]at d;unfold aJU at d;obtain⟨⟨X,Y,Z⟩,r⟩:∃x,a.getD i j0=x:=⟨_,rfl⟩;rw[r]at j k f d;simp only at j k f d;obtain⟨y,I⟩:∃y,eV Z=.pointer y:=⟨_,rfl⟩;rw[I]at f d;have h:Hid ((jB a).take m++[#[.int .i64 (i:Int),.agg #[.int .i64 X,.int .i64 Y,.pointer y]]]=(jB a).take (m+1)):=by
    show _=_
    rw[List.take_add_one,d];rfl
   obtain⟨fn,tmps,assign,body,V,D⟩:=E _ _ _ z (by rw[h.out];exact List.take_prefix _ _);have Y3:IntKind.i64.wrap ((i:Int)-1)=(i:Int)-1:=IntWalk.i64_in _ ⟨by omega,by omega⟩;have M:=aA (aI d (aI u (aI r p)));have L:=aA o;clear E d u r p o;gi_wp2;refine D.mono ?_;rintro e W3 ⟨rfl,G,N⟩;rw[h.out]at G;clear A j k f V D;gi_wp2;go_roundw
   case rel=>exact⟨m+1,by omega,by have:=M.out.2.2.2;congr 1;omega,G,L.out.trans N⟩
   case measure=>simp[intOf]<;>omega
  ·obtain rfl:m=a.length:=by omega
   have h:Hid ((jB a).take a.length=jB a):=List.take_of_length_le (by rw[pG];exact nR _);have O:(a.length:Int)-1-a.length=-1:=by omega
   rw[O];gi_wp2;go_end0;exact⟨⟨_,rfl⟩,by rw[<-h.out];exact z⟩
theorem yK(F:Fence)(n:Nat)(d:F.fn 112)(b:F.round=none)(a:Option Addr)(k c:Nat)(w:World):
  CallsIn F n Tryz.prog 112 #[.slice a k c] w fun e w'=>e=.returned (.func (.func 132) #[] #[.pointer (some ⟨w.heap.size,0,none⟩)])/\w'=w.alloc (.cells #[.slice a k c] 65):=by
 refine callsIn_of_wp Tryz.func112 rfl d ?_ b;simp only[Tryz.ntmps112,List.size_toArray,List.length_cons,List.length_nil,Nat.reduceAdd,Nat.reduceSub,Array.replicate_succ,Array.replicate_zero,List.push_toArray,List.append_toArray,List.nil_append,List.cons_append];gi_wp2;go_ret;exact⟨rfl,rfl⟩
theorem aAK{n:Nat}{P:Program}{row:String}{args:Array Value}{w:World}{R:Value->World->Prop}(h:Rows P row args w R):RowsIn Fence.wide n P row args w R:=
 fun c cs _=>let ⟨v,w',r,s⟩:=h c cs;⟨v,w',r,stepsIn_wide.2 s⟩
structure nI(F:Fence)(P:Program):Prop where
 fn:∀k,F.fn k
 calls:∀(f:FuncId) (args:Array Value) (w:World) (R:Ending->World->Prop) (m:Nat),Calls P f args w R->CallsIn F m P f args w R
 rows:∀(row:String) (args:Array Value) (w:World) (R:Value->World->Prop) (m:Nat),Rows P row args w R->RowsIn F m P row args w R
theorem nI.wide(P:Program):nI Fence.wide P:=⟨fun _=>trivial,fun _ _ _ _ _ h=>callsIn_wide.2 h,fun _ _ _ _ _ h=>aAK h⟩
theorem nI.inRound{F:Fence}{P:Program}(h:nI F P)(l:Nat):nI (F.inRound l) P:=⟨h.fn,fun f args w R m k=>CallsIn.inRound l (h.calls f args w R m k),fun r args w R m k=>h.rows r args w R m k⟩
section
variable {F : Fence} {n : Nat} {P : Program} {ops : Array Oper} {Q : Exit -> Act -> World -> Prop} {md : Region.Mode}
theorem aDE{o:Oper}{a:Act}{w:World}{K:Act->World->Prop}(hF:nI F P)(hn:F.depth.isSome=true->1<=n)(hd:∀c,o.op≠.defer c)(h:o.wp P a w K Q):o.wpIn F n P a w K Q:=by
 refine⟨fun f _=>hF.fn f,?_⟩;rw[Oper.semAt_eq _ _ _ hd];unfold Oper.wp at h;generalize (execOp a.eval o).run P w=r at *;cases r with
 | ok x w'=>
  cases x<;>first | exact h | exact⟨hn,hF.calls _ _ _ _ _ h⟩ | exact⟨hn,hF.rows _ _ _ _ _ h⟩ | exact h.elim
 | halt x w'=>cases x<;>exact h
theorem uK{i:Nat}{a:Act}{w:World}{K:Act->World->Prop}(hF:nI F P)(hn:F.depth.isSome=true->1<=n)(hd:∀(j:Nat) (o:Oper),ops[j]?=some o->∀c,o.op≠.defer c)(e:¬LetsOut Q)(h:wpOp P ops Q i K a w):wpOpIn F n P ops Q i K a w:=by
 unfold wpOp at h;unfold wpOpIn;cases b:ops[i]? with
 | none=>rw[b]at h;exact h
 | some o=>
  rw[b]at h;simp only at h |-;split
  ·rename_i d
   rw[if_pos d]at h;rcases h with h | h
   ·exact aDE hF hn (hd i o b) h
   ·exact absurd h.2 e
  ·rename_i d
   rw[if_neg d]at h;exact⟨fun f _=>hF.fn f,h⟩
theorem lV(hF:nI F P)(hn:F.depth.isSome=true->1<=n)(hd:∀(j:Nat) (o:Oper),ops[j]?=some o->∀c,o.op≠.defer c)(b:¬LetsOut Q):∀(fuel:Nat) (listed:Array Bool) (a:Act) (w:World),wpAny P md ops Q fuel listed a w->wpAnyIn F n P md ops Q fuel listed a w
 | 0,_,_,_,h=>h
 | fuel+1,_,_,_,h=>⟨h.1,fun i f=>wpOpIn_mono (fun d w' e=>lV hF hn hd b fuel _ d w' e) (uK hF hn hd b (h.2 i f))⟩
def xJ(ops:Array Oper):Bool:=ops.toList.all fun o=>match o.op with
 | .defer _=>false
 | _=>true
theorem xK(h:xJ ops=true)(j:Nat)(o:Oper)(b:ops[j]?=some o)(c:Call):o.op≠.defer c:=fun e=>by
 unfold xJ at h;have a:o∈ops.toList:=by
  have:=Array.mem_of_getElem? b
  simpa using this
 have:=List.all_eq_true.1 h o a
 rw[e]at this;cases this
theorem gN(S:World->Prop)(L:Nat){id:Nat}{a:Act}{w:World}(hF:nI F P)(hn:F.depth.isSome=true->1<=n)(hd:xJ ops=true)(b:¬LetsOut Q)(c:P.follows .mixedOrders=true)
  (h:eC P .any ops Q S L ops.size (Array.replicate ops.size false) a w.drew):(Code.region id ops true).wpIn F n P Q a w:=
 wpIn_region_any c (lV hF hn (xK hd) b _ _ _ _ (nG _ _ _ _ h))
end
end Go.Proofs.YtmpagpeenjddgaaGreat
namespace Go.Proofs.YtmpagpeenjddgaaGreat
open Go.RowKit Go.Shelf Fo
variable {w w' : World} {ρ ρ' : Nat -> Nat} {P : Nat} {A : Adr} {f : fZ} {S : Nat -> Prop} {ja : Option Nat} {jp jj : List JE} {J : List aR}
structure JrK(w:World)(ρ:Nat->Nat)(ja:Option Nat)(jp jj:List JE)(J:List aR)(k:Nat):Prop where
 arr:∀g,ja=some g->IsC w g (jA (jp++jj)) 178/\ρ g=6
 nil:ja=none->jp=[]/\jj=[]
 len:jp.length=J.length
 row:∀i,i<k->(jp.getD i j0).1=((J.getD i jr0).1:Int)/\(jp.getD i j0).2.1=(J.getD i jr0).2.1/\
  (match (J.getD i jr0).2.2 with
  | none=>(jp.getD i j0).2.2=none
  | some d=>∃q a junk,(jp.getD i j0).2.2=some q/\ρ q=kG i/\(∀g,a=some g->ρ g=kH i)/\aM w q d a junk)
theorem JrL.eA(h:JrL w ρ ja jp jj J):JrK w ρ ja jp jj J J.length:=⟨h.arr,h.nil,h.len,h.row⟩
def isK(k r:Nat):Prop:=r=6\/∃i,i<k/\(r=kG i\/r=kH i)
theorem JrK.ae{k k':Nat}(h:JrK w ρ ja jp jj J k)(D:k'<=k)(hF:Frm S w w')(E:∀x,ρ x≠0->x<w.heap.size)(y:∀x,S x->¬isK k' (ρ x))(A:∀x,isK k' (ρ x)->ρ' x=ρ x):JrK w' ρ' ja jp jj J k':=by
 have b:∀{x r},ρ x=r->isK k' r->ρ' x=r:=fun {x r} e m=>by rw[A x (e▸m),e]
 have n:∀{x r},ρ x=r->isK k' r->¬S x:=fun {x r} e m z=>y x z (e▸m);have p:isK k' 6:=.inl rfl;refine⟨fun g e=>?_,h.nil,h.len,fun i o=>?_⟩
 ·obtain⟨l,f⟩:=h.arr g e
  exact⟨l.ae hF (n f p),b f p⟩
 ·have s:isK k' (kG i):=.inr ⟨i,o,.inl rfl⟩
  have t:isK k' (kH i):=.inr ⟨i,o,.inr rfl⟩;obtain⟨l,f,j⟩:=h.row i (by omega);refine⟨l,f,?_⟩;cases e:(J.getD i jr0).2.2 with
  | none=>rw[e]at j;exact j
  | some d=>
   rw[e]at j;obtain⟨q,a,c,B,u,v,C⟩:=j;exact⟨q,a,c,B,b u s,fun g e=>b (v g e) t,C.ae hF (n u s) fun g e=>n (v g e) t⟩
theorem St.dead(h:St w ρ P A f J):St w ρ P A f fQ:=by
 obtain⟨c,e,d,a,_⟩:=h;exact⟨c,e,d,a,fun b=>absurd b vE⟩
def aCK(ρ:Nat->Nat)(q:Nat)(a:Option Nat):Nat->Nat:=fun x=>if x=q\/a=some x then 0 else ρ x
theorem St.dt(h:St w ρ P A f fQ){q:Nat}{a:Option Nat}(k:isJ (ρ q))(i:∀g,a=some g->isJ (ρ g)):St w (aCK ρ q a) P A f fQ:=by
 obtain⟨l,n,m,d,_⟩:=h;refine⟨l,n,m,d.ae (S:=fun _=>False) ⟨Frm.refl _ _,fun x b c=>?_,fun x b=>?_⟩ (fun _ _ e=>e.elim),fun j=>absurd j vE⟩
 ·unfold aCK
  split
  ·rename_i e
   rcases e with e | e
   ·rw[e]at c;exact absurd k c.2
   ·exact absurd (i x e) c.2
  ·rfl
 ·unfold aCK at b
  split at b
  ·exact absurd rfl b
  ·exact d.own x b
theorem aNP{k i:Nat}(h:¬i<k):¬isK k (kG i):=fun e=>by
 rcases e with e | ⟨j,a,e | e⟩
 ·unfold kG at e;omega
 ·unfold kG at e;omega
 ·unfold kG kH at e;omega
theorem aNQ{k i:Nat}(h:¬i<k):¬isK k (kH i):=fun e=>by
 rcases e with e | ⟨j,a,e | e⟩
 ·unfold kH at e;omega
 ·unfold kG kH at e;omega
 ·unfold kH at e;omega
theorem aOL{k r:Nat}(h:isK k r):isJ r:=by
 rcases h with e | ⟨j,a,e | e⟩
 ·rw[e];exact aIR
 ·rw[e];exact rA j
 ·rw[e];exact rB j
theorem aEW(f:fZ){i:Nat}(a:i<J.length):eF f (J.drop i)=aMP (eF f (J.drop (i+1))) (J.getD i jr0):=by
 have:J.drop i=J.getD i jr0 :: J.drop (i+1):=by
  rw[gD,gE a];exact List.drop_eq_getElem_cons a
 rw[this];rfl
end Go.Proofs.YtmpagpeenjddgaaGreat
namespace Go.Proofs.YtmpagpeenjddgaaGreat
open Go.RowKit Go.Shelf Fo
attribute [local go_sem] Oper.semAt_some
theorem uJ{F:Fence}{n:Nat}{P:Program}{g:Operand}{ps:Array Tmp}{assign body:Code}{Q:Exit->Act->World->Prop}{a:Act}{w:World}
  (dq:F.round=none) (h1:1<=n) {gf:Nat} {lb:Array Value} (hg:a.eval g=.func (.func gf) #[] lb) (Qf:F.fn gf) (eg:∀args w,(callFunc gf args).run P w=.ok (.enter gf args) w)
  {Kp:World->World->Prop} {vs:List (Array Value)} {w0:World} (LJ:aKU F (n-1) P gf lb vs Kp w0)
  (G:∀{A B C:World},Kp A B->Kp B C->Kp A C) (E:∀(W:World) (l:Nat) (o o':Obj),w.heap.size<=l->W.heap[l]?=some o->o.isCells=false->o.isWalk=false->Kp W (W.putObj l o')) (U:Bl w0 w) (LA:∀x∈vs,x.size=ps.size)
  (I:List (Array Value)->World->Prop) (d:OwnFrom w.heap.size I) (h0:I [] w)
  (vw:∀(l:Nat) (pre:List (Array Value)) (x:Array Value) (W:World),I pre W->pre++[x] <+: vs->
   assign.wpIn (F.inRound l) (n-1-1) P (Exit.then (fun a' W'=>KeepsFrom w.heap.size W W'/\Kp W W'/\∃I2:List Unit->World->Prop,OwnFrom w.heap.size I2/\I2 [] W'/\∀W2,I2 [] W2->body.wpIn (F.inRound l) (n-1-1) P (ownPostG w.heap.size Kp I (fun _ _ _=>False) (pre++[x]) W2) a' W2) (fun _ _ _=>False)) {tmps:=(ps.zip x).foldl (fun t (p,v)=>t.setIfInBounds p v) a.tmps,defers:=[]} W)
  (S:∀(D:Nat) (W:World),w.heap.size<=D->I vs W->W.heap[D]?=some (.deferred (some []))->Q .normal {a with defers:={target:=.collected D,args:=#[]} :: a.defers} W):
  (Code.rangeFunc g ps assign body).wpIn F n P Q a w:=by
 refine wpIn_rangeFunc fun fn qg=>?_;rw[dq];obtain⟨D,q⟩:=eZ (w.heap.size);obtain⟨R,b⟩:∃R:LoopState->Option Code->Loop,R=fun st pe=>{state:=st,pending:=pe,fn,tmps:=a.tmps,params:=ps,assign,body,defers:=w.heap.size}:=⟨_,rfl⟩;obtain⟨V,f⟩:=eZ ((w.alloc (.deferred (some []))).alloc (.loop (R .ready none)));have sz:V.heap.size=D+2:=by rw[<-f,<-q];simp
 have J:V.heap[D+1]?=some (.loop (R .ready none)):=by
  have:=World.alloc_heap_new (w.alloc (.deferred (some []))) (.loop (R .ready none))
  rw[World.size_alloc,f,q]at this;exact this
 have H:V.heap[D]?=some (.deferred (some [])):=by
  rw[<-f,<-q];exact(Below.heap_alloc _ _ _ (by simp)).trans (World.alloc_heap_new w _)
 have c:I [] V:=by rw[<-f];exact d.alloc _ (d.alloc _ h0)
 have old:Bl w0 V:=by
  rw[<-f];exact U.trans ((((bQ _ w).alloc (nR _) _).alloc (by simp) _).mono U.size)
 refine⟨D+1,[{target:=.collected D,args:=#[]}],V,{target:=.fn (.func gf) lb,args:=#[.func (.yield (D+1)) #[] #[]]},V,gf,#[.func (.yield (D+1)) #[] #[]]++lb,V,?_,?_,?_,?_,fun _=>h1,?_⟩
 ·rw[<-f,<-q,b];exact run_enterLoop_outer _ _ _ _ _
 ·simp only[resolve,hg];simp[go_sem]
 ·intro f' T;simp[Target.leads]at T;subst T;exact Qf
 ·simp[invoke,go_sem,eg]
 rw[q]at d E vw S;have m:AbidesFrom V.heap.size fun pre W=>I pre W/\W.heap[D+1]?=some (.loop (R .ready none))/\W.heap[D]?=some (.deferred (some [])):=fun s X Y O u N k=>
  ⟨d s X Y O u.1 N fun r e=>by obtain⟨hB,o,ho,hw⟩:=k r e;exact⟨by omega,o,ho,Obj.not_cells_of_walk hw⟩,
   (grownBy_keeps N (fun r e=>(k r e).2) u.2.1 rfl).trans u.2.1,(grownBy_keeps N (fun r e=>(k r e).2) u.2.2 rfl).trans u.2.2⟩
 refine(LJ (D+1) _ V old m (fun pre x W hJ me=>?_) ⟨c,J,H⟩).mono ?_
 ·obtain⟨K,i,L⟩:=hJ
  have ak:D+1<W.heap.size:=(Array.getElem?_eq_some_iff.1 i).1;have M:=run_yield (P:=P) (args:=x) i (by rw[b];exact LA x (me.subset (by simp)));rw[b]at M;refine⟨fn,_,assign,body,M,roundIn_of_wpIn qg (wpIn_mono (vw (D+1) pre x W K me) ?_)⟩;clear M;rintro e a' W' h;cases e with
  | ret=>exact h
  | exit id=>exact h
  | goto t=>exact h
  | panic ch=>exact h
  | outgrown=>exact h
  | normal=>
  obtain⟨kA,pA,I2,FU,AK,Ei⟩:=h;have z:=kA.same _ _ (by omega) i rfl;have sd:=kA.same _ _ (nR _) L rfl;have DW:D+1<W'.heap.size:=(Array.getElem?_eq_some_iff.1 z).1;refine⟨_,run_beginRound z (by rw[b]),?_⟩;have b2:(W'.putObj (D+1) (.loop {R .ready none with state:=.busy})).heap[D+1]?=some (.loop {R .ready none with state:=.busy}):=World.putObj_heap_same DW;have d2:(W'.putObj (D+1) (.loop {R .ready none with state:=.busy})).heap[D]?=some (.deferred (some [])):=(World.putObj_heap_other (by omega)).trans sd;refine wpIn_mono (Ei _ (FU.putObj _ AK (by omega) z rfl)) ?_;rintro e a3 W3 j;cases e with
  | normal=>
   obtain⟨Z,p3,i3⟩:=j;have y:=Z.same _ _ (by omega) b2 rfl;have k:=run_endRound (P:=P) none y;rw[b]at k y;refine⟨_,_,k,rfl,⟨d.putObj _ i3 (by omega) y rfl,?_,?_⟩,G pA (G (G (E _ _ _ _ (by omega) z rfl rfl) p3) (E _ _ _ _ (by omega) y rfl rfl))⟩
   ·rw[b];exact World.putObj_heap_same (Array.getElem?_eq_some_iff.1 y).1
   ·exact(World.putObj_heap_other (by omega)).trans (Z.same _ _ (nR _) d2 rfl)
  | ret=>exact j.2.elim
  | exit id=>exact j.2.elim
  | goto t=>exact j.2.elim
  | panic ch=>exact j.elim
  | outgrown=>exact j.elim
 ·rintro e W2 ⟨⟨v,rfl⟩,K,i,L⟩
  exact⟨none,_,by have:=run_endLoop (P:=P) i (by rw[b];simp);rw[b]at this;exact this,S _ _ (nR _) (d.putObj _ K (by omega) i rfl) ((World.putObj_heap_other (by omega)).trans L)⟩

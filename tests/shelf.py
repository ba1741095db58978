"""A shelf of deeds that keep what they claim, each as it is written."""

from cellvouch.texts import read_deed

TEXTS = """
deed rev takes x ; tells y
ahead row x 0 r
behind row y 0 ~r
set z x
while z isn't 0
  ahead row z 0 p ; row y 0 q
  behind row y 0 ~p q
  get n z next
  put z next y
  set y z
  set z n

deed revto takes x y ; tells z
ahead row x 0 r ; row y 0 s
behind row z 0 ~r s
if x is 0
  set z y
else
  get n x next
  put x next y
  call z = revto n x

deed twice takes x ; tells y
ahead row x 0 r
behind row y 0 r
call y = rev x
call y = rev y

deed join takes x y ; tells -
ahead cell x v n ; row n 0 r ; row y 0 s
behind row x 0 =v r s
set u y
set a x
get m a next
while u isn't 0
  ahead cell a w m ; row m 0 p ; row u 0 q ; same o a
  behind row o 0 =w p q
  if m is 0
    put a next u
    set m u
    set u 0
  else
    set a m
    get m a next

deed append takes x y ; tells z
ahead row x 0 r ; row y 0 s
behind row z 0 r s
if x is 0
  set z y
else
  get n x next
  call m = append n y
  put x next m
  set z x

deed copy takes x ; tells y
ahead row x 0 r
behind row x 0 r ; row y 0 r
set z x
while z isn't 0
  ahead row x z a ; row z 0 b ; row y 0 c
  behind row x 0 a b ; row y 0 ~b c
  get w z worth
  new y w y
  get z z next
call y = rev y

deed copyrec takes x ; tells y
ahead row x 0 r
behind row x 0 r ; row y 0 r
if x is 0
  set y 0
else
  get n x next
  get v x worth
  call m = copyrec n
  new y v m

deed freeall takes x ; tells -
ahead row x 0 r
behind none
set z x
while z isn't 0
  ahead row z 0 p
  behind none
  get n z next
  free z
  set z n

deed freerec takes x ; tells -
ahead row x 0 r
behind none
if x isn't 0
  get n x next
  free x
  call - = freerec n
else
  pass

deed find takes x v ; tells y
ahead row x 0 r
behind row x 0 r
set z x
while z isn't 0
  ahead row x z a ; row z 0 b
  behind row x 0 a b
  get w z worth
  get n z next
  if w is v
    set y z
    set z 0
  else
    set z n

deed findrec takes x v ; tells y
ahead row x 0 r
behind row x 0 r
if x isn't 0
  get w x worth
  if w is v
    set y x
  else
    get n x next
    call y = findrec n v
else
  pass

deed cut takes x z ; tells -
ahead row x z p ; row z 0 q ; apart x z
behind row x 0 p ; row z 0 q
get n x next
if n is z
  put x next 0
else
  call - = cut n z

deed pairs takes x ; tells y
ahead row x 0 r
behind row x 0 r ; row y 0 r ~r
call a = copy x
call b = copy x
call b = rev b
call y = append a b

deed swap takes x y ; tells -
ahead cell x v n ; cell y w m
behind cell x w n ; cell y v m
get a x worth
get b y worth
put x worth b
put y worth a

deed pop takes x ; tells y
ahead row x 0 r ; apart x 0
behind row y 0 s
get y x next
free x

deed second takes x ; tells y
ahead cell x a n ; cell n b m ; row m 0 r
behind row x 0 =a =b r ; same y b
get y x next
get y y worth

deed nested takes x ; tells -
ahead row x 0 r
behind row x 0 r
set a x
while a isn't 0
  ahead row x a p ; row a 0 q
  behind row x 0 p q
  set b x
  while b isn't a
    ahead row x b s ; row b a t ; row a 0 u
    behind row x a s t ; row a 0 u
    get b b next
  get a a next

deed mark takes x ; tells -
ahead row x 7 r ; cell 7 0 n
behind row x 7 r ; cell 7 1 n
put 7 worth 1

deed ring takes x ; tells y
ahead none
behind cell y x y
new y x 0
put y next y

deed room takes - ; tells y
ahead none
behind none
new y 1 2
free y"""

DEEDS = [read_deed(text) for text in TEXTS.strip("\n").split("\n\n")]
BY_NAME = {some[0]: some for some in DEEDS}


def without_row(text, row):
    """The text without one of its rows."""
    rows = text.split("\n")
    return "\n".join(rows[:row] + rows[row + 1:])

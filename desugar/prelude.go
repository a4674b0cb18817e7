package desugar

// prelude is the text of the chapter, where the names in double quotes are those of quotedNames.
const prelude = `
def "..": def r: ., (.[]? | r); r;
def "=" (p; f): f as $v | reduce path(p) as $q (.; setpath($q; $v));
def "|=" (p; f): reduce path(p) as $q ([., []]; . as $s | label $out | ((($s[0] | getpath($q) | f) as $v | [($s[0] | setpath($q; $v)), $s[1]] | (., break $out)), [$s[0], $s[1] + [$q]])) | . as $s | $s[0] | delpaths($s[1]);
def "+=" (p; f): f as $v | "|="(p; . + $v);
def "-=" (p; f): f as $v | "|="(p; . - $v);
def "*=" (p; f): f as $v | "|="(p; . * $v);
def "/=" (p; f): f as $v | "|="(p; . / $v);
def "%=" (p; f): f as $v | "|="(p; . % $v);
def map(f): [.[] | f];
def select(f): if f then . else empty end;
def recurse: def r: ., (.[]? | r); r;
def recurse(f): def r: ., (f | r); r;
def range($n): 0 | def r: if . < $n then ., (. + 1 | r) else empty end; r;
def range($m; $n): $m | def r: if . < $n then ., (. + 1 | r) else empty end; r;
def while(c; f): def r: if c then ., (f | r) else empty end; r;
def until(c; f): def r: if c then . else f | r end; r;
def repeat(f): def r: ., (f | r); r;
def limit($n; f): if $n > 0 then label $out | foreach f as $x (0; . + 1; $x, if . >= $n then break $out else empty end) else empty end;
def first(f): label $out | f | (., break $out);
def last(f): reduce f as $x (null; $x);
def nth($n; f): last(limit($n + 1; f));
def isempty(f): label $out | (f | false, break $out), true;
def any(f): isempty(.[] | f // empty) | not;
def all(f): isempty(.[] | if f then empty else true end);
def del(f): delpaths([path(f)]);
def to_array: if type == "array" then . else [.] end;
def with_entries(f): to_entries | map(f) | from_entries;
def map_values(f): "|="(.[]; f);
def sort_by(f): sort_keys([.[] | [f]]);
def group_by(f): group_keys([.[] | [f]]);
def unique_by(f): unique_keys([.[] | [f]]);
def min_by(f): min_keys([.[] | [f]]);
def max_by(f): max_keys([.[] | [f]]);
def walk(f): def w: if type == "object" then map_values(w) else if type == "array" then map(w) else . end end | f; w;
def paths: path("..") | select(length > 0);
def leaf_paths: . as $v | paths | select(. as $p | $v | getpath($p) | type | . != "array" and . != "object");
def inside($w): . as $v | $w | contains($v);
def combinations: if length == 0 then [] else .[0][] as $x | (.[1:] | combinations) as $r | [$x] + $r end;
def in($w): . as $k | $w | has($k);
def flatten: flatten(1000);
`

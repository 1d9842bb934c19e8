package xml

import (
	"slices"
	"strconv"
	"strings"

	"catchword/api"
	"catchword/utf"
)

// reader reads a document from the left, up to its first fault; all signs of the document are such that may stand there.
type reader struct {
	rest  string // what isn't read yet
	nodes []Node
	open  []int  // the elements that haven't ended, the innermost one last
	text  []byte // the text that may go on; it is no node yet
}

// document reads all.
func (r *reader) document() api.Errno {
	if e := r.heading(); e != api.OK {
		return e
	}
	if e := r.between(); e != api.OK {
		return e
	}
	if !r.take("<") {
		return api.ErrXML
	}
	if e := r.beginning(); e != api.OK {
		return e
	}
	for len(r.open) > 0 {
		if e := r.part(); e != api.OK {
			return e
		}
	}
	if e := r.between(); e != api.OK {
		return e
	}
	if r.rest != "" {
		return api.ErrXML
	}
	return api.OK
}

// heading reads what may stand at the very beginning alone, if it is there.
func (r *reader) heading() api.Errno {
	behind, ok := strings.CutPrefix(r.rest, "<?xml")
	if !ok || behind == "" || !blank(behind[0]) {
		return api.OK
	}
	r.rest = behind
	_, e := r.upTo("?>")
	return e
}

// between reads what may stand ahead of, and behind, the outermost element.
func (r *reader) between() api.Errno {
	for {
		r.blanks()
		e := api.OK
		switch {
		case r.take("<!--"):
			e = r.remark()
		case r.take("<?"):
			e = r.instruction()
		default:
			return api.OK
		}
		if e != api.OK {
			return e
		}
	}
}

// part reads the next thing in an element, or the element's end.
func (r *reader) part() api.Errno {
	switch {
	case r.take("<![CDATA["):
		text, e := r.upTo("]]>")
		if e != api.OK {
			return e
		}
		return r.goOn(text)
	case strings.HasPrefix(r.rest, "<"):
		r.endText()
		return r.mark()
	case r.take("&"):
		sign, e := r.reference()
		if e != api.OK {
			return e
		}
		return r.goOn(string(utf.Put(nil, sign)))
	case r.rest == "", strings.HasPrefix(r.rest, "]]>"):
		return api.ErrXML
	}
	return r.goOn(r.sign())
}

// mark reads one of the things that part texts.
func (r *reader) mark() api.Errno {
	switch {
	case r.take("<!--"):
		return r.remark()
	case r.take("<?"):
		return r.instruction()
	case r.take("</"):
		return r.end()
	}
	r.take("<")
	return r.beginning()
}

// remark reads a remark behind its first signs.
func (r *reader) remark() api.Errno {
	// The first -- must be the one of the end: so there is none within, and no - that would stand at its end.
	if _, e := r.upTo("--"); e != api.OK {
		return e
	}
	if !r.take(">") {
		return api.ErrXML
	}
	return api.OK
}

// instruction reads an instruction behind its first signs.
func (r *reader) instruction() api.Errno {
	name := r.name()
	if name == "" || utf.Map(name, utf.Low) == "xml" {
		return api.ErrXML
	}
	if r.take("?>") {
		return api.OK
	}
	if !r.blanks() {
		return api.ErrXML
	}
	_, e := r.upTo("?>")
	return e
}

// beginning reads an element's beginning behind its first sign.
func (r *reader) beginning() api.Errno {
	name := r.name()
	if name == "" {
		return api.ErrXML
	}
	attrs, e := r.attrs()
	switch {
	case e != api.OK:
		return e
	case len(r.open) == api.MaxDepth:
		return api.ErrDeep
	case len(r.nodes) == api.MaxNodes:
		return api.ErrMany
	}
	at := r.list(Node{Name: name, Attrs: attrs})
	if r.take("/>") {
		return api.OK
	}
	if !r.take(">") {
		return api.ErrXML
	}
	r.open = append(r.open, at)
	return api.OK
}

// end reads the innermost element's end behind its first two signs.
func (r *reader) end() api.Errno {
	last := len(r.open) - 1
	element := &r.nodes[r.open[last]]
	if r.name() != element.Name {
		return api.ErrXML
	}
	r.blanks()
	if !r.take(">") {
		return api.ErrXML
	}
	element.End = len(r.nodes)
	r.open = r.open[:last]
	return api.OK
}

// attrs reads an element's attributes, up to what ends its beginning.
func (r *reader) attrs() ([]Attr, api.Errno) {
	var attrs []Attr
	for {
		apart := r.blanks()
		if strings.HasPrefix(r.rest, ">") || strings.HasPrefix(r.rest, "/") {
			return attrs, api.OK
		}
		if !apart {
			return nil, api.ErrXML
		}
		a, e := r.attr()
		if e != api.OK {
			return nil, e
		}
		if slices.ContainsFunc(attrs, func(other Attr) bool { return other.Name == a.Name }) {
			return nil, api.ErrXML
		}
		attrs = append(attrs, a)
	}
}

// attr reads an attribute.
func (r *reader) attr() (Attr, api.Errno) {
	name := r.name()
	r.blanks()
	if name == "" || !r.take("=") {
		return Attr{}, api.ErrXML
	}
	r.blanks()
	for _, quote := range []string{`"`, "'"} {
		if r.take(quote) {
			val, e := r.value(quote)
			return Attr{Name: name, Val: val}, e
		}
	}
	return Attr{}, api.ErrXML
}

// value reads a value behind the quote that also ends it.
func (r *reader) value(quote string) (string, api.Errno) {
	var val []byte
	for !r.take(quote) {
		switch {
		case r.rest == "", strings.HasPrefix(r.rest, "<"):
			return "", api.ErrXML
		case r.take("&"):
			sign, e := r.reference()
			if e != api.OK {
				return "", e
			}
			val = utf.Put(val, sign)
		default:
			val = append(val, r.sign()...)
		}
	}
	return string(val), api.OK
}

// named is a sign that has a reference of its own.
type named struct {
	text string // the reference behind its &
	sign rune
}

// reference reads a reference behind its &: the sign that it tells.
func (r *reader) reference() (rune, api.Errno) {
	for _, n := range []named{{"lt;", '<'}, {"gt;", '>'}, {"amp;", '&'}, {"apos;", '\''}, {"quot;", '"'}} {
		if r.take(n.text) {
			return n.sign, api.OK
		}
	}
	switch {
	case r.take("#x"):
		return r.number(16)
	case r.take("#"):
		return r.number(10)
	}
	return 0, api.ErrXML
}

// number reads the digits of a reference, and what ends it: the sign by that number.
func (r *reader) number(base int) (rune, api.Errno) {
	digits, e := r.upTo(";")
	if e != api.OK {
		return 0, e
	}
	n, err := strconv.ParseUint(digits, base, 31) // 31 bits: what has more is no sign, nor a rune
	if err != nil || !Sign(rune(n)) {
		return 0, api.ErrXML
	}
	return rune(n), api.OK
}

// goOn lays signs behind the text that may go on.
func (r *reader) goOn(s string) api.Errno {
	// By its first sign a text will be one node more, whatever else follows.
	if s != "" && len(r.nodes) == api.MaxNodes {
		return api.ErrMany
	}
	r.text = append(r.text, s...)
	return api.OK
}

// endText lists the text that went on up to here, if there is one.
func (r *reader) endText() {
	if len(r.text) > 0 {
		r.list(Node{Text: string(r.text)})
		r.text = r.text[:0]
	}
}

// list lists a node, in the innermost element and with nothing in it yet: at which place.
func (r *reader) list(n Node) int {
	at := len(r.nodes)
	n.Parent, n.Level, n.End = -1, len(r.open), at+1
	if n.Level > 0 {
		n.Parent = r.open[n.Level-1]
	}
	r.nodes = append(r.nodes, n)
	return at
}

// take reads a text, if it stands here.
func (r *reader) take(s string) bool {
	behind, ok := strings.CutPrefix(r.rest, s)
	r.rest = behind
	return ok
}

// upTo reads all up to the first place where a text stands, and that text: what is ahead of it.
func (r *reader) upTo(s string) (string, api.Errno) {
	ahead, behind, ok := strings.Cut(r.rest, s)
	if !ok {
		return "", api.ErrXML
	}
	r.rest = behind
	return ahead, api.OK
}

// sign reads a sign, as its bytes.
func (r *reader) sign() string {
	_, n := utf.Next(r.rest)
	s := r.rest[:n]
	r.rest = r.rest[n:]
	return s
}

// blanks reads the blanks that stand here: whether there are any.
func (r *reader) blanks() bool {
	n := 0
	for n < len(r.rest) && blank(r.rest[n]) {
		n++
	}
	r.rest = r.rest[n:]
	return n > 0
}

// name reads the name that stands here; it is empty, if there is none.
func (r *reader) name() string {
	if first, _ := utf.Next(r.rest); !beginsName(first) {
		return ""
	}
	n := strings.IndexFunc(r.rest, func(sign rune) bool { return !inName(sign) })
	if n < 0 {
		n = len(r.rest)
	}
	// A copy, as a piece would keep the whole document.
	name := strings.Clone(r.rest[:n])
	r.rest = r.rest[n:]
	return name
}

// blank tells whether a byte is a blank.
func blank(c byte) bool { return c == ' ' || c == '\t' || c == '\n' || c == '\r' }

// beginsName tells whether a name may begin with a sign.
func beginsName(sign rune) bool {
	return 'A' <= sign && sign <= 'Z' || 'a' <= sign && sign <= 'z' || sign == '_' || sign == ':' || sign >= 0x80
}

// inName tells whether a sign may follow in a name.
func inName(sign rune) bool {
	return beginsName(sign) || '0' <= sign && sign <= '9' || sign == '-' || sign == '.'
}

package tree

import (
	"strings"

	"midstream/api"
)

// tokens is a sequence of tokens that is read from left to right. Behind an error there is no next token: whoever reads on comes to an end without finding anything, and has to ask for the error only then.
type tokens struct {
	list  []api.Token
	next  int // the number of the next token
	end   int // the place of an error behind the last token
	wrong api.Errno
	place int // where wrong was found
}

// peek is the next token, or the zero token, which is of no kind, if there is none.
func (t *tokens) peek() api.Token {
	if t.wrong != api.OK || t.next == len(t.list) {
		return api.Token{}
	}
	return t.list[t.next]
}

// here is the place of the next token.
func (t *tokens) here() int {
	if t.next == len(t.list) {
		return t.end
	}
	return t.list[t.next].At
}

// fail notes an error, unless there was one already.
func (t *tokens) fail(e api.Errno, place int) {
	if t.wrong == api.OK {
		t.wrong, t.place = e, place
	}
}

// refuse notes that the next token can't stand there.
func (t *tokens) refuse() {
	t.fail(api.ErrToken, t.here())
}

// takes passes the next token, if it is that keyword or mark.
func (t *tokens) takes(s string) bool {
	k := t.peek()
	if k.Kind != api.KWord && k.Kind != api.KMark || k.Text != s {
		return false
	}
	t.next++
	return true
}

// need passes that keyword or mark, without which nothing can continue.
func (t *tokens) need(s string) {
	if !t.takes(s) {
		t.refuse()
	}
}

// needEnd is for where no token may be left.
func (t *tokens) needEnd() {
	if t.next < len(t.list) {
		t.refuse()
	}
}

func (t *tokens) seesName() bool {
	return t.peek().Kind == api.KName
}

// name passes a name, without which nothing can continue.
func (t *tokens) name() string {
	if !t.seesName() {
		t.refuse()
		return ""
	}
	t.next++
	// Cloned, as the text of a token belongs to whoever passed it.
	return strings.Clone(t.list[t.next-1].Text)
}

// number passes a number, if there is one.
func (t *tokens) number() (int32, bool) {
	k := t.peek()
	if k.Kind != api.KNum {
		return 0, false
	}
	t.next++
	return k.N, true
}

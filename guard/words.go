package guard

import "shotdesk/machine"

// The modes, numbered as in package api.
const (
	runMode = iota
	warnMode
	softMode
	gasMode
	offMode
)

// The words of texts that are no names.
const (
	andWord   = "and"
	orWord    = "or"
	notWord   = "not"
	lessWord  = "<"
	moreWord  = ">"
	fromWord  = "from"
	toWord    = "to"
	openWord  = "("
	closeWord = ")"
	whenWord  = "when"
	forWord   = "for"
	doubtWord = "doubt"
	modeWord  = "mode"
	clearWord = "clear"
	warnWord  = "warn"
	softWord  = "soft"
	gasWord   = "gas"
	offWord   = "off"
)

var modeWords = [...]string{runMode: "run", warnMode: warnWord, softMode: softWord, gasMode: gasWord, offMode: offWord}

// Word returns the word of a mode.
func Word(mode int) string {
	if !validMode(mode) {
		return ""
	}
	return modeWords[mode]
}

func validMode(mode int) bool { return within(mode, runMode, offMode) }

// validName reports whether s may be the name of a signal or of a rule.
func validName(s string) bool { return machine.Name(s) && !reserved(s) }

// reserved reports whether a word would be taken for something else where a name stands; the mode run is no rule's.
func reserved(word string) bool {
	switch word {
	case andWord, orWord, notWord, fromWord, toWord, whenWord, forWord, doubtWord, modeWord, clearWord,
		warnWord, softWord, gasWord, offWord:
		return true
	}
	return false
}

func within(n, from, to int) bool { return from <= n && n <= to }

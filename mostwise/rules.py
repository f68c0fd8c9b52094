"""The four sorts of rules: facts, sure rules, rules that hold mostly, and blocks. A rule is never changed."""

from mostwise.words import filled, letters_of


class Rule:
    def __init__(self, label, head, body):
        self.label = label
        self.head = head
        # A tuple of its own, so that a list that is changed behind does not change the rule.
        self.body = tuple(body)

    def word(self):
        raise NotImplementedError("each sort of rule tells its own word")

    def speaks(self):
        return True

    def is_sure(self):
        return False

    def letters(self):
        told = []
        for statement in (self.head,) + self.body:
            told.extend([letter for letter in letters_of(statement) if letter not in told])
        return told

    def again(self, head, body):
        raise NotImplementedError("each sort of rule is made again as its own sort")

    def filled(self, given):
        return self.again(filled(self.head, given), [filled(premise, given) for premise in self.body])

    def row(self):
        words = [self.word(), self.label + ":"]
        # Without premises no words come in here, so that just one blank is left ahead of the arrow.
        if len(self.body) > 0:
            words.append(", ".join(self.body))
        return " ".join(words + ["->", self.head])


class Fact(Rule):
    def __init__(self, head):
        Rule.__init__(self, "", head, ())

    def word(self):
        return "fact"

    def is_sure(self):
        return True

    def again(self, head, body):
        return Fact(head)

    def row(self):
        return "fact " + self.head


class Sure(Rule):
    def word(self):
        return "sure"

    def is_sure(self):
        return True

    def again(self, head, body):
        return Sure(self.label, head, body)


class Most(Rule):
    def word(self):
        return "most"

    def again(self, head, body):
        return Most(self.label, head, body)


class Block(Rule):
    def word(self):
        return "block"

    def speaks(self):
        return False

    def again(self, head, body):
        return Block(self.label, head, body)

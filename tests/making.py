"""Companies for the tests: of texts, of forms, and drawn ones."""

import random

import players
from boxfall.companies import Company
from boxfall.sayings import Saying

NAMES = ("al", "bob", "amy", "xi", "zed", "y")


def of_texts(**rules):
    return Company({name: Saying.read(text) for name, text in rules.items()})


def company_of(told):
    """The company for the dicts of forms of players.py."""
    rules, own = told
    company = Company({name: Saying(form) for name, form in rules.items()})
    for pair, form in own.items():
        company[pair] = Saying(form)
    return company


def drawn_companies(seed, rounds, longest):
    """Drawn companies of whose acts with one another not too many boxes have a part."""
    source = random.Random(seed)
    for _ in range(rounds):
        told = players.drawn_company(source, NAMES, longest, 3)
        acts = [(one, other) for one in told[0] for other in told[0]]
        if len(players.boxes_that_count(told, acts)) <= 60:
            yield told


def drawn_with_lacking(seed, rounds):
    """Drawn companies from which some players were taken out."""
    source = random.Random(seed)
    for _ in range(rounds):
        rules, own = players.drawn_company(source, NAMES, 7, 3)
        rules = {name: rules[name] for name in rules if source.random() < 0.7 or len(rules) == 1}
        yield rules, {pair: own[pair] for pair in own if pair[0] in rules}
